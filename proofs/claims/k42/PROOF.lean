import PyProof.Rows.All
import Wide.All
import OpenK.AllK
import Wide.FinOn
import HandS.Base
import HandS.Call
import HandS.ClsMeth
import HandS.Codes
import HandS.Defaults
import HandS.Dict
import HandS.EndTab
import HandS.Exc
import HandS.ExcField
import HandS.ExcInit
import HandS.Flow
import HandS.ForMost
import HandS.Gcd
import HandS.HeadHook3
import HandS.IsInst
import HandS.Lambda
import HandS.More
import HandS.NoneIn
import HandS.Property
import HandS.ReplaceList
import HandS.ReplaceLit
import HandS.Rev
import HandS.Sort
import HandS.Star
import HandS.StrMore
import HandS.Style
import HandS.TupAny
import HandS.Walk
import HandS.WideBits
import HandS.Words
import HandS.WordsExc
import HandS.Zip
import KE.HD3
import KE.KExcInit
import KE.KIsAll
import KE.KNest
import KE.KTryMore
import KE.SortData
import PyProof.Draws
import PyProof.ReprRoads
import PyProof.StrBlock2
import PySem.Challenge.RW_likepanes_k42_whole_texts_of_trees
set_option Elab.async false
set_option linter.all false
set_option maxRecDepth 100000
set_option maxHeartbeats 0
/-! The top in segments, each the kernel's run from a written state to the next one. -/
namespace Hs
open PySem PySem.W PySem.Calls PyProof.Rows
/-! the library's twins by their names -/
noncomputable def execsQ : List Stmt → Env → Sem Flow := PySem.W.Fast.tw12563942051412417395
theorem execsQ_eq : @PySem.execs = execsQ := PySem.W.Fast.te12563942051412417395
noncomputable def blockQ : List Stmt → Env → Sem Unit := PySem.W.Fast.tw1066825118222455980
theorem blockQ_eq : @blockStart = blockQ := PySem.W.Fast.te1066825118222455980
noncomputable def okQ : Nat → Option Value → Thread → Bool := PySem.W.Fast.tw6613529449190102663
theorem okQ_eq : @stepOk = okQ := PySem.W.Fast.te6613529449190102663
noncomputable abbrev stQ (p : Program) (w : World) : SharedT → Thread → Option (SharedT × Thread) := HeadRun.stepQ (HeadRun.denQ HeadRun.tabQ) p w
theorem stQ_eq (p : Program) (w : World) : stepT (denote treeTable) p w = stQ p w := by rw [HeadRun.stepQ_eq, HeadRun.denQ_eq, HeadRun.tabQ_eq]
section
variable (st : SharedT → Thread → Option (SharedT × Thread)) (ok : Thread → Bool)
/-- a segment of the top, to its end -/
noncomputable def segF : Nat → SharedT → Thread → Option (Flow × SharedT × Code × Pos)
  | 0, _, _ => none
  | m + 1, s, t => match endAt 1 t with
    | some f => some (f, s, t.code, t.pos)
    | none => match ok t with
      | false => none
      | true => match st s t with
        | some (s', t') => HeadRun.frS s' fun s' => segF m s' t'
        | none => none
/-- so many steps of the top -/
noncomputable def goK : Nat → SharedT → Thread → Option (SharedT × Thread)
  | 0, s, t => some (s, t)
  | m + 1, s, t => match through t with
    | true => none
    | false => match ok t with
      | false => none
      | true => match st s t with
        | some (s', t') => HeadRun.frS s' fun s' => goK m s' t'
        | none => none
end
section
variable {tb : String → Option Builtin} {p : Program} {w : World} {n₀ : Nat} {ann : Option Value}
theorem segF_ok : ∀ {m : Nat} {s s' : SharedT} {t : Thread} {f : Flow} {c : Code} {q : Pos}, segF (stepT (denote tb) p w) (stepOk n₀ ann) m s t = some (f, s', c, q) → segRun tb p w n₀ ann 1 m s.abs t = some (f, s'.abs, c, q)
  | 0, _, _, _, _, _, _, h => by cases h
  | m + 1, s, s', t, f, c, q, h => by
    have h1 : (match endAt 1 t with
      | some f => some (f, s, t.code, t.pos)
      | none => match stepOk n₀ ann t with
        | false => none
        | true => match stepT (denote tb) p w s t with
          | some (s', t') => HeadRun.frS s' fun s' => segF (stepT (denote tb) p w) (stepOk n₀ ann) m s' t'
          | none => none) = some (f, s', c, q) := h
    unfold segRun
    cases he : endAt 1 t with
    | some x => rw [he] at h1; cases h1; rfl
    | none =>
      rw [he] at h1
      cases hk : stepOk n₀ ann t with
      | false => rw [hk] at h1; cases h1
      | true =>
        rw [hk] at h1
        cases hs : stepT (denote tb) p w s t with
        | none => rw [hs] at h1; cases h1
        | some r =>
          obtain ⟨s₂, t₂⟩ := r
          rw [hs] at h1
          have h2 : (HeadRun.frS s₂ fun s' => segF (stepT (denote tb) p w) (stepOk n₀ ann) m s' t₂) = some (f, s', c, q) := h1
          rw [HeadRun.frS_eq] at h2
          rw [stepT_spec hs]
          exact segF_ok h2
theorem goK_ok : ∀ {m : Nat} {s s' : SharedT} {t t' : Thread}, goK (stepT (denote tb) p w) (stepOk n₀ ann) m s t = some (s', t') → topGo tb p w n₀ ann m s.abs t = some (s'.abs, t')
  | 0, _, _, _, _, h => by
    cases h
    rfl
  | m + 1, s, s', t, t', h => by
    have h1 : (match through t with
      | true => none
      | false => match stepOk n₀ ann t with
        | false => none
        | true => match stepT (denote tb) p w s t with
          | some (s', t') => HeadRun.frS s' fun s' => goK (stepT (denote tb) p w) (stepOk n₀ ann) m s' t'
          | none => none) = some (s', t') := h
    unfold topGo
    cases he : through t with
    | true => rw [he] at h1; cases h1
    | false =>
      rw [he] at h1
      cases hk : stepOk n₀ ann t with
      | false => rw [hk] at h1; cases h1
      | true =>
        rw [hk] at h1
        cases hs : stepT (denote tb) p w s t with
        | none => rw [hs] at h1; cases h1
        | some r =>
          obtain ⟨s₂, t₂⟩ := r
          rw [hs] at h1
          have h2 : (HeadRun.frS s₂ fun s' => goK (stepT (denote tb) p w) (stepOk n₀ ann) m s' t₂) = some (s', t') := h1
          rw [HeadRun.frS_eq] at h2
          show (match step (denote tb) p w s.abs t with
            | .go s' t' => topGo tb p w n₀ ann m s' t'
            | .halt _ _ => none) = some (s'.abs, t')
          rw [stepT_spec hs]
          exact goK_ok h2
end
/-! the run's parts, by the twins -/
section
variable {p : Program} {w : World} {n₀ : Nat} {ann : Option Value} {env : Env} {q : Pos} {N : Nat} {r : Shared}
/-- ahead of the text's body -/
theorem pre_ok {m : Nat} {s s' : SharedT} {b : List Stmt} {pos : Pos} (h : goK (stQ p w) (okQ n₀ ann) m s (topStub p) = some (s', ⟨HeadRun.denQ HeadRun.tabQ (.body b env), .body b env, pos, [topFrame q]⟩))
    (k : topRun treeTable p w n₀ ann N s'.abs ⟨denote treeTable (.body b env), .body b env, pos, [topFrame q]⟩ = some r) : topRun treeTable p w n₀ ann (m + N) s.abs (topStub p) = some r := by
  rw [← stQ_eq, ← okQ_eq, ← HeadRun.denQ_eq, ← HeadRun.tabQ_eq] at h
  exact go_top (goK_ok h) k
/-- the body's own start -/
theorem block_ok {m : Nat} {s s' : SharedT} {b : List Stmt} {c : Code} {pos p' : Pos} (h : segF (stQ p w) (okQ n₀ ann) m s ⟨(blockQ b env).wrap (fun _ => doneF .next) deadEnd id id, c, pos, [topFrame q]⟩ = some (.next, s', c, p'))
    (k : topRun treeTable p w n₀ ann N s'.abs (restOf b env c p' [topFrame q]) = some r) : topRun treeTable p w n₀ ann (m + N) s.abs ⟨denote treeTable (.body b env), c, pos, [topFrame q]⟩ = some r := by
  rw [← stQ_eq, ← okQ_eq, ← blockQ_eq] at h
  exact piece_block (segF_ok h) k
/-- some of its statements -/
theorem some_ok {m : Nat} {s s' : SharedT} {l rest : List Stmt} {c : Code} {pos p' : Pos} (h : segF (stQ p w) (okQ n₀ ann) m s ⟨(execsQ l env).wrap doneF deadEnd id id, c, pos, [topFrame q]⟩ = some (.next, s', c, p'))
    (k : topRun treeTable p w n₀ ann N s'.abs (restOf rest env c p' [topFrame q]) = some r) : topRun treeTable p w n₀ ann (m + N) s.abs (restOf (l ++ rest) env c pos [topFrame q]) = some r := by
  rw [← stQ_eq, ← okQ_eq, ← execsQ_eq] at h
  exact piece_app (segF_ok h) k
/-- behind the last -/
theorem fin_ok {m : Nat} {s s' : SharedT} {c : Code} {pos : Pos} (h : HeadRun.goF (stQ p w) n₀ ann m s ⟨doneF .next, c, pos, [topFrame q]⟩ = some s') : topRun treeTable p w n₀ ann m s.abs (restOf [] env c pos [topFrame q]) = some s'.abs := by
  rw [← stQ_eq] at h
  exact HeadRun.goF_ok h
end
/-- the boot, the imports, the fences -/
theorem open_ok {M : Nat} {p : Program} {w : World} {A X : SharedT} {YA Y : Shared} (h1 : HeadRun.impF (stQ (opening p) w) M (HeadRun.startT (opening p)) (start (opening p)).2 = some A) (hA : A.abs = YA) (h2 : HeadRun.fenceQ p YA = some Y)
    (hX : X.abs = Y) : fencedOpening treeTable p w M = some Y ∧ Y.heap.objs.size = X.n := by
  rw [← stQ_eq] at h1
  have a1 := HeadRun.impF_ok h1
  rw [HeadRun.startT_eq, hA] at a1
  refine ⟨?_, ?_⟩
  · unfold fencedOpening
    rw [a1]
    show fenceModules? p YA = some Y
    rw [HeadRun.fenceQ_eq]
    exact h2
  · rw [← hX]
    exact absHeap_size _ _ _
theorem imp_mono {st : SharedT → Thread → Option (SharedT × Thread)} (k : Nat) : ∀ (m : Nat) (s : SharedT) (t : Thread) (r : SharedT), HeadRun.impF st m s t = some r → HeadRun.impF st (m + k) s t = some r
  | 0, _, _, _, h => by cases h
  | m + 1, s, t, r, h => by
    have h1 : (match t.atExitBegin with
      | some l => (match l with
        | [] => some s
        | _ :: _ => none)
      | none => match st s t with
        | some (s', t') => HeadRun.frS s' fun s' => HeadRun.impF st m s' t'
        | none => none) = some r := h
    rw [show m + 1 + k = m + k + 1 by omega]
    show (match t.atExitBegin with
      | some l => (match l with
        | [] => some s
        | _ :: _ => none)
      | none => match st s t with
        | some (s', t') => HeadRun.frS s' fun s' => HeadRun.impF st (m + k) s' t'
        | none => none) = some r
    cases ht : t.atExitBegin with
    | some l =>
      rw [ht] at h1
      exact h1
    | none =>
      rw [ht] at h1
      cases hs : st s t with
      | none =>
        rw [hs] at h1
        cases h1
      | some x =>
        obtain ⟨s2, t2⟩ := x
        rw [hs] at h1
        have h2 : (HeadRun.frS s2 fun s' => HeadRun.impF st m s' t2) = some r := h1
        show (HeadRun.frS s2 fun s' => HeadRun.impF st (m + k) s' t2) = some r
        rw [HeadRun.frS_eq] at h2 ⊢
        exact imp_mono k m _ _ _ h2
lay_quick PySem.W.openGood PySem.W.staticsOk PySem.W.namesBound PySem.W.laidKept
noncomputable def staticsQ : List PySem.Str → Heap → Heap → Bool := PySem.W.Fast.tw13471830651028734593
theorem staticsQ_eq : @staticsOk = staticsQ := PySem.W.Fast.te13471830651028734593
noncomputable def namesQ : Program → Heap → Bool := PySem.W.Fast.tw4683006035507612052
theorem namesQ_eq : @namesBound = namesQ := PySem.W.Fast.te4683006035507612052
noncomputable def laidQ : Heap → Heap → Bool := PySem.W.Fast.tw16898566250750103049
theorem laidQ_eq : @laidKept = laidQ := PySem.W.Fast.te16898566250750103049
theorem left_cut {p q : Program} {loose : List PySem.Str} {Xt : Shared → Bool} {α : Type} {Yf : Shared → α} {Ya : World → α} {N : Nat}
    (run : ∀ w : World, ∃ (x : SharedT) (s0 s1 : Shared) (ann : Option Value), (fencedOpening treeTable p w N = some s0 ∧ s0.heap.objs.size = x.n) ∧ x.abs = s0 ∧ (s0.heap.isNs mainGlobals && s0.gens.size == 0) = true ∧ s0.heap.nsMap mainGlobals "__annotations__" = ann ∧ topRun treeTable p w x.n ann N x.abs (topStub p) = some s1 ∧
      staticsQ (importedModules p.main.body) s0.heap s1.heap = true ∧ namesQ p s1.heap = true ∧ gensDone s1 = true ∧ laidQ s0.heap s1.heap = true ∧ openSeen q loose (importedModules p.main.body) Xt true s1 = openGood q loose ∧ Yf s1 = Ya w) :
    LeftO p q loose Xt Yf Ya N true := fun w => by
  obtain ⟨x, s0, s1, ann, ⟨a, en⟩, hx, b, ha, h1, k1, k2, k3, k4, l2, l3⟩ := run w
  rw [← staticsQ_eq] at k1
  rw [← namesQ_eq] at k2
  rw [← laidQ_eq] at k4
  rw [hx] at h1
  have l1' : (staticsOk (importedModules p.main.body) s0.heap s1.heap && namesBound p s1.heap && gensDone s1 && laidKept s0.heap s1.heap) = true := by
    rw [k1, k2, k3, k4]
    rfl
  have t : topFrom treeTable p w N s0 = some s1 := by
    unfold topFrom
    rw [b]
    show (topRun treeTable p w s0.heap.objs.size (s0.heap.nsMap mainGlobals "__annotations__") N s0 (topStub p)).bind _ = _
    rw [en, ha, h1]
    show (match staticsOk (importedModules p.main.body) s0.heap s1.heap && namesBound p s1.heap && gensDone s1 && laidKept s0.heap s1.heap with | true => some s1 | false => none) = _
    rw [l1']
  unfold openEnds
  rw [a]
  show (topFrom treeTable p w N s0).map _ = _
  rw [t]
  exact congrArg some (Prod.ext l2 l3)
theorem seen_ok {q : Program} {loose mods : List PySem.Str} {Xt : Shared → Bool} {s : Shared} (h1 : seen ((recsOf q).map (·.name)) (ownsOf q) [] { s with gens := #[] } = expectedOf q) (h2 : s.heap.bltView = bltViewBooted)
    (h3 : s.heap.keysOk (looseW q loose) ((recsOf q).map (·.name)) ((litsOf q).map (·.1)) ((clssOf q (looseW q loose)).map (·.name)) = true) (h4 : s.heap.accountedOkI mods = true) (h5 : tablesOk q s.heap = true) (h6 : Xt s = true) (h7 : tabsOk q s = true)
    (h8 : pinSeenD q (drecsOf q) s = pinGoodD (drecsOf q)) (h9 : plainSeenE q (looseW q loose) s = plainGoodE q (looseW q loose)) (h10 : plainSeenD q loose s = plainGoodD q loose) (h11 : wideSeen q s = wideGood q) (h12 : clsSeenW q loose s = clsGoodW q loose)
    (h13 : (s.heap.isNs mainGlobals && s.heap.isNs builtinsNs) = true) (h14 : s.gens = #[]) : openSeen q loose mods Xt true s = openGood q loose := by
  obtain ⟨h13a, h13b⟩ := Bool.and_eq_true_iff.mp h13
  unfold openSeen openGood
  rw [h1, h2, h3, h4, h5, h6, h7, h8, h9, h10, h11, h12, h13a, h13b, h14]
  rfl
end Hs

lay_quick PySem.Challenge.pw_likepanes_k42_whole_texts_of_trees
/-! The head: the top in segments, each the kernel's run from a written state to the next one. -/
namespace Hd
open PySem PySem.W PySem.Calls PyProof.Rows Hs
noncomputable abbrev R : OpenRow := OpenLaw.row PySem.Challenge.rw_likepanes_k42_whole_texts_of_trees
noncomputable abbrev T : Program := PySem.W.Fast.tw8275709226732259038
theorem pT : R.prog = T := PySem.W.Fast.te8275709226732259038
noncomputable def hT (i : Nat) : Stmt := T.main.body.getD i (.Pass ⟨0, 0, 0, 0⟩)
noncomputable abbrev s (x : String) : PySem.Str := PySem.Str.ofString x
noncomputable abbrev u (l : List Nat) : PySem.Str := ⟨⟨l⟩⟩
noncomputable def k (P : Params) (x : String) (t : Nat) (v : Value) : DictEntry := ⟨PyData.keyHash P (s x), .str (s x) t, v⟩
noncomputable def ku (P : Params) (x : PySem.Str) (t : Nat) (v : Value) : DictEntry := ⟨PyData.keyHash P x, .str x t, v⟩
noncomputable def fn (st : Stmt) (name qual : PySem.Str) (g : Addr) (cl : List (PySem.Str × Addr)) (d kd doc pm : Value) (an : Option Addr) (co ct : Value) (b : Addr) : FuncData := ⟨name, qual, L2.defArgs st, .stmts (L2.defBody st), L2.defScope st, g, cl, d, kd, doc, pm, an, co, ct, b⟩
noncomputable abbrev n (o : Obj) (a b : BT) : BT := .node o a b
noncomputable abbrev z : BT := .nil
/-! ### the states: the objects, the trees -/
noncomputable def o0 (P : Params) : Obj := ⟨(.type "dict"), none, (.dict #[k P "__name__" 1 (.str (s "builtins") 160), k P "__doc__" 2 (.builtin "builtins.__doc__:str#opaque"), k P "__package__" 3 (.builtin "builtins.__package__:str#opaque"), k P "__loader__" 4 (.builtin "builtins.__loader__:shared#opaque"), k P "__spec__" 5 (.builtin "builtins.__spec__#opaque"), k P "__build_class__" 6 (.builtin "__build_class__"), k P "__import__" 7 (.builtin "__import__"), k P "abs" 8 (.builtin "abs"), k P "all" 9 (.builtin "all"), k P "any" 10 (.builtin "any"), k P "ascii" 11 (.builtin "ascii"), k P "bin" 12 (.builtin "bin"), k P "breakpoint" 13 (.builtin "breakpoint"), k P "callable" 14 (.builtin "callable"), k P "chr" 15 (.builtin "chr"), k P "compile" 16 (.builtin "compile"), k P "delattr" 17 (.builtin "delattr"), k P "dir" 18 (.builtin "dir"), k P "divmod" 19 (.builtin "divmod"), k P "eval" 20 (.builtin "eval"), k P "exec" 21 (.builtin "exec"), k P "format" 22 (.builtin "format"), k P "getattr" 23 (.builtin "getattr"), k P "globals" 24 (.builtin "globals"), k P "hasattr" 25 (.builtin "hasattr"), k P "hash" 26 (.builtin "hash"), k P "hex" 27 (.builtin "hex"), k P "id" 28 (.builtin "id"), k P "input" 29 (.builtin "input"), k P "isinstance" 30 (.builtin "isinstance"), k P "issubclass" 31 (.builtin "issubclass"), k P "iter" 32 (.builtin "iter"), k P "aiter" 33 (.builtin "aiter"), k P "len" 34 (.builtin "len"), k P "locals" 35 (.builtin "locals"), k P "max" 36 (.builtin "max"), k P "min" 37 (.builtin "min"), k P "next" 38 (.builtin "next"), k P "anext" 39 (.builtin "anext"), k P "oct" 40 (.builtin "oct"), k P "ord" 41 (.builtin "ord"), k P "pow" 42 (.builtin "pow"), k P "print" 43 (.builtin "print"), k P "repr" 44 (.builtin "repr"), k P "round" 45 (.builtin "round"), k P "setattr" 46 (.builtin "setattr"), k P "sorted" 47 (.builtin "sorted"), k P "sum" 48 (.builtin "sum"), k P "vars" 49 (.builtin "vars"), k P "None" 50 .none, k P "Ellipsis" 51 .ellipsis, k P "NotImplemented" 52 .notImplemented, k P "False" 53 (.bool false), k P "True" 54 (.bool true), k P "bool" 55 (.type "bool"), k P "memoryview" 56 (.type "memoryview"), k P "bytearray" 57 (.type "bytearray"), k P "bytes" 58 (.type "bytes"), k P "classmethod" 59 (.type "classmethod"), k P "complex" 60 (.type "complex"), k P "dict" 61 (.type "dict"), k P "enumerate" 62 (.type "enumerate"), k P "filter" 63 (.type "filter"), k P "float" 64 (.type "float"), k P "frozenset" 65 (.type "frozenset"), k P "property" 66 (.type "property"), k P "int" 67 (.type "int"), k P "list" 68 (.type "list"), k P "map" 69 (.type "map"), k P "object" 70 (.type "object"), k P "range" 71 (.type "range"), k P "reversed" 72 (.type "reversed"), k P "set" 73 (.type "set"), k P "slice" 74 (.type "slice"), k P "staticmethod" 75 (.type "staticmethod"), k P "str" 76 (.type "str"), k P "super" 77 (.type "super"), k P "tuple" 78 (.type "tuple"), k P "type" 79 (.type "type"), k P "zip" 80 (.type "zip"), k P "__debug__" 81 (.bool true), k P "BaseException" 82 (.type "BaseException"), k P "BaseExceptionGroup" 83 (.type "BaseExceptionGroup"), k P "Exception" 84 (.type "Exception"), k P "GeneratorExit" 85 (.type "GeneratorExit"), k P "KeyboardInterrupt" 86 (.type "KeyboardInterrupt"), k P "SystemExit" 87 (.type "SystemExit"), k P "ArithmeticError" 88 (.type "ArithmeticError"), k P "AssertionError" 89 (.type "AssertionError"), k P "AttributeError" 90 (.type "AttributeError"), k P "BufferError" 91 (.type "BufferError"), k P "EOFError" 92 (.type "EOFError"), k P "ImportError" 93 (.type "ImportError"), k P "LookupError" 94 (.type "LookupError"), k P "MemoryError" 95 (.type "MemoryError"), k P "NameError" 96 (.type "NameError"), k P "OSError" 97 (.type "OSError"), k P "ReferenceError" 98 (.type "ReferenceError"), k P "RuntimeError" 99 (.type "RuntimeError"), k P "StopAsyncIteration" 100 (.type "StopAsyncIteration"), k P "StopIteration" 101 (.type "StopIteration"), k P "SyntaxError" 102 (.type "SyntaxError"), k P "SystemError" 103 (.type "SystemError"), k P "TypeError" 104 (.type "TypeError"), k P "ValueError" 105 (.type "ValueError"), k P "Warning" 106 (.type "Warning"), k P "FloatingPointError" 107 (.type "FloatingPointError"), k P "OverflowError" 108 (.type "OverflowError"), k P "ZeroDivisionError" 109 (.type "ZeroDivisionError"), k P "BytesWarning" 110 (.type "BytesWarning"), k P "DeprecationWarning" 111 (.type "DeprecationWarning"), k P "EncodingWarning" 112 (.type "EncodingWarning"), k P "FutureWarning" 113 (.type "FutureWarning"), k P "ImportWarning" 114 (.type "ImportWarning"), k P "PendingDeprecationWarning" 115 (.type "PendingDeprecationWarning"), k P "ResourceWarning" 116 (.type "ResourceWarning"), k P "RuntimeWarning" 117 (.type "RuntimeWarning"), k P "SyntaxWarning" 118 (.type "SyntaxWarning"), k P "UnicodeWarning" 119 (.type "UnicodeWarning"), k P "UserWarning" 120 (.type "UserWarning"), k P "BlockingIOError" 121 (.type "BlockingIOError"), k P "ChildProcessError" 122 (.type "ChildProcessError"), k P "ConnectionError" 123 (.type "ConnectionError"), k P "FileExistsError" 124 (.type "FileExistsError"), k P "FileNotFoundError" 125 (.type "FileNotFoundError"), k P "InterruptedError" 126 (.type "InterruptedError"), k P "IsADirectoryError" 127 (.type "IsADirectoryError"), k P "NotADirectoryError" 128 (.type "NotADirectoryError"), k P "PermissionError" 129 (.type "PermissionError"), k P "ProcessLookupError" 130 (.type "ProcessLookupError"), k P "TimeoutError" 131 (.type "TimeoutError"), k P "IndentationError" 132 (.type "IndentationError"), k P "_IncompleteInputError" 133 (.type "_IncompleteInputError"), k P "IndexError" 134 (.type "IndexError"), k P "KeyError" 135 (.type "KeyError"), k P "ModuleNotFoundError" 136 (.type "ModuleNotFoundError"), k P "NotImplementedError" 137 (.type "NotImplementedError"), k P "PythonFinalizationError" 138 (.type "PythonFinalizationError"), k P "RecursionError" 139 (.type "RecursionError"), k P "UnboundLocalError" 140 (.type "UnboundLocalError"), k P "UnicodeError" 141 (.type "UnicodeError"), k P "BrokenPipeError" 142 (.type "BrokenPipeError"), k P "ConnectionAbortedError" 143 (.type "ConnectionAbortedError"), k P "ConnectionRefusedError" 144 (.type "ConnectionRefusedError"), k P "ConnectionResetError" 145 (.type "ConnectionResetError"), k P "TabError" 146 (.type "TabError"), k P "UnicodeDecodeError" 147 (.type "UnicodeDecodeError"), k P "UnicodeEncodeError" 148 (.type "UnicodeEncodeError"), k P "UnicodeTranslateError" 149 (.type "UnicodeTranslateError"), k P "ExceptionGroup" 150 (.type "ExceptionGroup"), k P "EnvironmentError" 151 (.type "OSError"), k P "IOError" 152 (.type "OSError"), k P "open" 153 (.builtin "open"), k P "quit" 154 (.builtin "builtins.quit#opaque"), k P "exit" 155 (.builtin "builtins.exit#opaque"), k P "copyright" 156 (.builtin "builtins.copyright#opaque"), k P "credits" 157 (.builtin "builtins.credits#opaque"), k P "license" 158 (.builtin "builtins.license#opaque"), k P "help" 159 (.builtin "builtins.help#opaque")] 159), #[]⟩
noncomputable def o1 (P : Params) : Obj := ⟨(.type "dict"), none, (.dict #[k P "builtins" 162 (.ref 4), k P "__main__" 163 (.ref 5), k P "math" 285 (.ref 13)] 3), #[]⟩
noncomputable def o2 (P : Params) : Obj := ⟨.none, none, (.dict #[ku P (u [105, 109, 112, 111, 114, 116, 46, 108, 111, 97, 100, 101, 100, 46, 109, 97, 116, 104]) 186 (.bool true), k P "class._frozen_importlib_external._LoaderBasics" 191 (.ref 16), ku P (u [119, 97, 116, 99, 104, 101, 100, 46, 105, 109, 112, 111, 114, 116]) 207 (.ref 20), k P "class._frozen_importlib_external.FileLoader" 208 (.ref 22), k P "class._frozen_importlib_external.ExtensionFileLoader" 229 (.ref 27), k P "class._frozen_importlib.ModuleSpec" 257 (.ref 33), k P "sys.modules.booked-epoch" 286 (.int (3) 0), ku P (u [105, 109, 112, 111, 114, 116, 46, 108, 97, 116, 101, 114, 45, 108, 97, 105, 100, 46, 109, 97, 116, 104]) 362 (.bool true), k P "watched.library" 364 (.ref 38), k P "watched.library-objects" 0 (.str (u [13]) 0)] 10), #[]⟩
noncomputable def o3 (P : Params) : Obj := ⟨(.type "dict"), none, (.dict #[k P "__name__" 165 (.str (s "__main__") 164), k P "__doc__" 166 .none, k P "__package__" 167 .none, k P "__loader__" 168 (.builtin "__main__.__loader__#opaque"), k P "__spec__" 169 .none, k P "__annotations__" 170 (.ref 6), k P "__builtins__" 171 (.ref 4), k P "__file__" 173 (.str (s "/claim/cut.py") 172), k P "__cached__" 174 .none, k P "gcd" 370 (.builtin "math.gcd"), k P "isqrt" 373 (.builtin "math.isqrt")] 11), #[]⟩
noncomputable def o4 (P : Params) : Obj := ⟨(.type "module"), (some 0), .plain, #[]⟩
noncomputable def o5 (P : Params) : Obj := ⟨(.type "module"), (some 3), .plain, #[]⟩
noncomputable def o6 (P : Params) : Obj := ⟨(.type "dict"), none, (.dict #[] 0), #[]⟩
noncomputable def o7 (P : Params) : Obj := ⟨(.type "tuple"), none, (.seq #[] 0), #[]⟩
noncomputable def o8 (P : Params) : Obj := ⟨.none, none, (.fields #[]), #[]⟩
noncomputable def o9 (P : Params) : Obj := ⟨(.type "code"), none, (.fields #[(.str (s "<module>") 176), (.str (s "<module>") 177), (.str (s "/claim/cut.py") 178), (.int (1) 0), (.int (0) 0), (.int (0) 0), (.int (0) 0), (.int (0) 0), (.ref 7), (.bool false), (.int (175) 0), (.ref 8), .none, .none, .none, .none, (.int (179) 0), (.int (1) 0), (.str (s "/claim/cut.py") 180)]), #[]⟩
noncomputable def o10 (P : Params) : Obj := ⟨(.type "frame"), none, .plain, #[(some (.ref 9)), (some (.ref 3)), (some (.ref 3)), none, (some (.str (s "__main__") 164)), none, (some (.ref 0))]⟩
noncomputable def o11 (P : Params) : Obj := ⟨(.type "tuple"), none, (.seq #[(.str (s "gcd") 182), (.str (s "isqrt") 183)] 0), #[]⟩
noncomputable def o12 (P : Params) : Obj := ⟨(.type "dict"), none, (.dict #[k P "__name__" 288 (.str (s "math") 287), k P "__doc__" 289 (.builtin "math.__doc__:str#opaque"), k P "__package__" 291 (.str (s "") 290), k P "__loader__" 292 (.ref 29), k P "__spec__" 293 (.ref 37), k P "acos" 294 (.builtin "math.acos"), k P "acosh" 295 (.builtin "math.acosh"), k P "asin" 296 (.builtin "math.asin"), k P "asinh" 297 (.builtin "math.asinh"), k P "atan" 298 (.builtin "math.atan"), k P "atan2" 299 (.builtin "math.atan2"), k P "atanh" 300 (.builtin "math.atanh"), k P "cbrt" 301 (.builtin "math.cbrt"), k P "ceil" 302 (.builtin "math.ceil"), k P "copysign" 303 (.builtin "math.copysign"), k P "cos" 304 (.builtin "math.cos"), k P "cosh" 305 (.builtin "math.cosh"), k P "degrees" 306 (.builtin "math.degrees"), k P "dist" 307 (.builtin "math.dist"), k P "erf" 308 (.builtin "math.erf"), k P "erfc" 309 (.builtin "math.erfc"), k P "exp" 310 (.builtin "math.exp"), k P "exp2" 311 (.builtin "math.exp2"), k P "expm1" 312 (.builtin "math.expm1"), k P "fabs" 313 (.builtin "math.fabs"), k P "factorial" 314 (.builtin "math.factorial"), k P "floor" 315 (.builtin "math.floor"), k P "fma" 316 (.builtin "math.fma"), k P "fmod" 317 (.builtin "math.fmod"), k P "frexp" 318 (.builtin "math.frexp"), k P "fsum" 319 (.builtin "math.fsum"), k P "gamma" 320 (.builtin "math.gamma"), k P "gcd" 321 (.builtin "math.gcd"), k P "hypot" 322 (.builtin "math.hypot"), k P "isclose" 323 (.builtin "math.isclose"), k P "isfinite" 324 (.builtin "math.isfinite"), k P "isinf" 325 (.builtin "math.isinf"), k P "isnan" 326 (.builtin "math.isnan"), k P "isqrt" 327 (.builtin "math.isqrt"), k P "lcm" 328 (.builtin "math.lcm"), k P "ldexp" 329 (.builtin "math.ldexp"), k P "lgamma" 330 (.builtin "math.lgamma"), k P "log" 331 (.builtin "math.log"), k P "log1p" 332 (.builtin "math.log1p"), k P "log10" 333 (.builtin "math.log10"), k P "log2" 334 (.builtin "math.log2"), k P "modf" 335 (.builtin "math.modf"), k P "pow" 336 (.builtin "math.pow"), k P "radians" 337 (.builtin "math.radians"), k P "remainder" 338 (.builtin "math.remainder"), k P "sin" 339 (.builtin "math.sin"), k P "sinh" 340 (.builtin "math.sinh"), k P "sqrt" 341 (.builtin "math.sqrt"), k P "tan" 342 (.builtin "math.tan"), k P "tanh" 343 (.builtin "math.tanh"), k P "sumprod" 344 (.builtin "math.sumprod"), k P "trunc" 345 (.builtin "math.trunc"), k P "prod" 346 (.builtin "math.prod"), k P "perm" 347 (.builtin "math.perm"), k P "comb" 348 (.builtin "math.comb"), k P "nextafter" 349 (.builtin "math.nextafter"), k P "ulp" 350 (.builtin "math.ulp"), k P "__file__" 351 (.str (u [47, 110, 105, 120, 47, 115, 116, 111, 114, 101, 47, 119, 106, 49, 102, 53, 54, 113, 107, 121, 52, 112, 109, 106, 99, 55, 108, 48, 114, 54, 98, 54, 108, 55, 119, 104, 110, 110, 119, 55, 104, 112, 54, 45, 112, 121, 116, 104, 111, 110, 51, 45, 51, 46, 49, 51, 46, 49, 53, 47, 108, 105, 98, 47, 112, 121, 116, 104, 111, 110, 51, 46, 49, 51, 47, 108, 105, 98, 45, 100, 121, 110, 108, 111, 97, 100, 47, 109, 97, 116, 104, 46, 99, 112, 121, 116, 104, 111, 110, 45, 51, 49, 51, 45, 120, 56, 54, 95, 54, 52, 45, 108, 105, 110, 117, 120, 45, 103, 110, 117, 46, 115, 111]) 187), k P "pi" 353 (.float 4614256656552045848 352), k P "e" 355 (.float 4613303445314885481 354), k P "tau" 357 (.float 4618760256179416344 356), k P "inf" 359 (.float 9218868437227405312 358), k P "nan" 361 (.float 9221120237041090560 360)] 68), #[]⟩
noncomputable def o13 (P : Params) : Obj := ⟨(.type "module"), (some 12), .plain, #[]⟩
noncomputable def o14 (P : Params) : Obj := ⟨(.type "dict"), none, (.dict #[k P "name" 189 (.str (s "math") 188), k P "path" 190 (.str (u [47, 110, 105, 120, 47, 115, 116, 111, 114, 101, 47, 119, 106, 49, 102, 53, 54, 113, 107, 121, 52, 112, 109, 106, 99, 55, 108, 48, 114, 54, 98, 54, 108, 55, 119, 104, 110, 110, 119, 55, 104, 112, 54, 45, 112, 121, 116, 104, 111, 110, 51, 45, 51, 46, 49, 51, 46, 49, 53, 47, 108, 105, 98, 47, 112, 121, 116, 104, 111, 110, 51, 46, 49, 51, 47, 108, 105, 98, 45, 100, 121, 110, 108, 111, 97, 100, 47, 109, 97, 116, 104, 46, 99, 112, 121, 116, 104, 111, 110, 45, 51, 49, 51, 45, 120, 56, 54, 95, 54, 52, 45, 108, 105, 110, 117, 120, 45, 103, 110, 117, 46, 115, 111]) 187)] 2), #[]⟩
noncomputable def o15 (P : Params) : Obj := ⟨(.type "dict"), none, (.dict #[k P "__module__" 194 (.str (s "_frozen_importlib_external") 192), k P "__firstlineno__" 195 (.int (1001) 193), k P "__doc__" 196 (.builtin "_frozen_importlib_external._LoaderBasics.__doc__:str#opaque"), k P "is_package" 197 (.builtin "_frozen_importlib_external._LoaderBasics.is_package#opaque"), k P "create_module" 198 (.builtin "_frozen_importlib_external._LoaderBasics.create_module#opaque"), k P "exec_module" 199 (.builtin "_frozen_importlib_external._LoaderBasics.exec_module#opaque"), k P "load_module" 200 (.builtin "_frozen_importlib_external._LoaderBasics.load_module#opaque"), k P "__static_attributes__" 201 (.ref 17), k P "__dict__" 203 (.ref 18), k P "__weakref__" 205 (.ref 19)] 10), #[]⟩
noncomputable def o16 (P : Params) : Obj := ⟨(.type "type"), none, (.cls ⟨(s "_LoaderBasics"), [(.type "object")], [(.ref 16), (.type "object")], 15, (s "_LoaderBasics"), true, [], [(.ref 27)], false, none, false⟩), #[]⟩
noncomputable def o17 (P : Params) : Obj := ⟨(.type "tuple"), none, (.seq #[] 0), #[]⟩
noncomputable def o18 (P : Params) : Obj := ⟨(.type "getset_descriptor"), none, (.fields #[(.str (s "__dict__") 202), (.ref 16), (.builtin "function.__dict__"), (.builtin "function.__dict__#set")]), #[]⟩
noncomputable def o19 (P : Params) : Obj := ⟨(.type "getset_descriptor"), none, (.fields #[(.str (s "__weakref__") 204), (.ref 16), (.builtin "ExceptionGroup.__weakref__"), .none]), #[]⟩
noncomputable def o20 (P : Params) : Obj := ⟨.none, none, (.seq #[(.int (15) 0), (.str (u [6, 194, 10, 95, 95, 109, 111, 100, 117, 108, 101, 95, 95, 6, 192, 26, 95, 102, 114, 111, 122, 101, 110, 95, 105, 109, 112, 111, 114, 116, 108, 105, 98, 95, 101, 120, 116, 101, 114, 110, 97, 108, 6, 195, 15, 95, 95, 102, 105, 114, 115, 116, 108, 105, 110, 101, 110, 111, 95, 95, 4, 193, 0, 1001, 6, 196, 7, 95, 95, 100, 111, 99, 95, 95, 9, 59, 95, 102, 114, 111, 122, 101, 110, 95, 105, 109, 112, 111, 114, 116, 108, 105, 98, 95, 101, 120, 116, 101, 114, 110, 97, 108, 46, 95, 76, 111, 97, 100, 101, 114, 66, 97, 115, 105, 99, 115, 46, 95, 95, 100, 111, 99, 95, 95, 58, 115, 116, 114, 35, 111, 112, 97, 113, 117, 101, 6, 197, 10, 105, 115, 95, 112, 97, 99, 107, 97, 103, 101, 9, 58, 95, 102, 114, 111, 122, 101, 110, 95, 105, 109, 112, 111, 114, 116, 108, 105, 98, 95, 101, 120, 116, 101, 114, 110, 97, 108, 46, 95, 76, 111, 97, 100, 101, 114, 66, 97, 115, 105, 99, 115, 46, 105, 115, 95, 112, 97, 99, 107, 97, 103, 101, 35, 111, 112, 97, 113, 117, 101, 6, 198, 13, 99, 114, 101, 97, 116, 101, 95, 109, 111, 100, 117, 108, 101, 9, 61, 95, 102, 114, 111, 122, 101, 110, 95, 105, 109, 112, 111, 114, 116, 108, 105, 98, 95, 101, 120, 116, 101, 114, 110, 97, 108, 46, 95, 76, 111, 97, 100, 101, 114, 66, 97, 115, 105, 99, 115, 46, 99, 114, 101, 97, 116, 101, 95, 109, 111, 100, 117, 108, 101, 35, 111, 112, 97, 113, 117, 101, 6, 199, 11, 101, 120, 101, 99, 95, 109, 111, 100, 117, 108, 101, 9, 59, 95, 102, 114, 111, 122, 101, 110, 95, 105, 109, 112, 111, 114, 116, 108, 105, 98, 95, 101, 120, 116, 101, 114, 110, 97, 108, 46, 95, 76, 111, 97, 100, 101, 114, 66, 97, 115, 105, 99, 115, 46, 101, 120, 101, 99, 95, 109, 111, 100, 117, 108, 101, 35, 111, 112, 97, 113, 117, 101, 6, 200, 11, 108, 111, 97, 100, 95, 109, 111, 100, 117, 108, 101, 9, 59, 95, 102, 114, 111, 122, 101, 110, 95, 105, 109, 112, 111, 114, 116, 108, 105, 98, 95, 101, 120, 116, 101, 114, 110, 97, 108, 46, 95, 76, 111, 97, 100, 101, 114, 66, 97, 115, 105, 99, 115, 46, 108, 111, 97, 100, 95, 109, 111, 100, 117, 108, 101, 35, 111, 112, 97, 113, 117, 101, 6, 201, 21, 95, 95, 115, 116, 97, 116, 105, 99, 95, 97, 116, 116, 114, 105, 98, 117, 116, 101, 115, 95, 95, 4, 0, 0, 17, 6, 203, 8, 95, 95, 100, 105, 99, 116, 95, 95, 4, 0, 0, 18, 6, 205, 11, 95, 95, 119, 101, 97, 107, 114, 101, 102, 95, 95, 4, 0, 0, 19]) 0), (.bool true), (.bool true), (.str (s "") 206), (.int (21) 0), (.str (u [6, 213, 10, 95, 95, 109, 111, 100, 117, 108, 101, 95, 95, 6, 209, 26, 95, 102, 114, 111, 122, 101, 110, 95, 105, 109, 112, 111, 114, 116, 108, 105, 98, 95, 101, 120, 116, 101, 114, 110, 97, 108, 6, 214, 15, 95, 95, 102, 105, 114, 115, 116, 108, 105, 110, 101, 110, 111, 95, 95, 4, 210, 0, 1176, 6, 215, 7, 95, 95, 100, 111, 99, 95, 95, 9, 56, 95, 102, 114, 111, 122, 101, 110, 95, 105, 109, 112, 111, 114, 116, 108, 105, 98, 95, 101, 120, 116, 101, 114, 110, 97, 108, 46, 70, 105, 108, 101, 76, 111, 97, 100, 101, 114, 46, 95, 95, 100, 111, 99, 95, 95, 58, 115, 116, 114, 35, 111, 112, 97, 113, 117, 101, 6, 216, 8, 95, 95, 105, 110, 105, 116, 95, 95, 9, 53, 95, 102, 114, 111, 122, 101, 110, 95, 105, 109, 112, 111, 114, 116, 108, 105, 98, 95, 101, 120, 116, 101, 114, 110, 97, 108, 46, 70, 105, 108, 101, 76, 111, 97, 100, 101, 114, 46, 95, 95, 105, 110, 105, 116, 95, 95, 35, 111, 112, 97, 113, 117, 101, 6, 217, 6, 95, 95, 101, 113, 95, 95, 9, 51, 95, 102, 114, 111, 122, 101, 110, 95, 105, 109, 112, 111, 114, 116, 108, 105, 98, 95, 101, 120, 116, 101, 114, 110, 97, 108, 46, 70, 105, 108, 101, 76, 111, 97, 100, 101, 114, 46, 95, 95, 101, 113, 95, 95, 35, 111, 112, 97, 113, 117, 101, 6, 218, 8, 95, 95, 104, 97, 115, 104, 95, 95, 9, 53, 95, 102, 114, 111, 122, 101, 110, 95, 105, 109, 112, 111, 114, 116, 108, 105, 98, 95, 101, 120, 116, 101, 114, 110, 97, 108, 46, 70, 105, 108, 101, 76, 111, 97, 100, 101, 114, 46, 95, 95, 104, 97, 115, 104, 95, 95, 35, 111, 112, 97, 113, 117, 101, 6, 219, 11, 108, 111, 97, 100, 95, 109, 111, 100, 117, 108, 101, 9, 56, 95, 102, 114, 111, 122, 101, 110, 95, 105, 109, 112, 111, 114, 116, 108, 105, 98, 95, 101, 120, 116, 101, 114, 110, 97, 108, 46, 70, 105, 108, 101, 76, 111, 97, 100, 101, 114, 46, 108, 111, 97, 100, 95, 109, 111, 100, 117, 108, 101, 35, 111, 112, 97, 113, 117, 101, 6, 220, 12, 103, 101, 116, 95, 102, 105, 108, 101, 110, 97, 109, 101, 9, 57, 95, 102, 114, 111, 122, 101, 110, 95, 105, 109, 112, 111, 114, 116, 108, 105, 98, 95, 101, 120, 116, 101, 114, 110, 97, 108, 46, 70, 105, 108, 101, 76, 111, 97, 100, 101, 114, 46, 103, 101, 116, 95, 102, 105, 108, 101, 110, 97, 109, 101, 35, 111, 112, 97, 113, 117, 101, 6, 221, 8, 103, 101, 116, 95, 100, 97, 116, 97, 9, 53, 95, 102, 114, 111, 122, 101, 110, 95, 105, 109, 112, 111, 114, 116, 108, 105, 98, 95, 101, 120, 116, 101, 114, 110, 97, 108, 46, 70, 105, 108, 101, 76, 111, 97, 100, 101, 114, 46, 103, 101, 116, 95, 100, 97, 116, 97, 35, 111, 112, 97, 113, 117, 101, 6, 222, 19, 103, 101, 116, 95, 114, 101, 115, 111, 117, 114, 99, 101, 95, 114, 101, 97, 100, 101, 114, 9, 64, 95, 102, 114, 111, 122, 101, 110, 95, 105, 109, 112, 111, 114, 116, 108, 105, 98, 95, 101, 120, 116, 101, 114, 110, 97, 108, 46, 70, 105, 108, 101, 76, 111, 97, 100, 101, 114, 46, 103, 101, 116, 95, 114, 101, 115, 111, 117, 114, 99, 101, 95, 114, 101, 97, 100, 101, 114, 35, 111, 112, 97, 113, 117, 101, 6, 223, 21, 95, 95, 115, 116, 97, 116, 105, 99, 95, 97, 116, 116, 114, 105, 98, 117, 116, 101, 115, 95, 95, 4, 0, 0, 23, 6, 225, 8, 95, 95, 100, 105, 99, 116, 95, 95, 4, 0, 0, 24, 6, 227, 11, 95, 95, 119, 101, 97, 107, 114, 101, 102, 95, 95, 4, 0, 0, 25]) 0), (.bool true), (.bool true), (.str (s "") 228), (.int (26) 0), (.str (u [6, 234, 10, 95, 95, 109, 111, 100, 117, 108, 101, 95, 95, 6, 230, 26, 95, 102, 114, 111, 122, 101, 110, 95, 105, 109, 112, 111, 114, 116, 108, 105, 98, 95, 101, 120, 116, 101, 114, 110, 97, 108, 6, 235, 15, 95, 95, 102, 105, 114, 115, 116, 108, 105, 110, 101, 110, 111, 95, 95, 4, 231, 0, 1296, 6, 236, 7, 95, 95, 100, 111, 99, 95, 95, 9, 65, 95, 102, 114, 111, 122, 101, 110, 95, 105, 109, 112, 111, 114, 116, 108, 105, 98, 95, 101, 120, 116, 101, 114, 110, 97, 108, 46, 69, 120, 116, 101, 110, 115, 105, 111, 110, 70, 105, 108, 101, 76, 111, 97, 100, 101, 114, 46, 95, 95, 100, 111, 99, 95, 95, 58, 115, 116, 114, 35, 111, 112, 97, 113, 117, 101, 6, 237, 8, 95, 95, 105, 110, 105, 116, 95, 95, 9, 62, 95, 102, 114, 111, 122, 101, 110, 95, 105, 109, 112, 111, 114, 116, 108, 105, 98, 95, 101, 120, 116, 101, 114, 110, 97, 108, 46, 69, 120, 116, 101, 110, 115, 105, 111, 110, 70, 105, 108, 101, 76, 111, 97, 100, 101, 114, 46, 95, 95, 105, 110, 105, 116, 95, 95, 35, 111, 112, 97, 113, 117, 101, 6, 238, 6, 95, 95, 101, 113, 95, 95, 9, 60, 95, 102, 114, 111, 122, 101, 110, 95, 105, 109, 112, 111, 114, 116, 108, 105, 98, 95, 101, 120, 116, 101, 114, 110, 97, 108, 46, 69, 120, 116, 101, 110, 115, 105, 111, 110, 70, 105, 108, 101, 76, 111, 97, 100, 101, 114, 46, 95, 95, 101, 113, 95, 95, 35, 111, 112, 97, 113, 117, 101, 6, 239, 8, 95, 95, 104, 97, 115, 104, 95, 95, 9, 62, 95, 102, 114, 111, 122, 101, 110, 95, 105, 109, 112, 111, 114, 116, 108, 105, 98, 95, 101, 120, 116, 101, 114, 110, 97, 108, 46, 69, 120, 116, 101, 110, 115, 105, 111, 110, 70, 105, 108, 101, 76, 111, 97, 100, 101, 114, 46, 95, 95, 104, 97, 115, 104, 95, 95, 35, 111, 112, 97, 113, 117, 101, 6, 240, 13, 99, 114, 101, 97, 116, 101, 95, 109, 111, 100, 117, 108, 101, 9, 67, 95, 102, 114, 111, 122, 101, 110, 95, 105, 109, 112, 111, 114, 116, 108, 105, 98, 95, 101, 120, 116, 101, 114, 110, 97, 108, 46, 69, 120, 116, 101, 110, 115, 105, 111, 110, 70, 105, 108, 101, 76, 111, 97, 100, 101, 114, 46, 99, 114, 101, 97, 116, 101, 95, 109, 111, 100, 117, 108, 101, 35, 111, 112, 97, 113, 117, 101, 6, 241, 11, 101, 120, 101, 99, 95, 109, 111, 100, 117, 108, 101, 9, 65, 95, 102, 114, 111, 122, 101, 110, 95, 105, 109, 112, 111, 114, 116, 108, 105, 98, 95, 101, 120, 116, 101, 114, 110, 97, 108, 46, 69, 120, 116, 101, 110, 115, 105, 111, 110, 70, 105, 108, 101, 76, 111, 97, 100, 101, 114, 46, 101, 120, 101, 99, 95, 109, 111, 100, 117, 108, 101, 35, 111, 112, 97, 113, 117, 101, 6, 242, 10, 105, 115, 95, 112, 97, 99, 107, 97, 103, 101, 9, 64, 95, 102, 114, 111, 122, 101, 110, 95, 105, 109, 112, 111, 114, 116, 108, 105, 98, 95, 101, 120, 116, 101, 114, 110, 97, 108, 46, 69, 120, 116, 101, 110, 115, 105, 111, 110, 70, 105, 108, 101, 76, 111, 97, 100, 101, 114, 46, 105, 115, 95, 112, 97, 99, 107, 97, 103, 101, 35, 111, 112, 97, 113, 117, 101, 6, 243, 8, 103, 101, 116, 95, 99, 111, 100, 101, 9, 62, 95, 102, 114, 111, 122, 101, 110, 95, 105, 109, 112, 111, 114, 116, 108, 105, 98, 95, 101, 120, 116, 101, 114, 110, 97, 108, 46, 69, 120, 116, 101, 110, 115, 105, 111, 110, 70, 105, 108, 101, 76, 111, 97, 100, 101, 114, 46, 103, 101, 116, 95, 99, 111, 100, 101, 35, 111, 112, 97, 113, 117, 101, 6, 244, 10, 103, 101, 116, 95, 115, 111, 117, 114, 99, 101, 9, 64, 95, 102, 114, 111, 122, 101, 110, 95, 105, 109, 112, 111, 114, 116, 108, 105, 98, 95, 101, 120, 116, 101, 114, 110, 97, 108, 46, 69, 120, 116, 101, 110, 115, 105, 111, 110, 70, 105, 108, 101, 76, 111, 97, 100, 101, 114, 46, 103, 101, 116, 95, 115, 111, 117, 114, 99, 101, 35, 111, 112, 97, 113, 117, 101, 6, 245, 12, 103, 101, 116, 95, 102, 105, 108, 101, 110, 97, 109, 101, 9, 66, 95, 102, 114, 111, 122, 101, 110, 95, 105, 109, 112, 111, 114, 116, 108, 105, 98, 95, 101, 120, 116, 101, 114, 110, 97, 108, 46, 69, 120, 116, 101, 110, 115, 105, 111, 110, 70, 105, 108, 101, 76, 111, 97, 100, 101, 114, 46, 103, 101, 116, 95, 102, 105, 108, 101, 110, 97, 109, 101, 35, 111, 112, 97, 113, 117, 101, 6, 246, 21, 95, 95, 115, 116, 97, 116, 105, 99, 95, 97, 116, 116, 114, 105, 98, 117, 116, 101, 115, 95, 95, 4, 0, 0, 28]) 0), (.bool true), (.bool true), (.str (s "") 247), (.int (32) 0), (.str (u [6, 268, 10, 95, 95, 109, 111, 100, 117, 108, 101, 95, 95, 6, 258, 17, 95, 102, 114, 111, 122, 101, 110, 95, 105, 109, 112, 111, 114, 116, 108, 105, 98, 6, 269, 15, 95, 95, 102, 105, 114, 115, 116, 108, 105, 110, 101, 110, 111, 95, 95, 4, 259, 0, 562, 6, 270, 7, 95, 95, 100, 111, 99, 95, 95, 9, 47, 95, 102, 114, 111, 122, 101, 110, 95, 105, 109, 112, 111, 114, 116, 108, 105, 98, 46, 77, 111, 100, 117, 108, 101, 83, 112, 101, 99, 46, 95, 95, 100, 111, 99, 95, 95, 58, 115, 116, 114, 35, 111, 112, 97, 113, 117, 101, 6, 271, 8, 95, 95, 105, 110, 105, 116, 95, 95, 9, 44, 95, 102, 114, 111, 122, 101, 110, 95, 105, 109, 112, 111, 114, 116, 108, 105, 98, 46, 77, 111, 100, 117, 108, 101, 83, 112, 101, 99, 46, 95, 95, 105, 110, 105, 116, 95, 95, 35, 111, 112, 97, 113, 117, 101, 6, 272, 8, 95, 95, 114, 101, 112, 114, 95, 95, 9, 44, 95, 102, 114, 111, 122, 101, 110, 95, 105, 109, 112, 111, 114, 116, 108, 105, 98, 46, 77, 111, 100, 117, 108, 101, 83, 112, 101, 99, 46, 95, 95, 114, 101, 112, 114, 95, 95, 35, 111, 112, 97, 113, 117, 101, 6, 273, 6, 95, 95, 101, 113, 95, 95, 9, 42, 95, 102, 114, 111, 122, 101, 110, 95, 105, 109, 112, 111, 114, 116, 108, 105, 98, 46, 77, 111, 100, 117, 108, 101, 83, 112, 101, 99, 46, 95, 95, 101, 113, 95, 95, 35, 111, 112, 97, 113, 117, 101, 6, 274, 6, 99, 97, 99, 104, 101, 100, 9, 42, 95, 102, 114, 111, 122, 101, 110, 95, 105, 109, 112, 111, 114, 116, 108, 105, 98, 46, 77, 111, 100, 117, 108, 101, 83, 112, 101, 99, 46, 99, 97, 99, 104, 101, 100, 35, 111, 112, 97, 113, 117, 101, 6, 275, 6, 112, 97, 114, 101, 110, 116, 9, 42, 95, 102, 114, 111, 122, 101, 110, 95, 105, 109, 112, 111, 114, 116, 108, 105, 98, 46, 77, 111, 100, 117, 108, 101, 83, 112, 101, 99, 46, 112, 97, 114, 101, 110, 116, 35, 111, 112, 97, 113, 117, 101, 6, 276, 12, 104, 97, 115, 95, 108, 111, 99, 97, 116, 105, 111, 110, 9, 48, 95, 102, 114, 111, 122, 101, 110, 95, 105, 109, 112, 111, 114, 116, 108, 105, 98, 46, 77, 111, 100, 117, 108, 101, 83, 112, 101, 99, 46, 104, 97, 115, 95, 108, 111, 99, 97, 116, 105, 111, 110, 35, 111, 112, 97, 113, 117, 101, 6, 277, 21, 95, 95, 115, 116, 97, 116, 105, 99, 95, 97, 116, 116, 114, 105, 98, 117, 116, 101, 115, 95, 95, 4, 0, 0, 34, 6, 279, 8, 95, 95, 100, 105, 99, 116, 95, 95, 4, 0, 0, 35, 6, 281, 11, 95, 95, 119, 101, 97, 107, 114, 101, 102, 95, 95, 4, 0, 0, 36, 6, 282, 8, 95, 95, 104, 97, 115, 104, 95, 95, 0]) 0), (.bool true), (.bool true), (.str (s "") 283)] 3), #[]⟩
noncomputable def o21 (P : Params) : Obj := ⟨(.type "dict"), none, (.dict #[k P "__module__" 213 (.str (s "_frozen_importlib_external") 209), k P "__firstlineno__" 214 (.int (1176) 210), k P "__doc__" 215 (.builtin "_frozen_importlib_external.FileLoader.__doc__:str#opaque"), k P "__init__" 216 (.builtin "_frozen_importlib_external.FileLoader.__init__#opaque"), k P "__eq__" 217 (.builtin "_frozen_importlib_external.FileLoader.__eq__#opaque"), k P "__hash__" 218 (.builtin "_frozen_importlib_external.FileLoader.__hash__#opaque"), k P "load_module" 219 (.builtin "_frozen_importlib_external.FileLoader.load_module#opaque"), k P "get_filename" 220 (.builtin "_frozen_importlib_external.FileLoader.get_filename#opaque"), k P "get_data" 221 (.builtin "_frozen_importlib_external.FileLoader.get_data#opaque"), k P "get_resource_reader" 222 (.builtin "_frozen_importlib_external.FileLoader.get_resource_reader#opaque"), k P "__static_attributes__" 223 (.ref 23), k P "__dict__" 225 (.ref 24), k P "__weakref__" 227 (.ref 25)] 13), #[]⟩
noncomputable def o22 (P : Params) : Obj := ⟨(.type "type"), none, (.cls ⟨(s "FileLoader"), [(.type "object")], [(.ref 22), (.type "object")], 21, (s "FileLoader"), true, [], [(.ref 27)], false, none, false⟩), #[]⟩
noncomputable def o23 (P : Params) : Obj := ⟨(.type "tuple"), none, (.seq #[(.str (s "name") 211), (.str (s "path") 212)] 0), #[]⟩
noncomputable def o24 (P : Params) : Obj := ⟨(.type "getset_descriptor"), none, (.fields #[(.str (s "__dict__") 224), (.ref 22), (.builtin "function.__dict__"), (.builtin "function.__dict__#set")]), #[]⟩
noncomputable def o25 (P : Params) : Obj := ⟨(.type "getset_descriptor"), none, (.fields #[(.str (s "__weakref__") 226), (.ref 22), (.builtin "ExceptionGroup.__weakref__"), .none]), #[]⟩
noncomputable def o26 (P : Params) : Obj := ⟨(.type "dict"), none, (.dict #[k P "__module__" 234 (.str (s "_frozen_importlib_external") 230), k P "__firstlineno__" 235 (.int (1296) 231), k P "__doc__" 236 (.builtin "_frozen_importlib_external.ExtensionFileLoader.__doc__:str#opaque"), k P "__init__" 237 (.builtin "_frozen_importlib_external.ExtensionFileLoader.__init__#opaque"), k P "__eq__" 238 (.builtin "_frozen_importlib_external.ExtensionFileLoader.__eq__#opaque"), k P "__hash__" 239 (.builtin "_frozen_importlib_external.ExtensionFileLoader.__hash__#opaque"), k P "create_module" 240 (.builtin "_frozen_importlib_external.ExtensionFileLoader.create_module#opaque"), k P "exec_module" 241 (.builtin "_frozen_importlib_external.ExtensionFileLoader.exec_module#opaque"), k P "is_package" 242 (.builtin "_frozen_importlib_external.ExtensionFileLoader.is_package#opaque"), k P "get_code" 243 (.builtin "_frozen_importlib_external.ExtensionFileLoader.get_code#opaque"), k P "get_source" 244 (.builtin "_frozen_importlib_external.ExtensionFileLoader.get_source#opaque"), k P "get_filename" 245 (.builtin "_frozen_importlib_external.ExtensionFileLoader.get_filename#opaque"), k P "__static_attributes__" 246 (.ref 28)] 13), #[]⟩
noncomputable def o27 (P : Params) : Obj := ⟨(.type "type"), none, (.cls ⟨(s "ExtensionFileLoader"), [(.ref 22), (.ref 16)], [(.ref 27), (.ref 22), (.ref 16), (.type "object")], 26, (s "ExtensionFileLoader"), true, [], [], false, none, false⟩), #[]⟩
noncomputable def o28 (P : Params) : Obj := ⟨(.type "tuple"), none, (.seq #[(.str (s "name") 232), (.str (s "path") 233)] 0), #[]⟩
noncomputable def o29 (P : Params) : Obj := ⟨(.ref 27), (some 14), .plain, #[]⟩
noncomputable def o30 (P : Params) : Obj := ⟨(.type "list"), none, (.seq #[] 0), #[]⟩
noncomputable def o31 (P : Params) : Obj := ⟨(.type "dict"), none, (.dict #[k P "name" 249 (.str (s "math") 248), k P "loader" 250 (.ref 29), k P "origin" 251 (.str (u [47, 110, 105, 120, 47, 115, 116, 111, 114, 101, 47, 119, 106, 49, 102, 53, 54, 113, 107, 121, 52, 112, 109, 106, 99, 55, 108, 48, 114, 54, 98, 54, 108, 55, 119, 104, 110, 110, 119, 55, 104, 112, 54, 45, 112, 121, 116, 104, 111, 110, 51, 45, 51, 46, 49, 51, 46, 49, 53, 47, 108, 105, 98, 47, 112, 121, 116, 104, 111, 110, 51, 46, 49, 51, 47, 108, 105, 98, 45, 100, 121, 110, 108, 111, 97, 100, 47, 109, 97, 116, 104, 46, 99, 112, 121, 116, 104, 111, 110, 45, 51, 49, 51, 45, 120, 56, 54, 95, 54, 52, 45, 108, 105, 110, 117, 120, 45, 103, 110, 117, 46, 115, 111]) 187), k P "loader_state" 252 .none, k P "submodule_search_locations" 253 .none, k P "_uninitialized_submodules" 254 (.ref 30), k P "_set_fileattr" 255 (.bool true), k P "_cached" 256 .none, k P "_initializing" 284 (.bool false)] 9), #[]⟩
noncomputable def o32 (P : Params) : Obj := ⟨(.type "dict"), none, (.dict #[k P "__module__" 268 (.str (s "_frozen_importlib") 258), k P "__firstlineno__" 269 (.int (562) 259), k P "__doc__" 270 (.builtin "_frozen_importlib.ModuleSpec.__doc__:str#opaque"), k P "__init__" 271 (.builtin "_frozen_importlib.ModuleSpec.__init__#opaque"), k P "__repr__" 272 (.builtin "_frozen_importlib.ModuleSpec.__repr__#opaque"), k P "__eq__" 273 (.builtin "_frozen_importlib.ModuleSpec.__eq__#opaque"), k P "cached" 274 (.builtin "_frozen_importlib.ModuleSpec.cached#opaque"), k P "parent" 275 (.builtin "_frozen_importlib.ModuleSpec.parent#opaque"), k P "has_location" 276 (.builtin "_frozen_importlib.ModuleSpec.has_location#opaque"), k P "__static_attributes__" 277 (.ref 34), k P "__dict__" 279 (.ref 35), k P "__weakref__" 281 (.ref 36), k P "__hash__" 282 .none] 13), #[]⟩
noncomputable def o33 (P : Params) : Obj := ⟨(.type "type"), none, (.cls ⟨(s "ModuleSpec"), [(.type "object")], [(.ref 33), (.type "object")], 32, (s "ModuleSpec"), true, [], [], false, none, false⟩), #[]⟩
noncomputable def o34 (P : Params) : Obj := ⟨(.type "tuple"), none, (.seq #[(.str (s "_cached") 260), (.str (s "_set_fileattr") 261), (.str (s "_uninitialized_submodules") 262), (.str (s "loader") 263), (.str (s "loader_state") 264), (.str (s "name") 265), (.str (s "origin") 266), (.str (s "submodule_search_locations") 267)] 0), #[]⟩
noncomputable def o35 (P : Params) : Obj := ⟨(.type "getset_descriptor"), none, (.fields #[(.str (s "__dict__") 278), (.ref 33), (.builtin "function.__dict__"), (.builtin "function.__dict__#set")]), #[]⟩
noncomputable def o36 (P : Params) : Obj := ⟨(.type "getset_descriptor"), none, (.fields #[(.str (s "__weakref__") 280), (.ref 33), (.builtin "ExceptionGroup.__weakref__"), .none]), #[]⟩
noncomputable def o37 (P : Params) : Obj := ⟨(.ref 33), (some 31), .plain, #[]⟩
noncomputable def o38 (P : Params) : Obj := ⟨.none, none, (.seq #[(.int (12) 0), (.str (u [6, 288, 8, 95, 95, 110, 97, 109, 101, 95, 95, 6, 287, 4, 109, 97, 116, 104, 6, 289, 7, 95, 95, 100, 111, 99, 95, 95, 9, 23, 109, 97, 116, 104, 46, 95, 95, 100, 111, 99, 95, 95, 58, 115, 116, 114, 35, 111, 112, 97, 113, 117, 101, 6, 291, 11, 95, 95, 112, 97, 99, 107, 97, 103, 101, 95, 95, 6, 290, 0, 6, 292, 10, 95, 95, 108, 111, 97, 100, 101, 114, 95, 95, 4, 0, 0, 29, 6, 293, 8, 95, 95, 115, 112, 101, 99, 95, 95, 4, 0, 0, 37, 6, 294, 4, 97, 99, 111, 115, 9, 9, 109, 97, 116, 104, 46, 97, 99, 111, 115, 6, 295, 5, 97, 99, 111, 115, 104, 9, 10, 109, 97, 116, 104, 46, 97, 99, 111, 115, 104, 6, 296, 4, 97, 115, 105, 110, 9, 9, 109, 97, 116, 104, 46, 97, 115, 105, 110, 6, 297, 5, 97, 115, 105, 110, 104, 9, 10, 109, 97, 116, 104, 46, 97, 115, 105, 110, 104, 6, 298, 4, 97, 116, 97, 110, 9, 9, 109, 97, 116, 104, 46, 97, 116, 97, 110, 6, 299, 5, 97, 116, 97, 110, 50, 9, 10, 109, 97, 116, 104, 46, 97, 116, 97, 110, 50, 6, 300, 5, 97, 116, 97, 110, 104, 9, 10, 109, 97, 116, 104, 46, 97, 116, 97, 110, 104, 6, 301, 4, 99, 98, 114, 116, 9, 9, 109, 97, 116, 104, 46, 99, 98, 114, 116, 6, 302, 4, 99, 101, 105, 108, 9, 9, 109, 97, 116, 104, 46, 99, 101, 105, 108, 6, 303, 8, 99, 111, 112, 121, 115, 105, 103, 110, 9, 13, 109, 97, 116, 104, 46, 99, 111, 112, 121, 115, 105, 103, 110, 6, 304, 3, 99, 111, 115, 9, 8, 109, 97, 116, 104, 46, 99, 111, 115, 6, 305, 4, 99, 111, 115, 104, 9, 9, 109, 97, 116, 104, 46, 99, 111, 115, 104, 6, 306, 7, 100, 101, 103, 114, 101, 101, 115, 9, 12, 109, 97, 116, 104, 46, 100, 101, 103, 114, 101, 101, 115, 6, 307, 4, 100, 105, 115, 116, 9, 9, 109, 97, 116, 104, 46, 100, 105, 115, 116, 6, 308, 3, 101, 114, 102, 9, 8, 109, 97, 116, 104, 46, 101, 114, 102, 6, 309, 4, 101, 114, 102, 99, 9, 9, 109, 97, 116, 104, 46, 101, 114, 102, 99, 6, 310, 3, 101, 120, 112, 9, 8, 109, 97, 116, 104, 46, 101, 120, 112, 6, 311, 4, 101, 120, 112, 50, 9, 9, 109, 97, 116, 104, 46, 101, 120, 112, 50, 6, 312, 5, 101, 120, 112, 109, 49, 9, 10, 109, 97, 116, 104, 46, 101, 120, 112, 109, 49, 6, 313, 4, 102, 97, 98, 115, 9, 9, 109, 97, 116, 104, 46, 102, 97, 98, 115, 6, 314, 9, 102, 97, 99, 116, 111, 114, 105, 97, 108, 9, 14, 109, 97, 116, 104, 46, 102, 97, 99, 116, 111, 114, 105, 97, 108, 6, 315, 5, 102, 108, 111, 111, 114, 9, 10, 109, 97, 116, 104, 46, 102, 108, 111, 111, 114, 6, 316, 3, 102, 109, 97, 9, 8, 109, 97, 116, 104, 46, 102, 109, 97, 6, 317, 4, 102, 109, 111, 100, 9, 9, 109, 97, 116, 104, 46, 102, 109, 111, 100, 6, 318, 5, 102, 114, 101, 120, 112, 9, 10, 109, 97, 116, 104, 46, 102, 114, 101, 120, 112, 6, 319, 4, 102, 115, 117, 109, 9, 9, 109, 97, 116, 104, 46, 102, 115, 117, 109, 6, 320, 5, 103, 97, 109, 109, 97, 9, 10, 109, 97, 116, 104, 46, 103, 97, 109, 109, 97, 6, 321, 3, 103, 99, 100, 9, 8, 109, 97, 116, 104, 46, 103, 99, 100, 6, 322, 5, 104, 121, 112, 111, 116, 9, 10, 109, 97, 116, 104, 46, 104, 121, 112, 111, 116, 6, 323, 7, 105, 115, 99, 108, 111, 115, 101, 9, 12, 109, 97, 116, 104, 46, 105, 115, 99, 108, 111, 115, 101, 6, 324, 8, 105, 115, 102, 105, 110, 105, 116, 101, 9, 13, 109, 97, 116, 104, 46, 105, 115, 102, 105, 110, 105, 116, 101, 6, 325, 5, 105, 115, 105, 110, 102, 9, 10, 109, 97, 116, 104, 46, 105, 115, 105, 110, 102, 6, 326, 5, 105, 115, 110, 97, 110, 9, 10, 109, 97, 116, 104, 46, 105, 115, 110, 97, 110, 6, 327, 5, 105, 115, 113, 114, 116, 9, 10, 109, 97, 116, 104, 46, 105, 115, 113, 114, 116, 6, 328, 3, 108, 99, 109, 9, 8, 109, 97, 116, 104, 46, 108, 99, 109, 6, 329, 5, 108, 100, 101, 120, 112, 9, 10, 109, 97, 116, 104, 46, 108, 100, 101, 120, 112, 6, 330, 6, 108, 103, 97, 109, 109, 97, 9, 11, 109, 97, 116, 104, 46, 108, 103, 97, 109, 109, 97, 6, 331, 3, 108, 111, 103, 9, 8, 109, 97, 116, 104, 46, 108, 111, 103, 6, 332, 5, 108, 111, 103, 49, 112, 9, 10, 109, 97, 116, 104, 46, 108, 111, 103, 49, 112, 6, 333, 5, 108, 111, 103, 49, 48, 9, 10, 109, 97, 116, 104, 46, 108, 111, 103, 49, 48, 6, 334, 4, 108, 111, 103, 50, 9, 9, 109, 97, 116, 104, 46, 108, 111, 103, 50, 6, 335, 4, 109, 111, 100, 102, 9, 9, 109, 97, 116, 104, 46, 109, 111, 100, 102, 6, 336, 3, 112, 111, 119, 9, 8, 109, 97, 116, 104, 46, 112, 111, 119, 6, 337, 7, 114, 97, 100, 105, 97, 110, 115, 9, 12, 109, 97, 116, 104, 46, 114, 97, 100, 105, 97, 110, 115, 6, 338, 9, 114, 101, 109, 97, 105, 110, 100, 101, 114, 9, 14, 109, 97, 116, 104, 46, 114, 101, 109, 97, 105, 110, 100, 101, 114, 6, 339, 3, 115, 105, 110, 9, 8, 109, 97, 116, 104, 46, 115, 105, 110, 6, 340, 4, 115, 105, 110, 104, 9, 9, 109, 97, 116, 104, 46, 115, 105, 110, 104, 6, 341, 4, 115, 113, 114, 116, 9, 9, 109, 97, 116, 104, 46, 115, 113, 114, 116, 6, 342, 3, 116, 97, 110, 9, 8, 109, 97, 116, 104, 46, 116, 97, 110, 6, 343, 4, 116, 97, 110, 104, 9, 9, 109, 97, 116, 104, 46, 116, 97, 110, 104, 6, 344, 7, 115, 117, 109, 112, 114, 111, 100, 9, 12, 109, 97, 116, 104, 46, 115, 117, 109, 112, 114, 111, 100, 6, 345, 5, 116, 114, 117, 110, 99, 9, 10, 109, 97, 116, 104, 46, 116, 114, 117, 110, 99, 6, 346, 4, 112, 114, 111, 100, 9, 9, 109, 97, 116, 104, 46, 112, 114, 111, 100, 6, 347, 4, 112, 101, 114, 109, 9, 9, 109, 97, 116, 104, 46, 112, 101, 114, 109, 6, 348, 4, 99, 111, 109, 98, 9, 9, 109, 97, 116, 104, 46, 99, 111, 109, 98, 6, 349, 9, 110, 101, 120, 116, 97, 102, 116, 101, 114, 9, 14, 109, 97, 116, 104, 46, 110, 101, 120, 116, 97, 102, 116, 101, 114, 6, 350, 3, 117, 108, 112, 9, 8, 109, 97, 116, 104, 46, 117, 108, 112, 6, 351, 8, 95, 95, 102, 105, 108, 101, 95, 95, 6, 187, 123, 47, 110, 105, 120, 47, 115, 116, 111, 114, 101, 47, 119, 106, 49, 102, 53, 54, 113, 107, 121, 52, 112, 109, 106, 99, 55, 108, 48, 114, 54, 98, 54, 108, 55, 119, 104, 110, 110, 119, 55, 104, 112, 54, 45, 112, 121, 116, 104, 111, 110, 51, 45, 51, 46, 49, 51, 46, 49, 53, 47, 108, 105, 98, 47, 112, 121, 116, 104, 111, 110, 51, 46, 49, 51, 47, 108, 105, 98, 45, 100, 121, 110, 108, 111, 97, 100, 47, 109, 97, 116, 104, 46, 99, 112, 121, 116, 104, 111, 110, 45, 51, 49, 51, 45, 120, 56, 54, 95, 54, 52, 45, 108, 105, 110, 117, 120, 45, 103, 110, 117, 46, 115, 111, 6, 353, 2, 112, 105, 5, 352, 4614256656552045848, 6, 355, 1, 101, 5, 354, 4613303445314885481, 6, 357, 3, 116, 97, 117, 5, 356, 4618760256179416344, 6, 359, 3, 105, 110, 102, 5, 358, 9218868437227405312, 6, 361, 3, 110, 97, 110, 5, 360, 9221120237041090560]) 0), (.bool true), (.bool false), (.str (s "math") 363)] 0), #[]⟩
noncomputable def ti (P : Params) : BT := (n (o0 P) (n (o1 P) (n (o3 P) (n (o7 P) (n (o15 P) (n (o31 P) z z) z) (n (o23 P) z z)) (n (o11 P) (n (o19 P) (n (o35 P) z z) z) (n (o27 P) z z))) (n (o5 P) (n (o9 P) (n (o17 P) (n (o33 P) z z) z) (n (o25 P) z z)) (n (o13 P) (n (o21 P) (n (o37 P) z z) z) (n (o29 P) z z)))) (n (o2 P) (n (o4 P) (n (o8 P) (n (o16 P) (n (o32 P) z z) z) (n (o24 P) z z)) (n (o12 P) (n (o20 P) (n (o36 P) z z) z) (n (o28 P) z z))) (n (o6 P) (n (o10 P) (n (o18 P) (n (o34 P) z z) z) (n (o26 P) z z)) (n (o14 P) (n (o22 P) (n (o38 P) z z) z) (n (o30 P) z z)))))
noncomputable def Xi (w : World) (os : OsState) : SharedT := ⟨ti w.params, 39, {}, #[], {}, 374, os⟩
noncomputable def li (P : Params) : List Obj := [o0 P, o1 P, o2 P, o3 P, o4 P, o5 P, o6 P, o7 P, o8 P, o9 P, o10 P, o11 P, o12 P, o13 P, o14 P, o15 P, o16 P, o17 P, o18 P, o19 P, o20 P, o21 P, o22 P, o23 P, o24 P, o25 P, o26 P, o27 P, o28 P, o29 P, o30 P, o31 P, o32 P, o33 P, o34 P, o35 P, o36 P, o37 P, o38 P]
noncomputable def Yi (w : World) (os : OsState) : Shared := ⟨⟨⟨li w.params⟩, {}⟩, #[], {}, 374, os⟩
noncomputable def o12_0 (P : Params) : Obj := ⟨(.type "dict"), none, (.dict #[k P "__name__" 288 (.str (s "math") 287), k P "__doc__" 289 (.builtin "off-the-table:math.__doc__:shared#opaque"), k P "__package__" 291 (.str (s "") 290), k P "__loader__" 292 (.builtin "off-the-table:math.__loader__:shared#opaque"), k P "__spec__" 293 (.builtin "off-the-table:math.__spec__:shared#opaque"), k P "acos" 294 (.builtin "off-the-table:math.acos:shared#opaque"), k P "acosh" 295 (.builtin "off-the-table:math.acosh:shared#opaque"), k P "asin" 296 (.builtin "off-the-table:math.asin:shared#opaque"), k P "asinh" 297 (.builtin "off-the-table:math.asinh:shared#opaque"), k P "atan" 298 (.builtin "off-the-table:math.atan:shared#opaque"), k P "atan2" 299 (.builtin "off-the-table:math.atan2:shared#opaque"), k P "atanh" 300 (.builtin "off-the-table:math.atanh:shared#opaque"), k P "cbrt" 301 (.builtin "off-the-table:math.cbrt:shared#opaque"), k P "ceil" 302 (.builtin "math.ceil"), k P "copysign" 303 (.builtin "math.copysign"), k P "cos" 304 (.builtin "off-the-table:math.cos:shared#opaque"), k P "cosh" 305 (.builtin "off-the-table:math.cosh:shared#opaque"), k P "degrees" 306 (.builtin "math.degrees"), k P "dist" 307 (.builtin "math.dist"), k P "erf" 308 (.builtin "off-the-table:math.erf:shared#opaque"), k P "erfc" 309 (.builtin "off-the-table:math.erfc:shared#opaque"), k P "exp" 310 (.builtin "off-the-table:math.exp:shared#opaque"), k P "exp2" 311 (.builtin "off-the-table:math.exp2:shared#opaque"), k P "expm1" 312 (.builtin "off-the-table:math.expm1:shared#opaque"), k P "fabs" 313 (.builtin "math.fabs"), k P "factorial" 314 (.builtin "math.factorial"), k P "floor" 315 (.builtin "math.floor"), k P "fma" 316 (.builtin "math.fma"), k P "fmod" 317 (.builtin "math.fmod"), k P "frexp" 318 (.builtin "math.frexp"), k P "fsum" 319 (.builtin "math.fsum"), k P "gamma" 320 (.builtin "off-the-table:math.gamma:shared#opaque"), k P "gcd" 321 (.builtin "math.gcd"), k P "hypot" 322 (.builtin "math.hypot"), k P "isclose" 323 (.builtin "math.isclose"), k P "isfinite" 324 (.builtin "math.isfinite"), k P "isinf" 325 (.builtin "math.isinf"), k P "isnan" 326 (.builtin "math.isnan"), k P "isqrt" 327 (.builtin "math.isqrt"), k P "lcm" 328 (.builtin "math.lcm"), k P "ldexp" 329 (.builtin "math.ldexp"), k P "lgamma" 330 (.builtin "off-the-table:math.lgamma:shared#opaque"), k P "log" 331 (.builtin "off-the-table:math.log:shared#opaque"), k P "log1p" 332 (.builtin "off-the-table:math.log1p:shared#opaque"), k P "log10" 333 (.builtin "off-the-table:math.log10:shared#opaque"), k P "log2" 334 (.builtin "off-the-table:math.log2:shared#opaque"), k P "modf" 335 (.builtin "math.modf"), k P "pow" 336 (.builtin "off-the-table:math.pow:shared#opaque"), k P "radians" 337 (.builtin "math.radians"), k P "remainder" 338 (.builtin "math.remainder"), k P "sin" 339 (.builtin "off-the-table:math.sin:shared#opaque"), k P "sinh" 340 (.builtin "off-the-table:math.sinh:shared#opaque"), k P "sqrt" 341 (.builtin "math.sqrt"), k P "tan" 342 (.builtin "off-the-table:math.tan:shared#opaque"), k P "tanh" 343 (.builtin "off-the-table:math.tanh:shared#opaque"), k P "sumprod" 344 (.builtin "math.sumprod"), k P "trunc" 345 (.builtin "math.trunc"), k P "prod" 346 (.builtin "math.prod"), k P "perm" 347 (.builtin "math.perm"), k P "comb" 348 (.builtin "math.comb"), k P "nextafter" 349 (.builtin "math.nextafter"), k P "ulp" 350 (.builtin "math.ulp"), k P "__file__" 351 (.str (u [47, 110, 105, 120, 47, 115, 116, 111, 114, 101, 47, 119, 106, 49, 102, 53, 54, 113, 107, 121, 52, 112, 109, 106, 99, 55, 108, 48, 114, 54, 98, 54, 108, 55, 119, 104, 110, 110, 119, 55, 104, 112, 54, 45, 112, 121, 116, 104, 111, 110, 51, 45, 51, 46, 49, 51, 46, 49, 53, 47, 108, 105, 98, 47, 112, 121, 116, 104, 111, 110, 51, 46, 49, 51, 47, 108, 105, 98, 45, 100, 121, 110, 108, 111, 97, 100, 47, 109, 97, 116, 104, 46, 99, 112, 121, 116, 104, 111, 110, 45, 51, 49, 51, 45, 120, 56, 54, 95, 54, 52, 45, 108, 105, 110, 117, 120, 45, 103, 110, 117, 46, 115, 111]) 187), k P "pi" 353 (.float 4614256656552045848 352), k P "e" 355 (.float 4613303445314885481 354), k P "tau" 357 (.float 4618760256179416344 356), k P "inf" 359 (.float 9218868437227405312 358), k P "nan" 361 (.float 9221120237041090560 360)] 68), #[]⟩
noncomputable def t0 (P : Params) : BT := (n (o0 P) (n (o1 P) (n (o3 P) (n (o7 P) (n (o15 P) (n (o31 P) z z) z) (n (o23 P) z z)) (n (o11 P) (n (o19 P) (n (o35 P) z z) z) (n (o27 P) z z))) (n (o5 P) (n (o9 P) (n (o17 P) (n (o33 P) z z) z) (n (o25 P) z z)) (n (o13 P) (n (o21 P) (n (o37 P) z z) z) (n (o29 P) z z)))) (n (o2 P) (n (o4 P) (n (o8 P) (n (o16 P) (n (o32 P) z z) z) (n (o24 P) z z)) (n (o12_0 P) (n (o20 P) (n (o36 P) z z) z) (n (o28 P) z z))) (n (o6 P) (n (o10 P) (n (o18 P) (n (o34 P) z z) z) (n (o26 P) z z)) (n (o14 P) (n (o22 P) (n (o38 P) z z) z) (n (o30 P) z z)))))
noncomputable def X0 (w : World) (os : OsState) : SharedT := ⟨t0 w.params, 39, {}, #[], {}, 374, os⟩
noncomputable def l0 (P : Params) : List Obj := [o0 P, o1 P, o2 P, o3 P, o4 P, o5 P, o6 P, o7 P, o8 P, o9 P, o10 P, o11 P, o12_0 P, o13 P, o14 P, o15 P, o16 P, o17 P, o18 P, o19 P, o20 P, o21 P, o22 P, o23 P, o24 P, o25 P, o26 P, o27 P, o28 P, o29 P, o30 P, o31 P, o32 P, o33 P, o34 P, o35 P, o36 P, o37 P, o38 P]
noncomputable def Y0 (w : World) (os : OsState) : Shared := ⟨⟨⟨l0 w.params⟩, {}⟩, #[], {}, 374, os⟩
noncomputable def o39 (P : Params) : Obj := ⟨(.type "tuple"), none, (.seq #[] 0), #[]⟩
noncomputable def o40 (P : Params) : Obj := ⟨.none, none, (.fields #[]), #[]⟩
noncomputable def o41 (P : Params) : Obj := ⟨(.type "code"), none, (.fields #[(.str (s "<module>") 375), (.str (s "<module>") 376), (.str (s "/claim/cut.py") 377), (.int (1) 0), (.int (0) 0), (.int (0) 0), (.int (0) 0), (.int (0) 0), (.ref 39), (.bool false), (.int (374) 0), (.ref 40), .none, .none, .none, .none, (.int (378) 0), (.int (1) 0), (.str (s "/claim/cut.py") 379)]), #[]⟩
noncomputable def o42 (P : Params) : Obj := ⟨(.type "frame"), none, .plain, #[(some (.ref 41)), (some (.ref 3)), (some (.ref 3)), none, (some (.str (s "__main__") 164)), none, (some (.ref 0))]⟩
noncomputable def ta (P : Params) : BT := (n (o0 P) (n (o1 P) (n (o3 P) (n (o7 P) (n (o15 P) (n (o31 P) z z) z) (n (o23 P) (n (o39 P) z z) z)) (n (o11 P) (n (o19 P) (n (o35 P) z z) z) (n (o27 P) z z))) (n (o5 P) (n (o9 P) (n (o17 P) (n (o33 P) z z) z) (n (o25 P) (n (o41 P) z z) z)) (n (o13 P) (n (o21 P) (n (o37 P) z z) z) (n (o29 P) z z)))) (n (o2 P) (n (o4 P) (n (o8 P) (n (o16 P) (n (o32 P) z z) z) (n (o24 P) (n (o40 P) z z) z)) (n (o12_0 P) (n (o20 P) (n (o36 P) z z) z) (n (o28 P) z z))) (n (o6 P) (n (o10 P) (n (o18 P) (n (o34 P) z z) z) (n (o26 P) (n (o42 P) z z) z)) (n (o14 P) (n (o22 P) (n (o38 P) z z) z) (n (o30 P) z z)))))
noncomputable def Xa (w : World) (os : OsState) : SharedT := ⟨ta w.params, 43, {}, #[], {}, 380, os⟩
noncomputable def tb (P : Params) : BT := (n (o0 P) (n (o1 P) (n (o3 P) (n (o7 P) (n (o15 P) (n (o31 P) z z) z) (n (o23 P) (n (o39 P) z z) z)) (n (o11 P) (n (o19 P) (n (o35 P) z z) z) (n (o27 P) z z))) (n (o5 P) (n (o9 P) (n (o17 P) (n (o33 P) z z) z) (n (o25 P) (n (o41 P) z z) z)) (n (o13 P) (n (o21 P) (n (o37 P) z z) z) (n (o29 P) z z)))) (n (o2 P) (n (o4 P) (n (o8 P) (n (o16 P) (n (o32 P) z z) z) (n (o24 P) (n (o40 P) z z) z)) (n (o12_0 P) (n (o20 P) (n (o36 P) z z) z) (n (o28 P) z z))) (n (o6 P) (n (o10 P) (n (o18 P) (n (o34 P) z z) z) (n (o26 P) (n (o42 P) z z) z)) (n (o14 P) (n (o22 P) (n (o38 P) z z) z) (n (o30 P) z z)))))
noncomputable def Xb (w : World) (os : OsState) : SharedT := ⟨tb w.params, 43, {}, #[], {}, 380, os⟩
noncomputable def o3_1 (P : Params) : Obj := ⟨(.type "dict"), none, (.dict #[k P "__name__" 165 (.str (s "likepanes.errors") 380), k P "__doc__" 166 .none, k P "__package__" 167 .none, k P "__loader__" 168 (.builtin "__main__.__loader__#opaque"), k P "__spec__" 169 .none, k P "__annotations__" 170 (.ref 6), k P "__builtins__" 171 (.ref 4), k P "__file__" 173 (.str (s "/claim/cut.py") 172), k P "__cached__" 174 .none, k P "gcd" 370 (.builtin "math.gcd"), k P "isqrt" 373 (.builtin "math.isqrt"), k P "BadValue" 399 (.ref 52), k P "InvalidText" 424 (.ref 72), k P "InvalidFraction" 449 (.ref 91), k P "InvalidNumber" 474 (.ref 110)] 15), #[]⟩
noncomputable def o40_1 (P : Params) : Obj := ⟨.none, none, (.fields #[(.int (3) 0), (.int (0) 0), (.ref 48), (.int (5) 0), (.int (0) 0), (.ref 61), (.int (10) 0), (.int (0) 0), (.ref 80), (.int (15) 0), (.int (0) 0), (.ref 99)]), #[]⟩
noncomputable def o43 (P : Params) : Obj := ⟨(.type "tuple"), none, (.seq #[(.type "ValueError")] 0), #[]⟩
noncomputable def o44 (P : Params) : Obj := ⟨(.type "builtin_function_or_method"), none, (.fields #[(.builtin "type.__prepare__"), (.type "type")]), #[]⟩
noncomputable def o45 (P : Params) : Obj := ⟨(.type "dict"), none, (.dict #[k P "__module__" 389 (.str (s "likepanes.errors") 380), k P "__qualname__" 391 (.str (s "BadValue") 390), k P "__firstlineno__" 393 (.int (3) 392), k P "__static_attributes__" 394 (.ref 50)] 4), #[]⟩
noncomputable def o46 (P : Params) : Obj := ⟨(.type "tuple"), none, (.seq #[] 0), #[]⟩
noncomputable def o47 (P : Params) : Obj := ⟨.none, none, (.fields #[]), #[]⟩
noncomputable def o48 (P : Params) : Obj := ⟨(.type "code"), none, (.fields #[(.str (s "BadValue") 384), (.str (s "BadValue") 385), (.str (s "/claim/cut.py") 386), (.int (3) 0), (.int (0) 0), (.int (0) 0), (.int (0) 0), (.int (0) 0), (.ref 46), (.bool false), (.int (374) 0), (.ref 47), .none, .none, .none, .none, (.int (387) 0), (.int (3) 0), (.str (s "/claim/cut.py") 388)]), #[]⟩
noncomputable def o49 (P : Params) : Obj := ⟨(.type "frame"), none, .plain, #[(some (.ref 48)), (some (.ref 3)), (some (.ref 45)), none, (some (.str (s "likepanes.errors") 380)), none, (some (.ref 0))]⟩
noncomputable def o50 (P : Params) : Obj := ⟨(.type "tuple"), none, (.seq #[] 0), #[]⟩
noncomputable def o51 (P : Params) : Obj := ⟨(.type "dict"), none, (.dict #[k P "__module__" 389 (.str (s "likepanes.errors") 380), k P "__firstlineno__" 393 (.int (3) 392), k P "__static_attributes__" 394 (.ref 50), k P "__weakref__" 396 (.ref 53), k P "__doc__" 397 .none] 3), #[]⟩
noncomputable def o52 (P : Params) : Obj := ⟨(.type "type"), none, (.cls ⟨(s "BadValue"), [(.type "ValueError")], [(.ref 52), (.type "ValueError"), (.type "Exception"), (.type "BaseException"), (.type "object")], 51, (s "BadValue"), true, [], [(.ref 72), (.ref 91), (.ref 110)], false, none, false⟩), #[(some (.ref 43)), none, (some (.str (s "BadValue") 382)), (some (.str (s "BadValue") 390)), (some (.builtin "ValueError.__new__")), (some (.bool true))]⟩
noncomputable def o53 (P : Params) : Obj := ⟨(.type "getset_descriptor"), none, (.fields #[(.str (s "__weakref__") 395), (.ref 52), (.builtin "ExceptionGroup.__weakref__"), .none]), #[]⟩
noncomputable def o54 (P : Params) : Obj := ⟨(.type "super"), none, (.fields #[(.ref 52), (.ref 52), (.ref 52)]), #[]⟩
noncomputable def o55 (P : Params) : Obj := ⟨(.type "builtin_function_or_method"), none, (.fields #[(.builtin "object.__init_subclass__"), (.ref 52)]), #[]⟩
noncomputable def o56 (P : Params) : Obj := ⟨(.type "tuple"), none, (.seq #[(.ref 52)] 0), #[]⟩
noncomputable def o57 (P : Params) : Obj := ⟨(.type "builtin_function_or_method"), none, (.fields #[(.builtin "type.__prepare__"), (.type "type")]), #[]⟩
noncomputable def o58 (P : Params) : Obj := ⟨(.type "dict"), none, (.dict #[k P "__module__" 407 (.str (s "likepanes.errors") 380), k P "__qualname__" 409 (.str (s "InvalidText") 408), k P "__firstlineno__" 411 (.int (5) 410), k P "__init__" 419 (.ref 69), k P "__static_attributes__" 421 (.ref 70)] 5), #[]⟩
noncomputable def o59 (P : Params) : Obj := ⟨(.type "tuple"), none, (.seq #[] 0), #[]⟩
noncomputable def o60 (P : Params) : Obj := ⟨.none, none, (.fields #[(.int (7) 0), (.int (4) 0), (.ref 68)]), #[]⟩
noncomputable def o61 (P : Params) : Obj := ⟨(.type "code"), none, (.fields #[(.str (s "InvalidText") 402), (.str (s "InvalidText") 403), (.str (s "/claim/cut.py") 404), (.int (5) 0), (.int (0) 0), (.int (0) 0), (.int (0) 0), (.int (0) 0), (.ref 59), (.bool false), (.int (374) 0), (.ref 60), .none, .none, .none, .none, (.int (405) 0), (.int (5) 0), (.str (s "/claim/cut.py") 406)]), #[]⟩
noncomputable def o62 (P : Params) : Obj := ⟨(.type "frame"), none, .plain, #[(some (.ref 61)), (some (.ref 3)), (some (.ref 58)), none, (some (.str (s "likepanes.errors") 380)), none, (some (.ref 0))]⟩
noncomputable def o63 (P : Params) : Obj := ⟨(.type "tuple"), none, (.seq #[] 0), #[]⟩
noncomputable def o64 (P : Params) : Obj := ⟨.none, none, (.fields #[]), #[]⟩
noncomputable def o65 (P : Params) : Obj := ⟨(.type "tuple"), none, (.seq #[(.str (s "self") 415), (.str (s "given") 416)] 0), #[]⟩
noncomputable def o66 (P : Params) : Obj := ⟨(.type "tuple"), none, (.seq #[] 0), #[]⟩
noncomputable def o67 (P : Params) : Obj := ⟨.none, none, (.func (fn (L2.inClass (hT 3) 0) (s "__init__") (s "InvalidText.__init__") 0 [] .none .none .none .none none .none .none 0)), #[]⟩
noncomputable def o68 (P : Params) : Obj := ⟨(.type "code"), none, (.fields #[(.str (s "__init__") 412), (.str (s "InvalidText.__init__") 413), (.str (s "/claim/cut.py") 414), (.int (7) 0), (.int (2) 0), (.int (0) 0), (.int (0) 0), (.int (3) 0), (.ref 63), (.bool true), (.int (374) 0), (.ref 64), .none, (.ref 65), (.ref 66), (.ref 67), (.int (417) 0), (.int (7) 0), (.str (s "/claim/cut.py") 418)]), #[]⟩
noncomputable def o69 (P : Params) : Obj := ⟨(.type "function"), none, (.func (fn (L2.inClass (hT 3) 0) (s "__init__") (s "InvalidText.__init__") 3 [] .none .none .none (.str (s "likepanes.errors") 380) none (.ref 68) .none 0)), #[]⟩
noncomputable def o70 (P : Params) : Obj := ⟨(.type "tuple"), none, (.seq #[(.str (s "given") 420)] 0), #[]⟩
noncomputable def o71 (P : Params) : Obj := ⟨(.type "dict"), none, (.dict #[k P "__module__" 407 (.str (s "likepanes.errors") 380), k P "__firstlineno__" 411 (.int (5) 410), k P "__init__" 419 (.ref 69), k P "__static_attributes__" 421 (.ref 70), k P "__doc__" 422 .none] 2), #[]⟩
noncomputable def o72 (P : Params) : Obj := ⟨(.type "type"), none, (.cls ⟨(s "InvalidText"), [(.ref 52)], [(.ref 72), (.ref 52), (.type "ValueError"), (.type "Exception"), (.type "BaseException"), (.type "object")], 71, (s "InvalidText"), true, [], [], false, none, false⟩), #[(some (.ref 56)), none, (some (.str (s "InvalidText") 400)), (some (.str (s "InvalidText") 408)), (some (.builtin "ValueError.__new__")), (some (.bool true))]⟩
noncomputable def o73 (P : Params) : Obj := ⟨(.type "super"), none, (.fields #[(.ref 72), (.ref 72), (.ref 72)]), #[]⟩
noncomputable def o74 (P : Params) : Obj := ⟨(.type "builtin_function_or_method"), none, (.fields #[(.builtin "object.__init_subclass__"), (.ref 72)]), #[]⟩
noncomputable def o75 (P : Params) : Obj := ⟨(.type "tuple"), none, (.seq #[(.ref 52)] 0), #[]⟩
noncomputable def o76 (P : Params) : Obj := ⟨(.type "builtin_function_or_method"), none, (.fields #[(.builtin "type.__prepare__"), (.type "type")]), #[]⟩
noncomputable def o77 (P : Params) : Obj := ⟨(.type "dict"), none, (.dict #[k P "__module__" 432 (.str (s "likepanes.errors") 380), k P "__qualname__" 434 (.str (s "InvalidFraction") 433), k P "__firstlineno__" 436 (.int (10) 435), k P "__init__" 444 (.ref 88), k P "__static_attributes__" 446 (.ref 89)] 5), #[]⟩
noncomputable def o78 (P : Params) : Obj := ⟨(.type "tuple"), none, (.seq #[] 0), #[]⟩
noncomputable def o79 (P : Params) : Obj := ⟨.none, none, (.fields #[(.int (12) 0), (.int (4) 0), (.ref 87)]), #[]⟩
noncomputable def o80 (P : Params) : Obj := ⟨(.type "code"), none, (.fields #[(.str (s "InvalidFraction") 427), (.str (s "InvalidFraction") 428), (.str (s "/claim/cut.py") 429), (.int (10) 0), (.int (0) 0), (.int (0) 0), (.int (0) 0), (.int (0) 0), (.ref 78), (.bool false), (.int (374) 0), (.ref 79), .none, .none, .none, .none, (.int (430) 0), (.int (10) 0), (.str (s "/claim/cut.py") 431)]), #[]⟩
noncomputable def o81 (P : Params) : Obj := ⟨(.type "frame"), none, .plain, #[(some (.ref 80)), (some (.ref 3)), (some (.ref 77)), none, (some (.str (s "likepanes.errors") 380)), none, (some (.ref 0))]⟩
noncomputable def o82 (P : Params) : Obj := ⟨(.type "tuple"), none, (.seq #[] 0), #[]⟩
noncomputable def o83 (P : Params) : Obj := ⟨.none, none, (.fields #[]), #[]⟩
noncomputable def o84 (P : Params) : Obj := ⟨(.type "tuple"), none, (.seq #[(.str (s "self") 440), (.str (s "given") 441)] 0), #[]⟩
noncomputable def o85 (P : Params) : Obj := ⟨(.type "tuple"), none, (.seq #[] 0), #[]⟩
noncomputable def o86 (P : Params) : Obj := ⟨.none, none, (.func (fn (L2.inClass (hT 4) 0) (s "__init__") (s "InvalidFraction.__init__") 0 [] .none .none .none .none none .none .none 0)), #[]⟩
noncomputable def o87 (P : Params) : Obj := ⟨(.type "code"), none, (.fields #[(.str (s "__init__") 437), (.str (s "InvalidFraction.__init__") 438), (.str (s "/claim/cut.py") 439), (.int (12) 0), (.int (2) 0), (.int (0) 0), (.int (0) 0), (.int (3) 0), (.ref 82), (.bool true), (.int (374) 0), (.ref 83), .none, (.ref 84), (.ref 85), (.ref 86), (.int (442) 0), (.int (12) 0), (.str (s "/claim/cut.py") 443)]), #[]⟩
noncomputable def o88 (P : Params) : Obj := ⟨(.type "function"), none, (.func (fn (L2.inClass (hT 4) 0) (s "__init__") (s "InvalidFraction.__init__") 3 [] .none .none .none (.str (s "likepanes.errors") 380) none (.ref 87) .none 0)), #[]⟩
noncomputable def o89 (P : Params) : Obj := ⟨(.type "tuple"), none, (.seq #[(.str (s "given") 445)] 0), #[]⟩
noncomputable def o90 (P : Params) : Obj := ⟨(.type "dict"), none, (.dict #[k P "__module__" 432 (.str (s "likepanes.errors") 380), k P "__firstlineno__" 436 (.int (10) 435), k P "__init__" 444 (.ref 88), k P "__static_attributes__" 446 (.ref 89), k P "__doc__" 447 .none] 2), #[]⟩
noncomputable def o91 (P : Params) : Obj := ⟨(.type "type"), none, (.cls ⟨(s "InvalidFraction"), [(.ref 52)], [(.ref 91), (.ref 52), (.type "ValueError"), (.type "Exception"), (.type "BaseException"), (.type "object")], 90, (s "InvalidFraction"), true, [], [], false, none, false⟩), #[(some (.ref 75)), none, (some (.str (s "InvalidFraction") 425)), (some (.str (s "InvalidFraction") 433)), (some (.builtin "ValueError.__new__")), (some (.bool true))]⟩
noncomputable def o92 (P : Params) : Obj := ⟨(.type "super"), none, (.fields #[(.ref 91), (.ref 91), (.ref 91)]), #[]⟩
noncomputable def o93 (P : Params) : Obj := ⟨(.type "builtin_function_or_method"), none, (.fields #[(.builtin "object.__init_subclass__"), (.ref 91)]), #[]⟩
noncomputable def o94 (P : Params) : Obj := ⟨(.type "tuple"), none, (.seq #[(.ref 52)] 0), #[]⟩
noncomputable def o95 (P : Params) : Obj := ⟨(.type "builtin_function_or_method"), none, (.fields #[(.builtin "type.__prepare__"), (.type "type")]), #[]⟩
noncomputable def o96 (P : Params) : Obj := ⟨(.type "dict"), none, (.dict #[k P "__module__" 457 (.str (s "likepanes.errors") 380), k P "__qualname__" 459 (.str (s "InvalidNumber") 458), k P "__firstlineno__" 461 (.int (15) 460), k P "__init__" 469 (.ref 107), k P "__static_attributes__" 471 (.ref 108)] 5), #[]⟩
noncomputable def o97 (P : Params) : Obj := ⟨(.type "tuple"), none, (.seq #[] 0), #[]⟩
noncomputable def o98 (P : Params) : Obj := ⟨.none, none, (.fields #[(.int (17) 0), (.int (4) 0), (.ref 106)]), #[]⟩
noncomputable def o99 (P : Params) : Obj := ⟨(.type "code"), none, (.fields #[(.str (s "InvalidNumber") 452), (.str (s "InvalidNumber") 453), (.str (s "/claim/cut.py") 454), (.int (15) 0), (.int (0) 0), (.int (0) 0), (.int (0) 0), (.int (0) 0), (.ref 97), (.bool false), (.int (374) 0), (.ref 98), .none, .none, .none, .none, (.int (455) 0), (.int (15) 0), (.str (s "/claim/cut.py") 456)]), #[]⟩
noncomputable def o100 (P : Params) : Obj := ⟨(.type "frame"), none, .plain, #[(some (.ref 99)), (some (.ref 3)), (some (.ref 96)), none, (some (.str (s "likepanes.errors") 380)), none, (some (.ref 0))]⟩
noncomputable def o101 (P : Params) : Obj := ⟨(.type "tuple"), none, (.seq #[] 0), #[]⟩
noncomputable def o102 (P : Params) : Obj := ⟨.none, none, (.fields #[]), #[]⟩
noncomputable def o103 (P : Params) : Obj := ⟨(.type "tuple"), none, (.seq #[(.str (s "self") 465), (.str (s "given") 466)] 0), #[]⟩
noncomputable def o104 (P : Params) : Obj := ⟨(.type "tuple"), none, (.seq #[] 0), #[]⟩
noncomputable def o105 (P : Params) : Obj := ⟨.none, none, (.func (fn (L2.inClass (hT 5) 0) (s "__init__") (s "InvalidNumber.__init__") 0 [] .none .none .none .none none .none .none 0)), #[]⟩
noncomputable def o106 (P : Params) : Obj := ⟨(.type "code"), none, (.fields #[(.str (s "__init__") 462), (.str (s "InvalidNumber.__init__") 463), (.str (s "/claim/cut.py") 464), (.int (17) 0), (.int (2) 0), (.int (0) 0), (.int (0) 0), (.int (3) 0), (.ref 101), (.bool true), (.int (374) 0), (.ref 102), .none, (.ref 103), (.ref 104), (.ref 105), (.int (467) 0), (.int (17) 0), (.str (s "/claim/cut.py") 468)]), #[]⟩
noncomputable def o107 (P : Params) : Obj := ⟨(.type "function"), none, (.func (fn (L2.inClass (hT 5) 0) (s "__init__") (s "InvalidNumber.__init__") 3 [] .none .none .none (.str (s "likepanes.errors") 380) none (.ref 106) .none 0)), #[]⟩
noncomputable def o108 (P : Params) : Obj := ⟨(.type "tuple"), none, (.seq #[(.str (s "given") 470)] 0), #[]⟩
noncomputable def o109 (P : Params) : Obj := ⟨(.type "dict"), none, (.dict #[k P "__module__" 457 (.str (s "likepanes.errors") 380), k P "__firstlineno__" 461 (.int (15) 460), k P "__init__" 469 (.ref 107), k P "__static_attributes__" 471 (.ref 108), k P "__doc__" 472 .none] 2), #[]⟩
noncomputable def o110 (P : Params) : Obj := ⟨(.type "type"), none, (.cls ⟨(s "InvalidNumber"), [(.ref 52)], [(.ref 110), (.ref 52), (.type "ValueError"), (.type "Exception"), (.type "BaseException"), (.type "object")], 109, (s "InvalidNumber"), true, [], [], false, none, false⟩), #[(some (.ref 94)), none, (some (.str (s "InvalidNumber") 450)), (some (.str (s "InvalidNumber") 458)), (some (.builtin "ValueError.__new__")), (some (.bool true))]⟩
noncomputable def o111 (P : Params) : Obj := ⟨(.type "super"), none, (.fields #[(.ref 110), (.ref 110), (.ref 110)]), #[]⟩
noncomputable def o112 (P : Params) : Obj := ⟨(.type "builtin_function_or_method"), none, (.fields #[(.builtin "object.__init_subclass__"), (.ref 110)]), #[]⟩
noncomputable def t1 (P : Params) : BT := (n (o0 P) (n (o1 P) (n (o3_1 P) (n (o7 P) (n (o15 P) (n (o31 P) (n (o63 P) z z) (n (o95 P) z z)) (n (o47 P) (n (o79 P) z z) (n (o111 P) z z))) (n (o23 P) (n (o39 P) (n (o71 P) z z) (n (o103 P) z z)) (n (o55 P) (n (o87 P) z z) z))) (n (o11 P) (n (o19 P) (n (o35 P) (n (o67 P) z z) (n (o99 P) z z)) (n (o51 P) (n (o83 P) z z) z)) (n (o27 P) (n (o43 P) (n (o75 P) z z) (n (o107 P) z z)) (n (o59 P) (n (o91 P) z z) z)))) (n (o5 P) (n (o9 P) (n (o17 P) (n (o33 P) (n (o65 P) z z) (n (o97 P) z z)) (n (o49 P) (n (o81 P) z z) z)) (n (o25 P) (n (o41 P) (n (o73 P) z z) (n (o105 P) z z)) (n (o57 P) (n (o89 P) z z) z))) (n (o13 P) (n (o21 P) (n (o37 P) (n (o69 P) z z) (n (o101 P) z z)) (n (o53 P) (n (o85 P) z z) z)) (n (o29 P) (n (o45 P) (n (o77 P) z z) (n (o109 P) z z)) (n (o61 P) (n (o93 P) z z) z))))) (n (o2 P) (n (o4 P) (n (o8 P) (n (o16 P) (n (o32 P) (n (o64 P) z z) (n (o96 P) z z)) (n (o48 P) (n (o80 P) z z) (n (o112 P) z z))) (n (o24 P) (n (o40_1 P) (n (o72 P) z z) (n (o104 P) z z)) (n (o56 P) (n (o88 P) z z) z))) (n (o12_0 P) (n (o20 P) (n (o36 P) (n (o68 P) z z) (n (o100 P) z z)) (n (o52 P) (n (o84 P) z z) z)) (n (o28 P) (n (o44 P) (n (o76 P) z z) (n (o108 P) z z)) (n (o60 P) (n (o92 P) z z) z)))) (n (o6 P) (n (o10 P) (n (o18 P) (n (o34 P) (n (o66 P) z z) (n (o98 P) z z)) (n (o50 P) (n (o82 P) z z) z)) (n (o26 P) (n (o42 P) (n (o74 P) z z) (n (o106 P) z z)) (n (o58 P) (n (o90 P) z z) z))) (n (o14 P) (n (o22 P) (n (o38 P) (n (o70 P) z z) (n (o102 P) z z)) (n (o54 P) (n (o86 P) z z) z)) (n (o30 P) (n (o46 P) (n (o78 P) z z) (n (o110 P) z z)) (n (o62 P) (n (o94 P) z z) z))))))
noncomputable def X1 (w : World) (os : OsState) : SharedT := ⟨t1 w.params, 113, {}, #[], {}, 475, os⟩
noncomputable def o2_2 (P : Params) : Obj := ⟨.none, none, (.dict #[ku P (u [105, 109, 112, 111, 114, 116, 46, 108, 111, 97, 100, 101, 100, 46, 109, 97, 116, 104]) 186 (.bool true), k P "class._frozen_importlib_external._LoaderBasics" 191 (.ref 16), ku P (u [119, 97, 116, 99, 104, 101, 100, 46, 105, 109, 112, 111, 114, 116]) 207 (.ref 20), k P "class._frozen_importlib_external.FileLoader" 208 (.ref 22), k P "class._frozen_importlib_external.ExtensionFileLoader" 229 (.ref 27), k P "class._frozen_importlib.ModuleSpec" 257 (.ref 33), k P "sys.modules.booked-epoch" 286 (.int (3) 0), ku P (u [105, 109, 112, 111, 114, 116, 46, 108, 97, 116, 101, 114, 45, 108, 97, 105, 100, 46, 109, 97, 116, 104]) 362 (.bool true), k P "watched.library" 364 (.ref 38), k P "watched.library-objects" 0 (.str (u [13]) 0), k P "type.__subclasses__.ArithmeticError.0" 566 (.int (179) 0), k P "type.__subclasses__.ArithmeticError.n" 567 (.int (1) 0)] 12), #[]⟩
noncomputable def o3_2 (P : Params) : Obj := ⟨(.type "dict"), none, (.dict #[k P "__name__" 165 (.str (s "likepanes.errors") 380), k P "__doc__" 166 .none, k P "__package__" 167 .none, k P "__loader__" 168 (.builtin "__main__.__loader__#opaque"), k P "__spec__" 169 .none, k P "__annotations__" 170 (.ref 6), k P "__builtins__" 171 (.ref 4), k P "__file__" 173 (.str (s "/claim/cut.py") 172), k P "__cached__" 174 .none, k P "gcd" 370 (.builtin "math.gcd"), k P "isqrt" 373 (.builtin "math.isqrt"), k P "BadValue" 399 (.ref 52), k P "InvalidText" 424 (.ref 72), k P "InvalidFraction" 449 (.ref 91), k P "InvalidNumber" 474 (.ref 110), k P "InvalidTree" 499 (.ref 129), k P "NotAShape" 524 (.ref 148), k P "InvalidEquation" 549 (.ref 167), k P "NoAnswer" 569 (.ref 179)] 19), #[]⟩
noncomputable def o40_2 (P : Params) : Obj := ⟨.none, none, (.fields #[(.int (3) 0), (.int (0) 0), (.ref 48), (.int (5) 0), (.int (0) 0), (.ref 61), (.int (10) 0), (.int (0) 0), (.ref 80), (.int (15) 0), (.int (0) 0), (.ref 99), (.int (20) 0), (.int (0) 0), (.ref 118), (.int (25) 0), (.int (0) 0), (.ref 137), (.int (30) 0), (.int (0) 0), (.ref 156), (.int (35) 0), (.int (0) 0), (.ref 175)]), #[]⟩
noncomputable def o52_2 (P : Params) : Obj := ⟨(.type "type"), none, (.cls ⟨(s "BadValue"), [(.type "ValueError")], [(.ref 52), (.type "ValueError"), (.type "Exception"), (.type "BaseException"), (.type "object")], 51, (s "BadValue"), true, [], [(.ref 72), (.ref 91), (.ref 110), (.ref 129), (.ref 148), (.ref 167)], false, none, false⟩), #[(some (.ref 43)), none, (some (.str (s "BadValue") 382)), (some (.str (s "BadValue") 390)), (some (.builtin "ValueError.__new__")), (some (.bool true))]⟩
noncomputable def o113 (P : Params) : Obj := ⟨(.type "tuple"), none, (.seq #[(.ref 52)] 0), #[]⟩
noncomputable def o114 (P : Params) : Obj := ⟨(.type "builtin_function_or_method"), none, (.fields #[(.builtin "type.__prepare__"), (.type "type")]), #[]⟩
noncomputable def o115 (P : Params) : Obj := ⟨(.type "dict"), none, (.dict #[k P "__module__" 482 (.str (s "likepanes.errors") 380), k P "__qualname__" 484 (.str (s "InvalidTree") 483), k P "__firstlineno__" 486 (.int (20) 485), k P "__init__" 494 (.ref 126), k P "__static_attributes__" 496 (.ref 127)] 5), #[]⟩
noncomputable def o116 (P : Params) : Obj := ⟨(.type "tuple"), none, (.seq #[] 0), #[]⟩
noncomputable def o117 (P : Params) : Obj := ⟨.none, none, (.fields #[(.int (22) 0), (.int (4) 0), (.ref 125)]), #[]⟩
noncomputable def o118 (P : Params) : Obj := ⟨(.type "code"), none, (.fields #[(.str (s "InvalidTree") 477), (.str (s "InvalidTree") 478), (.str (s "/claim/cut.py") 479), (.int (20) 0), (.int (0) 0), (.int (0) 0), (.int (0) 0), (.int (0) 0), (.ref 116), (.bool false), (.int (374) 0), (.ref 117), .none, .none, .none, .none, (.int (480) 0), (.int (20) 0), (.str (s "/claim/cut.py") 481)]), #[]⟩
noncomputable def o119 (P : Params) : Obj := ⟨(.type "frame"), none, .plain, #[(some (.ref 118)), (some (.ref 3)), (some (.ref 115)), none, (some (.str (s "likepanes.errors") 380)), none, (some (.ref 0))]⟩
noncomputable def o120 (P : Params) : Obj := ⟨(.type "tuple"), none, (.seq #[] 0), #[]⟩
noncomputable def o121 (P : Params) : Obj := ⟨.none, none, (.fields #[]), #[]⟩
noncomputable def o122 (P : Params) : Obj := ⟨(.type "tuple"), none, (.seq #[(.str (s "self") 490), (.str (s "given") 491)] 0), #[]⟩
noncomputable def o123 (P : Params) : Obj := ⟨(.type "tuple"), none, (.seq #[] 0), #[]⟩
noncomputable def o124 (P : Params) : Obj := ⟨.none, none, (.func (fn (L2.inClass (hT 6) 0) (s "__init__") (s "InvalidTree.__init__") 0 [] .none .none .none .none none .none .none 0)), #[]⟩
noncomputable def o125 (P : Params) : Obj := ⟨(.type "code"), none, (.fields #[(.str (s "__init__") 487), (.str (s "InvalidTree.__init__") 488), (.str (s "/claim/cut.py") 489), (.int (22) 0), (.int (2) 0), (.int (0) 0), (.int (0) 0), (.int (3) 0), (.ref 120), (.bool true), (.int (374) 0), (.ref 121), .none, (.ref 122), (.ref 123), (.ref 124), (.int (492) 0), (.int (22) 0), (.str (s "/claim/cut.py") 493)]), #[]⟩
noncomputable def o126 (P : Params) : Obj := ⟨(.type "function"), none, (.func (fn (L2.inClass (hT 6) 0) (s "__init__") (s "InvalidTree.__init__") 3 [] .none .none .none (.str (s "likepanes.errors") 380) none (.ref 125) .none 0)), #[]⟩
noncomputable def o127 (P : Params) : Obj := ⟨(.type "tuple"), none, (.seq #[(.str (s "given") 495)] 0), #[]⟩
noncomputable def o128 (P : Params) : Obj := ⟨(.type "dict"), none, (.dict #[k P "__module__" 482 (.str (s "likepanes.errors") 380), k P "__firstlineno__" 486 (.int (20) 485), k P "__init__" 494 (.ref 126), k P "__static_attributes__" 496 (.ref 127), k P "__doc__" 497 .none] 2), #[]⟩
noncomputable def o129 (P : Params) : Obj := ⟨(.type "type"), none, (.cls ⟨(s "InvalidTree"), [(.ref 52)], [(.ref 129), (.ref 52), (.type "ValueError"), (.type "Exception"), (.type "BaseException"), (.type "object")], 128, (s "InvalidTree"), true, [], [], false, none, false⟩), #[(some (.ref 113)), none, (some (.str (s "InvalidTree") 475)), (some (.str (s "InvalidTree") 483)), (some (.builtin "ValueError.__new__")), (some (.bool true))]⟩
noncomputable def o130 (P : Params) : Obj := ⟨(.type "super"), none, (.fields #[(.ref 129), (.ref 129), (.ref 129)]), #[]⟩
noncomputable def o131 (P : Params) : Obj := ⟨(.type "builtin_function_or_method"), none, (.fields #[(.builtin "object.__init_subclass__"), (.ref 129)]), #[]⟩
noncomputable def o132 (P : Params) : Obj := ⟨(.type "tuple"), none, (.seq #[(.ref 52)] 0), #[]⟩
noncomputable def o133 (P : Params) : Obj := ⟨(.type "builtin_function_or_method"), none, (.fields #[(.builtin "type.__prepare__"), (.type "type")]), #[]⟩
noncomputable def o134 (P : Params) : Obj := ⟨(.type "dict"), none, (.dict #[k P "__module__" 507 (.str (s "likepanes.errors") 380), k P "__qualname__" 509 (.str (s "NotAShape") 508), k P "__firstlineno__" 511 (.int (25) 510), k P "__init__" 519 (.ref 145), k P "__static_attributes__" 521 (.ref 146)] 5), #[]⟩
noncomputable def o135 (P : Params) : Obj := ⟨(.type "tuple"), none, (.seq #[] 0), #[]⟩
noncomputable def o136 (P : Params) : Obj := ⟨.none, none, (.fields #[(.int (27) 0), (.int (4) 0), (.ref 144)]), #[]⟩
noncomputable def o137 (P : Params) : Obj := ⟨(.type "code"), none, (.fields #[(.str (s "NotAShape") 502), (.str (s "NotAShape") 503), (.str (s "/claim/cut.py") 504), (.int (25) 0), (.int (0) 0), (.int (0) 0), (.int (0) 0), (.int (0) 0), (.ref 135), (.bool false), (.int (374) 0), (.ref 136), .none, .none, .none, .none, (.int (505) 0), (.int (25) 0), (.str (s "/claim/cut.py") 506)]), #[]⟩
noncomputable def o138 (P : Params) : Obj := ⟨(.type "frame"), none, .plain, #[(some (.ref 137)), (some (.ref 3)), (some (.ref 134)), none, (some (.str (s "likepanes.errors") 380)), none, (some (.ref 0))]⟩
noncomputable def o139 (P : Params) : Obj := ⟨(.type "tuple"), none, (.seq #[] 0), #[]⟩
noncomputable def o140 (P : Params) : Obj := ⟨.none, none, (.fields #[]), #[]⟩
noncomputable def o141 (P : Params) : Obj := ⟨(.type "tuple"), none, (.seq #[(.str (s "self") 515), (.str (s "given") 516)] 0), #[]⟩
noncomputable def o142 (P : Params) : Obj := ⟨(.type "tuple"), none, (.seq #[] 0), #[]⟩
noncomputable def o143 (P : Params) : Obj := ⟨.none, none, (.func (fn (L2.inClass (hT 7) 0) (s "__init__") (s "NotAShape.__init__") 0 [] .none .none .none .none none .none .none 0)), #[]⟩
noncomputable def o144 (P : Params) : Obj := ⟨(.type "code"), none, (.fields #[(.str (s "__init__") 512), (.str (s "NotAShape.__init__") 513), (.str (s "/claim/cut.py") 514), (.int (27) 0), (.int (2) 0), (.int (0) 0), (.int (0) 0), (.int (3) 0), (.ref 139), (.bool true), (.int (374) 0), (.ref 140), .none, (.ref 141), (.ref 142), (.ref 143), (.int (517) 0), (.int (27) 0), (.str (s "/claim/cut.py") 518)]), #[]⟩
noncomputable def o145 (P : Params) : Obj := ⟨(.type "function"), none, (.func (fn (L2.inClass (hT 7) 0) (s "__init__") (s "NotAShape.__init__") 3 [] .none .none .none (.str (s "likepanes.errors") 380) none (.ref 144) .none 0)), #[]⟩
noncomputable def o146 (P : Params) : Obj := ⟨(.type "tuple"), none, (.seq #[(.str (s "given") 520)] 0), #[]⟩
noncomputable def o147 (P : Params) : Obj := ⟨(.type "dict"), none, (.dict #[k P "__module__" 507 (.str (s "likepanes.errors") 380), k P "__firstlineno__" 511 (.int (25) 510), k P "__init__" 519 (.ref 145), k P "__static_attributes__" 521 (.ref 146), k P "__doc__" 522 .none] 2), #[]⟩
noncomputable def o148 (P : Params) : Obj := ⟨(.type "type"), none, (.cls ⟨(s "NotAShape"), [(.ref 52)], [(.ref 148), (.ref 52), (.type "ValueError"), (.type "Exception"), (.type "BaseException"), (.type "object")], 147, (s "NotAShape"), true, [], [], false, none, false⟩), #[(some (.ref 132)), none, (some (.str (s "NotAShape") 500)), (some (.str (s "NotAShape") 508)), (some (.builtin "ValueError.__new__")), (some (.bool true))]⟩
noncomputable def o149 (P : Params) : Obj := ⟨(.type "super"), none, (.fields #[(.ref 148), (.ref 148), (.ref 148)]), #[]⟩
noncomputable def o150 (P : Params) : Obj := ⟨(.type "builtin_function_or_method"), none, (.fields #[(.builtin "object.__init_subclass__"), (.ref 148)]), #[]⟩
noncomputable def o151 (P : Params) : Obj := ⟨(.type "tuple"), none, (.seq #[(.ref 52)] 0), #[]⟩
noncomputable def o152 (P : Params) : Obj := ⟨(.type "builtin_function_or_method"), none, (.fields #[(.builtin "type.__prepare__"), (.type "type")]), #[]⟩
noncomputable def o153 (P : Params) : Obj := ⟨(.type "dict"), none, (.dict #[k P "__module__" 532 (.str (s "likepanes.errors") 380), k P "__qualname__" 534 (.str (s "InvalidEquation") 533), k P "__firstlineno__" 536 (.int (30) 535), k P "__init__" 544 (.ref 164), k P "__static_attributes__" 546 (.ref 165)] 5), #[]⟩
noncomputable def o154 (P : Params) : Obj := ⟨(.type "tuple"), none, (.seq #[] 0), #[]⟩
noncomputable def o155 (P : Params) : Obj := ⟨.none, none, (.fields #[(.int (32) 0), (.int (4) 0), (.ref 163)]), #[]⟩
noncomputable def o156 (P : Params) : Obj := ⟨(.type "code"), none, (.fields #[(.str (s "InvalidEquation") 527), (.str (s "InvalidEquation") 528), (.str (s "/claim/cut.py") 529), (.int (30) 0), (.int (0) 0), (.int (0) 0), (.int (0) 0), (.int (0) 0), (.ref 154), (.bool false), (.int (374) 0), (.ref 155), .none, .none, .none, .none, (.int (530) 0), (.int (30) 0), (.str (s "/claim/cut.py") 531)]), #[]⟩
noncomputable def o157 (P : Params) : Obj := ⟨(.type "frame"), none, .plain, #[(some (.ref 156)), (some (.ref 3)), (some (.ref 153)), none, (some (.str (s "likepanes.errors") 380)), none, (some (.ref 0))]⟩
noncomputable def o158 (P : Params) : Obj := ⟨(.type "tuple"), none, (.seq #[] 0), #[]⟩
noncomputable def o159 (P : Params) : Obj := ⟨.none, none, (.fields #[]), #[]⟩
noncomputable def o160 (P : Params) : Obj := ⟨(.type "tuple"), none, (.seq #[(.str (s "self") 540), (.str (s "index") 541)] 0), #[]⟩
noncomputable def o161 (P : Params) : Obj := ⟨(.type "tuple"), none, (.seq #[] 0), #[]⟩
noncomputable def o162 (P : Params) : Obj := ⟨.none, none, (.func (fn (L2.inClass (hT 8) 0) (s "__init__") (s "InvalidEquation.__init__") 0 [] .none .none .none .none none .none .none 0)), #[]⟩
noncomputable def o163 (P : Params) : Obj := ⟨(.type "code"), none, (.fields #[(.str (s "__init__") 537), (.str (s "InvalidEquation.__init__") 538), (.str (s "/claim/cut.py") 539), (.int (32) 0), (.int (2) 0), (.int (0) 0), (.int (0) 0), (.int (3) 0), (.ref 158), (.bool true), (.int (374) 0), (.ref 159), .none, (.ref 160), (.ref 161), (.ref 162), (.int (542) 0), (.int (32) 0), (.str (s "/claim/cut.py") 543)]), #[]⟩
noncomputable def o164 (P : Params) : Obj := ⟨(.type "function"), none, (.func (fn (L2.inClass (hT 8) 0) (s "__init__") (s "InvalidEquation.__init__") 3 [] .none .none .none (.str (s "likepanes.errors") 380) none (.ref 163) .none 0)), #[]⟩
noncomputable def o165 (P : Params) : Obj := ⟨(.type "tuple"), none, (.seq #[(.str (s "index") 545)] 0), #[]⟩
noncomputable def o166 (P : Params) : Obj := ⟨(.type "dict"), none, (.dict #[k P "__module__" 532 (.str (s "likepanes.errors") 380), k P "__firstlineno__" 536 (.int (30) 535), k P "__init__" 544 (.ref 164), k P "__static_attributes__" 546 (.ref 165), k P "__doc__" 547 .none] 2), #[]⟩
noncomputable def o167 (P : Params) : Obj := ⟨(.type "type"), none, (.cls ⟨(s "InvalidEquation"), [(.ref 52)], [(.ref 167), (.ref 52), (.type "ValueError"), (.type "Exception"), (.type "BaseException"), (.type "object")], 166, (s "InvalidEquation"), true, [], [], false, none, false⟩), #[(some (.ref 151)), none, (some (.str (s "InvalidEquation") 525)), (some (.str (s "InvalidEquation") 533)), (some (.builtin "ValueError.__new__")), (some (.bool true))]⟩
noncomputable def o168 (P : Params) : Obj := ⟨(.type "super"), none, (.fields #[(.ref 167), (.ref 167), (.ref 167)]), #[]⟩
noncomputable def o169 (P : Params) : Obj := ⟨(.type "builtin_function_or_method"), none, (.fields #[(.builtin "object.__init_subclass__"), (.ref 167)]), #[]⟩
noncomputable def o170 (P : Params) : Obj := ⟨(.type "tuple"), none, (.seq #[(.type "ArithmeticError")] 0), #[]⟩
noncomputable def o171 (P : Params) : Obj := ⟨(.type "builtin_function_or_method"), none, (.fields #[(.builtin "type.__prepare__"), (.type "type")]), #[]⟩
noncomputable def o172 (P : Params) : Obj := ⟨(.type "dict"), none, (.dict #[k P "__module__" 557 (.str (s "likepanes.errors") 380), k P "__qualname__" 559 (.str (s "NoAnswer") 558), k P "__firstlineno__" 561 (.int (35) 560), k P "__static_attributes__" 562 (.ref 177)] 4), #[]⟩
noncomputable def o173 (P : Params) : Obj := ⟨(.type "tuple"), none, (.seq #[] 0), #[]⟩
noncomputable def o174 (P : Params) : Obj := ⟨.none, none, (.fields #[]), #[]⟩
noncomputable def o175 (P : Params) : Obj := ⟨(.type "code"), none, (.fields #[(.str (s "NoAnswer") 552), (.str (s "NoAnswer") 553), (.str (s "/claim/cut.py") 554), (.int (35) 0), (.int (0) 0), (.int (0) 0), (.int (0) 0), (.int (0) 0), (.ref 173), (.bool false), (.int (374) 0), (.ref 174), .none, .none, .none, .none, (.int (555) 0), (.int (35) 0), (.str (s "/claim/cut.py") 556)]), #[]⟩
noncomputable def o176 (P : Params) : Obj := ⟨(.type "frame"), none, .plain, #[(some (.ref 175)), (some (.ref 3)), (some (.ref 172)), none, (some (.str (s "likepanes.errors") 380)), none, (some (.ref 0))]⟩
noncomputable def o177 (P : Params) : Obj := ⟨(.type "tuple"), none, (.seq #[] 0), #[]⟩
noncomputable def o178 (P : Params) : Obj := ⟨(.type "dict"), none, (.dict #[k P "__module__" 557 (.str (s "likepanes.errors") 380), k P "__firstlineno__" 561 (.int (35) 560), k P "__static_attributes__" 562 (.ref 177), k P "__weakref__" 564 (.ref 180), k P "__doc__" 565 .none] 3), #[]⟩
noncomputable def o179 (P : Params) : Obj := ⟨(.type "type"), none, (.cls ⟨(s "NoAnswer"), [(.type "ArithmeticError")], [(.ref 179), (.type "ArithmeticError"), (.type "Exception"), (.type "BaseException"), (.type "object")], 178, (s "NoAnswer"), true, [], [], false, none, false⟩), #[(some (.ref 170)), none, (some (.str (s "NoAnswer") 550)), (some (.str (s "NoAnswer") 558)), (some (.builtin "ArithmeticError.__new__")), (some (.bool true))]⟩
noncomputable def o180 (P : Params) : Obj := ⟨(.type "getset_descriptor"), none, (.fields #[(.str (s "__weakref__") 563), (.ref 179), (.builtin "ExceptionGroup.__weakref__"), .none]), #[]⟩
noncomputable def o181 (P : Params) : Obj := ⟨(.type "super"), none, (.fields #[(.ref 179), (.ref 179), (.ref 179)]), #[]⟩
noncomputable def o182 (P : Params) : Obj := ⟨(.type "builtin_function_or_method"), none, (.fields #[(.builtin "object.__init_subclass__"), (.ref 179)]), #[]⟩
noncomputable def t2 (P : Params) : BT := (n (o0 P) (n (o1 P) (n (o3_2 P) (n (o7 P) (n (o15 P) (n (o31 P) (n (o63 P) (n (o127 P) z z) z) (n (o95 P) (n (o159 P) z z) z)) (n (o47 P) (n (o79 P) (n (o143 P) z z) z) (n (o111 P) (n (o175 P) z z) z))) (n (o23 P) (n (o39 P) (n (o71 P) (n (o135 P) z z) z) (n (o103 P) (n (o167 P) z z) z)) (n (o55 P) (n (o87 P) (n (o151 P) z z) z) (n (o119 P) z z)))) (n (o11 P) (n (o19 P) (n (o35 P) (n (o67 P) (n (o131 P) z z) z) (n (o99 P) (n (o163 P) z z) z)) (n (o51 P) (n (o83 P) (n (o147 P) z z) z) (n (o115 P) (n (o179 P) z z) z))) (n (o27 P) (n (o43 P) (n (o75 P) (n (o139 P) z z) z) (n (o107 P) (n (o171 P) z z) z)) (n (o59 P) (n (o91 P) (n (o155 P) z z) z) (n (o123 P) z z))))) (n (o5 P) (n (o9 P) (n (o17 P) (n (o33 P) (n (o65 P) (n (o129 P) z z) z) (n (o97 P) (n (o161 P) z z) z)) (n (o49 P) (n (o81 P) (n (o145 P) z z) z) (n (o113 P) (n (o177 P) z z) z))) (n (o25 P) (n (o41 P) (n (o73 P) (n (o137 P) z z) z) (n (o105 P) (n (o169 P) z z) z)) (n (o57 P) (n (o89 P) (n (o153 P) z z) z) (n (o121 P) z z)))) (n (o13 P) (n (o21 P) (n (o37 P) (n (o69 P) (n (o133 P) z z) z) (n (o101 P) (n (o165 P) z z) z)) (n (o53 P) (n (o85 P) (n (o149 P) z z) z) (n (o117 P) (n (o181 P) z z) z))) (n (o29 P) (n (o45 P) (n (o77 P) (n (o141 P) z z) z) (n (o109 P) (n (o173 P) z z) z)) (n (o61 P) (n (o93 P) (n (o157 P) z z) z) (n (o125 P) z z)))))) (n (o2_2 P) (n (o4 P) (n (o8 P) (n (o16 P) (n (o32 P) (n (o64 P) (n (o128 P) z z) z) (n (o96 P) (n (o160 P) z z) z)) (n (o48 P) (n (o80 P) (n (o144 P) z z) z) (n (o112 P) (n (o176 P) z z) z))) (n (o24 P) (n (o40_2 P) (n (o72 P) (n (o136 P) z z) z) (n (o104 P) (n (o168 P) z z) z)) (n (o56 P) (n (o88 P) (n (o152 P) z z) z) (n (o120 P) z z)))) (n (o12_0 P) (n (o20 P) (n (o36 P) (n (o68 P) (n (o132 P) z z) z) (n (o100 P) (n (o164 P) z z) z)) (n (o52_2 P) (n (o84 P) (n (o148 P) z z) z) (n (o116 P) (n (o180 P) z z) z))) (n (o28 P) (n (o44 P) (n (o76 P) (n (o140 P) z z) z) (n (o108 P) (n (o172 P) z z) z)) (n (o60 P) (n (o92 P) (n (o156 P) z z) z) (n (o124 P) z z))))) (n (o6 P) (n (o10 P) (n (o18 P) (n (o34 P) (n (o66 P) (n (o130 P) z z) z) (n (o98 P) (n (o162 P) z z) z)) (n (o50 P) (n (o82 P) (n (o146 P) z z) z) (n (o114 P) (n (o178 P) z z) z))) (n (o26 P) (n (o42 P) (n (o74 P) (n (o138 P) z z) z) (n (o106 P) (n (o170 P) z z) z)) (n (o58 P) (n (o90 P) (n (o154 P) z z) z) (n (o122 P) z z)))) (n (o14 P) (n (o22 P) (n (o38 P) (n (o70 P) (n (o134 P) z z) z) (n (o102 P) (n (o166 P) z z) z)) (n (o54 P) (n (o86 P) (n (o150 P) z z) z) (n (o118 P) (n (o182 P) z z) z))) (n (o30 P) (n (o46 P) (n (o78 P) (n (o142 P) z z) z) (n (o110 P) (n (o174 P) z z) z)) (n (o62 P) (n (o94 P) (n (o158 P) z z) z) (n (o126 P) z z)))))))
noncomputable def X2 (w : World) (os : OsState) : SharedT := ⟨t2 w.params, 183, {}, #[], {}, 570, os⟩
noncomputable def o3_3 (P : Params) : Obj := ⟨(.type "dict"), none, (.dict #[k P "__name__" 165 (.str (s "likepanes.terms") 698), k P "__doc__" 166 .none, k P "__package__" 167 .none, k P "__loader__" 168 (.builtin "__main__.__loader__#opaque"), k P "__spec__" 169 .none, k P "__annotations__" 170 (.ref 6), k P "__builtins__" 171 (.ref 4), k P "__file__" 173 (.str (s "/claim/cut.py") 172), k P "__cached__" 174 .none, k P "gcd" 370 (.builtin "math.gcd"), k P "isqrt" 373 (.builtin "math.isqrt"), k P "BadValue" 399 (.ref 52), k P "InvalidText" 424 (.ref 72), k P "InvalidFraction" 449 (.ref 91), k P "InvalidNumber" 474 (.ref 110), k P "InvalidTree" 499 (.ref 129), k P "NotAShape" 524 (.ref 148), k P "InvalidEquation" 549 (.ref 167), k P "NoAnswer" 569 (.ref 179), k P "NoRoot" 592 (.ref 199), k P "NoQuotient" 615 (.ref 218), k P "TooMany" 640 (.ref 237), k P "MOST_DEGREE" 642 (.int (5) 641), k P "MOST_TERM" 644 (.int (1000) 643), k P "MOST_LEAVES" 646 (.int (12) 645), k P "MOST_FEW" 648 (.int (5) 647), k P "is_integer" 657 (.ref 246), k P "are_integers" 663 (.ref 251), k P "is_fraction" 672 (.ref 258), k P "is_below" 680 (.ref 265), k P "is_term" 687 (.ref 272), k P "wrong_term" 697 (.ref 279), k P "trimmed" 707 (.ref 286)] 33), #[]⟩
noncomputable def o40_3 (P : Params) : Obj := ⟨.none, none, (.fields #[(.int (3) 0), (.int (0) 0), (.ref 48), (.int (5) 0), (.int (0) 0), (.ref 61), (.int (10) 0), (.int (0) 0), (.ref 80), (.int (15) 0), (.int (0) 0), (.ref 99), (.int (20) 0), (.int (0) 0), (.ref 118), (.int (25) 0), (.int (0) 0), (.ref 137), (.int (30) 0), (.int (0) 0), (.ref 156), (.int (35) 0), (.int (0) 0), (.ref 175), (.int (37) 0), (.int (0) 0), (.ref 188), (.int (41) 0), (.int (0) 0), (.ref 207), (.int (45) 0), (.int (0) 0), (.ref 226), (.int (55) 0), (.int (0) 0), (.ref 245), (.int (57) 0), (.int (0) 0), (.ref 250), (.int (59) 0), (.int (0) 0), (.ref 257), (.int (64) 0), (.int (0) 0), (.ref 264), (.int (66) 0), (.int (0) 0), (.ref 271), (.int (68) 0), (.int (0) 0), (.ref 278), (.int (75) 0), (.int (0) 0), (.ref 285)]), #[]⟩
noncomputable def o179_3 (P : Params) : Obj := ⟨(.type "type"), none, (.cls ⟨(s "NoAnswer"), [(.type "ArithmeticError")], [(.ref 179), (.type "ArithmeticError"), (.type "Exception"), (.type "BaseException"), (.type "object")], 178, (s "NoAnswer"), true, [], [(.ref 199), (.ref 218), (.ref 237)], false, none, false⟩), #[(some (.ref 170)), none, (some (.str (s "NoAnswer") 550)), (some (.str (s "NoAnswer") 558)), (some (.builtin "ArithmeticError.__new__")), (some (.bool true))]⟩
noncomputable def o183 (P : Params) : Obj := ⟨(.type "tuple"), none, (.seq #[(.ref 179)] 0), #[]⟩
noncomputable def o184 (P : Params) : Obj := ⟨(.type "builtin_function_or_method"), none, (.fields #[(.builtin "type.__prepare__"), (.type "type")]), #[]⟩
noncomputable def o185 (P : Params) : Obj := ⟨(.type "dict"), none, (.dict #[k P "__module__" 577 (.str (s "likepanes.errors") 380), k P "__qualname__" 579 (.str (s "NoRoot") 578), k P "__firstlineno__" 581 (.int (37) 580), k P "__init__" 588 (.ref 196), k P "__static_attributes__" 589 (.ref 197)] 5), #[]⟩
noncomputable def o186 (P : Params) : Obj := ⟨(.type "tuple"), none, (.seq #[] 0), #[]⟩
noncomputable def o187 (P : Params) : Obj := ⟨.none, none, (.fields #[(.int (39) 0), (.int (4) 0), (.ref 195)]), #[]⟩
noncomputable def o188 (P : Params) : Obj := ⟨(.type "code"), none, (.fields #[(.str (s "NoRoot") 572), (.str (s "NoRoot") 573), (.str (s "/claim/cut.py") 574), (.int (37) 0), (.int (0) 0), (.int (0) 0), (.int (0) 0), (.int (0) 0), (.ref 186), (.bool false), (.int (374) 0), (.ref 187), .none, .none, .none, .none, (.int (575) 0), (.int (37) 0), (.str (s "/claim/cut.py") 576)]), #[]⟩
noncomputable def o189 (P : Params) : Obj := ⟨(.type "frame"), none, .plain, #[(some (.ref 188)), (some (.ref 3)), (some (.ref 185)), none, (some (.str (s "likepanes.errors") 380)), none, (some (.ref 0))]⟩
noncomputable def o190 (P : Params) : Obj := ⟨(.type "tuple"), none, (.seq #[] 0), #[]⟩
noncomputable def o191 (P : Params) : Obj := ⟨.none, none, (.fields #[]), #[]⟩
noncomputable def o192 (P : Params) : Obj := ⟨(.type "tuple"), none, (.seq #[(.str (s "self") 585)] 0), #[]⟩
noncomputable def o193 (P : Params) : Obj := ⟨(.type "tuple"), none, (.seq #[] 0), #[]⟩
noncomputable def o194 (P : Params) : Obj := ⟨.none, none, (.func (fn (L2.inClass (hT 10) 0) (s "__init__") (s "NoRoot.__init__") 0 [] .none .none .none .none none .none .none 0)), #[]⟩
noncomputable def o195 (P : Params) : Obj := ⟨(.type "code"), none, (.fields #[(.str (s "__init__") 582), (.str (s "NoRoot.__init__") 583), (.str (s "/claim/cut.py") 584), (.int (39) 0), (.int (1) 0), (.int (0) 0), (.int (0) 0), (.int (3) 0), (.ref 190), (.bool true), (.int (374) 0), (.ref 191), .none, (.ref 192), (.ref 193), (.ref 194), (.int (586) 0), (.int (39) 0), (.str (s "/claim/cut.py") 587)]), #[]⟩
noncomputable def o196 (P : Params) : Obj := ⟨(.type "function"), none, (.func (fn (L2.inClass (hT 10) 0) (s "__init__") (s "NoRoot.__init__") 3 [] .none .none .none (.str (s "likepanes.errors") 380) none (.ref 195) .none 0)), #[]⟩
noncomputable def o197 (P : Params) : Obj := ⟨(.type "tuple"), none, (.seq #[] 0), #[]⟩
noncomputable def o198 (P : Params) : Obj := ⟨(.type "dict"), none, (.dict #[k P "__module__" 577 (.str (s "likepanes.errors") 380), k P "__firstlineno__" 581 (.int (37) 580), k P "__init__" 588 (.ref 196), k P "__static_attributes__" 589 (.ref 197), k P "__doc__" 590 .none] 2), #[]⟩
noncomputable def o199 (P : Params) : Obj := ⟨(.type "type"), none, (.cls ⟨(s "NoRoot"), [(.ref 179)], [(.ref 199), (.ref 179), (.type "ArithmeticError"), (.type "Exception"), (.type "BaseException"), (.type "object")], 198, (s "NoRoot"), true, [], [], false, none, false⟩), #[(some (.ref 183)), none, (some (.str (s "NoRoot") 570)), (some (.str (s "NoRoot") 578)), (some (.builtin "ArithmeticError.__new__")), (some (.bool true))]⟩
noncomputable def o200 (P : Params) : Obj := ⟨(.type "super"), none, (.fields #[(.ref 199), (.ref 199), (.ref 199)]), #[]⟩
noncomputable def o201 (P : Params) : Obj := ⟨(.type "builtin_function_or_method"), none, (.fields #[(.builtin "object.__init_subclass__"), (.ref 199)]), #[]⟩
noncomputable def o202 (P : Params) : Obj := ⟨(.type "tuple"), none, (.seq #[(.ref 179)] 0), #[]⟩
noncomputable def o203 (P : Params) : Obj := ⟨(.type "builtin_function_or_method"), none, (.fields #[(.builtin "type.__prepare__"), (.type "type")]), #[]⟩
noncomputable def o204 (P : Params) : Obj := ⟨(.type "dict"), none, (.dict #[k P "__module__" 600 (.str (s "likepanes.errors") 380), k P "__qualname__" 602 (.str (s "NoQuotient") 601), k P "__firstlineno__" 604 (.int (41) 603), k P "__init__" 611 (.ref 215), k P "__static_attributes__" 612 (.ref 216)] 5), #[]⟩
noncomputable def o205 (P : Params) : Obj := ⟨(.type "tuple"), none, (.seq #[] 0), #[]⟩
noncomputable def o206 (P : Params) : Obj := ⟨.none, none, (.fields #[(.int (43) 0), (.int (4) 0), (.ref 214)]), #[]⟩
noncomputable def o207 (P : Params) : Obj := ⟨(.type "code"), none, (.fields #[(.str (s "NoQuotient") 595), (.str (s "NoQuotient") 596), (.str (s "/claim/cut.py") 597), (.int (41) 0), (.int (0) 0), (.int (0) 0), (.int (0) 0), (.int (0) 0), (.ref 205), (.bool false), (.int (374) 0), (.ref 206), .none, .none, .none, .none, (.int (598) 0), (.int (41) 0), (.str (s "/claim/cut.py") 599)]), #[]⟩
noncomputable def o208 (P : Params) : Obj := ⟨(.type "frame"), none, .plain, #[(some (.ref 207)), (some (.ref 3)), (some (.ref 204)), none, (some (.str (s "likepanes.errors") 380)), none, (some (.ref 0))]⟩
noncomputable def o209 (P : Params) : Obj := ⟨(.type "tuple"), none, (.seq #[] 0), #[]⟩
noncomputable def o210 (P : Params) : Obj := ⟨.none, none, (.fields #[]), #[]⟩
noncomputable def o211 (P : Params) : Obj := ⟨(.type "tuple"), none, (.seq #[(.str (s "self") 608)] 0), #[]⟩
noncomputable def o212 (P : Params) : Obj := ⟨(.type "tuple"), none, (.seq #[] 0), #[]⟩
noncomputable def o213 (P : Params) : Obj := ⟨.none, none, (.func (fn (L2.inClass (hT 11) 0) (s "__init__") (s "NoQuotient.__init__") 0 [] .none .none .none .none none .none .none 0)), #[]⟩
noncomputable def o214 (P : Params) : Obj := ⟨(.type "code"), none, (.fields #[(.str (s "__init__") 605), (.str (s "NoQuotient.__init__") 606), (.str (s "/claim/cut.py") 607), (.int (43) 0), (.int (1) 0), (.int (0) 0), (.int (0) 0), (.int (3) 0), (.ref 209), (.bool true), (.int (374) 0), (.ref 210), .none, (.ref 211), (.ref 212), (.ref 213), (.int (609) 0), (.int (43) 0), (.str (s "/claim/cut.py") 610)]), #[]⟩
noncomputable def o215 (P : Params) : Obj := ⟨(.type "function"), none, (.func (fn (L2.inClass (hT 11) 0) (s "__init__") (s "NoQuotient.__init__") 3 [] .none .none .none (.str (s "likepanes.errors") 380) none (.ref 214) .none 0)), #[]⟩
noncomputable def o216 (P : Params) : Obj := ⟨(.type "tuple"), none, (.seq #[] 0), #[]⟩
noncomputable def o217 (P : Params) : Obj := ⟨(.type "dict"), none, (.dict #[k P "__module__" 600 (.str (s "likepanes.errors") 380), k P "__firstlineno__" 604 (.int (41) 603), k P "__init__" 611 (.ref 215), k P "__static_attributes__" 612 (.ref 216), k P "__doc__" 613 .none] 2), #[]⟩
noncomputable def o218 (P : Params) : Obj := ⟨(.type "type"), none, (.cls ⟨(s "NoQuotient"), [(.ref 179)], [(.ref 218), (.ref 179), (.type "ArithmeticError"), (.type "Exception"), (.type "BaseException"), (.type "object")], 217, (s "NoQuotient"), true, [], [], false, none, false⟩), #[(some (.ref 202)), none, (some (.str (s "NoQuotient") 593)), (some (.str (s "NoQuotient") 601)), (some (.builtin "ArithmeticError.__new__")), (some (.bool true))]⟩
noncomputable def o219 (P : Params) : Obj := ⟨(.type "super"), none, (.fields #[(.ref 218), (.ref 218), (.ref 218)]), #[]⟩
noncomputable def o220 (P : Params) : Obj := ⟨(.type "builtin_function_or_method"), none, (.fields #[(.builtin "object.__init_subclass__"), (.ref 218)]), #[]⟩
noncomputable def o221 (P : Params) : Obj := ⟨(.type "tuple"), none, (.seq #[(.ref 179)] 0), #[]⟩
noncomputable def o222 (P : Params) : Obj := ⟨(.type "builtin_function_or_method"), none, (.fields #[(.builtin "type.__prepare__"), (.type "type")]), #[]⟩
noncomputable def o223 (P : Params) : Obj := ⟨(.type "dict"), none, (.dict #[k P "__module__" 623 (.str (s "likepanes.errors") 380), k P "__qualname__" 625 (.str (s "TooMany") 624), k P "__firstlineno__" 627 (.int (45) 626), k P "__init__" 635 (.ref 234), k P "__static_attributes__" 637 (.ref 235)] 5), #[]⟩
noncomputable def o224 (P : Params) : Obj := ⟨(.type "tuple"), none, (.seq #[] 0), #[]⟩
noncomputable def o225 (P : Params) : Obj := ⟨.none, none, (.fields #[(.int (47) 0), (.int (4) 0), (.ref 233)]), #[]⟩
noncomputable def o226 (P : Params) : Obj := ⟨(.type "code"), none, (.fields #[(.str (s "TooMany") 618), (.str (s "TooMany") 619), (.str (s "/claim/cut.py") 620), (.int (45) 0), (.int (0) 0), (.int (0) 0), (.int (0) 0), (.int (0) 0), (.ref 224), (.bool false), (.int (374) 0), (.ref 225), .none, .none, .none, .none, (.int (621) 0), (.int (45) 0), (.str (s "/claim/cut.py") 622)]), #[]⟩
noncomputable def o227 (P : Params) : Obj := ⟨(.type "frame"), none, .plain, #[(some (.ref 226)), (some (.ref 3)), (some (.ref 223)), none, (some (.str (s "likepanes.errors") 380)), none, (some (.ref 0))]⟩
noncomputable def o228 (P : Params) : Obj := ⟨(.type "tuple"), none, (.seq #[] 0), #[]⟩
noncomputable def o229 (P : Params) : Obj := ⟨.none, none, (.fields #[]), #[]⟩
noncomputable def o230 (P : Params) : Obj := ⟨(.type "tuple"), none, (.seq #[(.str (s "self") 631), (.str (s "limit") 632)] 0), #[]⟩
noncomputable def o231 (P : Params) : Obj := ⟨(.type "tuple"), none, (.seq #[] 0), #[]⟩
noncomputable def o232 (P : Params) : Obj := ⟨.none, none, (.func (fn (L2.inClass (hT 12) 0) (s "__init__") (s "TooMany.__init__") 0 [] .none .none .none .none none .none .none 0)), #[]⟩
noncomputable def o233 (P : Params) : Obj := ⟨(.type "code"), none, (.fields #[(.str (s "__init__") 628), (.str (s "TooMany.__init__") 629), (.str (s "/claim/cut.py") 630), (.int (47) 0), (.int (2) 0), (.int (0) 0), (.int (0) 0), (.int (3) 0), (.ref 228), (.bool true), (.int (374) 0), (.ref 229), .none, (.ref 230), (.ref 231), (.ref 232), (.int (633) 0), (.int (47) 0), (.str (s "/claim/cut.py") 634)]), #[]⟩
noncomputable def o234 (P : Params) : Obj := ⟨(.type "function"), none, (.func (fn (L2.inClass (hT 12) 0) (s "__init__") (s "TooMany.__init__") 3 [] .none .none .none (.str (s "likepanes.errors") 380) none (.ref 233) .none 0)), #[]⟩
noncomputable def o235 (P : Params) : Obj := ⟨(.type "tuple"), none, (.seq #[(.str (s "limit") 636)] 0), #[]⟩
noncomputable def o236 (P : Params) : Obj := ⟨(.type "dict"), none, (.dict #[k P "__module__" 623 (.str (s "likepanes.errors") 380), k P "__firstlineno__" 627 (.int (45) 626), k P "__init__" 635 (.ref 234), k P "__static_attributes__" 637 (.ref 235), k P "__doc__" 638 .none] 2), #[]⟩
noncomputable def o237 (P : Params) : Obj := ⟨(.type "type"), none, (.cls ⟨(s "TooMany"), [(.ref 179)], [(.ref 237), (.ref 179), (.type "ArithmeticError"), (.type "Exception"), (.type "BaseException"), (.type "object")], 236, (s "TooMany"), true, [], [], false, none, false⟩), #[(some (.ref 221)), none, (some (.str (s "TooMany") 616)), (some (.str (s "TooMany") 624)), (some (.builtin "ArithmeticError.__new__")), (some (.bool true))]⟩
noncomputable def o238 (P : Params) : Obj := ⟨(.type "super"), none, (.fields #[(.ref 237), (.ref 237), (.ref 237)]), #[]⟩
noncomputable def o239 (P : Params) : Obj := ⟨(.type "builtin_function_or_method"), none, (.fields #[(.builtin "object.__init_subclass__"), (.ref 237)]), #[]⟩
noncomputable def o240 (P : Params) : Obj := ⟨(.type "tuple"), none, (.seq #[] 0), #[]⟩
noncomputable def o241 (P : Params) : Obj := ⟨.none, none, (.fields #[]), #[]⟩
noncomputable def o242 (P : Params) : Obj := ⟨(.type "tuple"), none, (.seq #[(.str (s "value") 654)] 0), #[]⟩
noncomputable def o243 (P : Params) : Obj := ⟨(.type "tuple"), none, (.seq #[] 0), #[]⟩
noncomputable def o244 (P : Params) : Obj := ⟨.none, none, (.func (fn (hT 18) (s "is_integer") (s "is_integer") 0 [] .none .none .none .none none .none .none 0)), #[]⟩
noncomputable def o245 (P : Params) : Obj := ⟨(.type "code"), none, (.fields #[(.str (s "is_integer") 651), (.str (s "is_integer") 652), (.str (s "/claim/cut.py") 653), (.int (55) 0), (.int (1) 0), (.int (0) 0), (.int (0) 0), (.int (3) 0), (.ref 240), (.bool true), (.int (374) 0), (.ref 241), .none, (.ref 242), (.ref 243), (.ref 244), (.int (655) 0), (.int (55) 0), (.str (s "/claim/cut.py") 656)]), #[]⟩
noncomputable def o246 (P : Params) : Obj := ⟨(.type "function"), none, (.func (fn (hT 18) (s "is_integer") (s "is_integer") 3 [] .none .none .none (.str (s "likepanes.kinds") 649) none (.ref 245) .none 0)), #[]⟩
noncomputable def o247 (P : Params) : Obj := ⟨(.type "tuple"), none, (.seq #[] 0), #[]⟩
noncomputable def o248 (P : Params) : Obj := ⟨.none, none, (.fields #[]), #[]⟩
noncomputable def o249 (P : Params) : Obj := ⟨.none, none, (.func (fn (hT 19) (s "are_integers") (s "are_integers") 0 [] .none .none .none .none none .none .none 0)), #[]⟩
noncomputable def o250 (P : Params) : Obj := ⟨(.type "code"), none, (.fields #[(.str (s "are_integers") 658), (.str (s "are_integers") 659), (.str (s "/claim/cut.py") 660), (.int (57) 0), (.int (1) 0), (.int (0) 0), (.int (0) 0), (.int (3) 0), (.ref 247), (.bool true), (.int (374) 0), (.ref 248), .none, .none, .none, (.ref 249), (.int (661) 0), (.int (57) 0), (.str (s "/claim/cut.py") 662)]), #[]⟩
noncomputable def o251 (P : Params) : Obj := ⟨(.type "function"), none, (.func (fn (hT 19) (s "are_integers") (s "are_integers") 3 [] .none .none .none (.str (s "likepanes.kinds") 649) none (.ref 250) .none 0)), #[]⟩
noncomputable def o252 (P : Params) : Obj := ⟨(.type "tuple"), none, (.seq #[] 0), #[]⟩
noncomputable def o253 (P : Params) : Obj := ⟨.none, none, (.fields #[]), #[]⟩
noncomputable def o254 (P : Params) : Obj := ⟨(.type "tuple"), none, (.seq #[(.str (s "value") 667), (.str (s "top") 668), (.str (s "bottom") 669)] 0), #[]⟩
noncomputable def o255 (P : Params) : Obj := ⟨(.type "tuple"), none, (.seq #[] 0), #[]⟩
noncomputable def o256 (P : Params) : Obj := ⟨.none, none, (.func (fn (hT 20) (s "is_fraction") (s "is_fraction") 0 [] .none .none .none .none none .none .none 0)), #[]⟩
noncomputable def o257 (P : Params) : Obj := ⟨(.type "code"), none, (.fields #[(.str (s "is_fraction") 664), (.str (s "is_fraction") 665), (.str (s "/claim/cut.py") 666), (.int (59) 0), (.int (1) 0), (.int (0) 0), (.int (0) 0), (.int (3) 0), (.ref 252), (.bool true), (.int (374) 0), (.ref 253), .none, (.ref 254), (.ref 255), (.ref 256), (.int (670) 0), (.int (59) 0), (.str (s "/claim/cut.py") 671)]), #[]⟩
noncomputable def o258 (P : Params) : Obj := ⟨(.type "function"), none, (.func (fn (hT 20) (s "is_fraction") (s "is_fraction") 3 [] .none .none .none (.str (s "likepanes.kinds") 649) none (.ref 257) .none 0)), #[]⟩
noncomputable def o259 (P : Params) : Obj := ⟨(.type "tuple"), none, (.seq #[] 0), #[]⟩
noncomputable def o260 (P : Params) : Obj := ⟨.none, none, (.fields #[]), #[]⟩
noncomputable def o261 (P : Params) : Obj := ⟨(.type "tuple"), none, (.seq #[(.str (s "one") 676), (.str (s "other") 677)] 0), #[]⟩
noncomputable def o262 (P : Params) : Obj := ⟨(.type "tuple"), none, (.seq #[] 0), #[]⟩
noncomputable def o263 (P : Params) : Obj := ⟨.none, none, (.func (fn (hT 21) (s "is_below") (s "is_below") 0 [] .none .none .none .none none .none .none 0)), #[]⟩
noncomputable def o264 (P : Params) : Obj := ⟨(.type "code"), none, (.fields #[(.str (s "is_below") 673), (.str (s "is_below") 674), (.str (s "/claim/cut.py") 675), (.int (64) 0), (.int (2) 0), (.int (0) 0), (.int (0) 0), (.int (3) 0), (.ref 259), (.bool true), (.int (374) 0), (.ref 260), .none, (.ref 261), (.ref 262), (.ref 263), (.int (678) 0), (.int (64) 0), (.str (s "/claim/cut.py") 679)]), #[]⟩
noncomputable def o265 (P : Params) : Obj := ⟨(.type "function"), none, (.func (fn (hT 21) (s "is_below") (s "is_below") 3 [] .none .none .none (.str (s "likepanes.kinds") 649) none (.ref 264) .none 0)), #[]⟩
noncomputable def o266 (P : Params) : Obj := ⟨(.type "tuple"), none, (.seq #[] 0), #[]⟩
noncomputable def o267 (P : Params) : Obj := ⟨.none, none, (.fields #[]), #[]⟩
noncomputable def o268 (P : Params) : Obj := ⟨(.type "tuple"), none, (.seq #[(.str (s "value") 684)] 0), #[]⟩
noncomputable def o269 (P : Params) : Obj := ⟨(.type "tuple"), none, (.seq #[] 0), #[]⟩
noncomputable def o270 (P : Params) : Obj := ⟨.none, none, (.func (fn (hT 22) (s "is_term") (s "is_term") 0 [] .none .none .none .none none .none .none 0)), #[]⟩
noncomputable def o271 (P : Params) : Obj := ⟨(.type "code"), none, (.fields #[(.str (s "is_term") 681), (.str (s "is_term") 682), (.str (s "/claim/cut.py") 683), (.int (66) 0), (.int (1) 0), (.int (0) 0), (.int (0) 0), (.int (3) 0), (.ref 266), (.bool true), (.int (374) 0), (.ref 267), .none, (.ref 268), (.ref 269), (.ref 270), (.int (685) 0), (.int (66) 0), (.str (s "/claim/cut.py") 686)]), #[]⟩
noncomputable def o272 (P : Params) : Obj := ⟨(.type "function"), none, (.func (fn (hT 22) (s "is_term") (s "is_term") 3 [] .none .none .none (.str (s "likepanes.kinds") 649) none (.ref 271) .none 0)), #[]⟩
noncomputable def o273 (P : Params) : Obj := ⟨(.type "tuple"), none, (.seq #[] 0), #[]⟩
noncomputable def o274 (P : Params) : Obj := ⟨.none, none, (.fields #[]), #[]⟩
noncomputable def o275 (P : Params) : Obj := ⟨(.type "tuple"), none, (.seq #[(.str (s "equation") 691), (.str (s "at") 692), (.str (s "term") 693), (.str (s "last") 694)] 0), #[]⟩
noncomputable def o276 (P : Params) : Obj := ⟨(.type "tuple"), none, (.seq #[] 0), #[]⟩
noncomputable def o277 (P : Params) : Obj := ⟨.none, none, (.func (fn (hT 23) (s "wrong_term") (s "wrong_term") 0 [] .none .none .none .none none .none .none 0)), #[]⟩
noncomputable def o278 (P : Params) : Obj := ⟨(.type "code"), none, (.fields #[(.str (s "wrong_term") 688), (.str (s "wrong_term") 689), (.str (s "/claim/cut.py") 690), (.int (68) 0), (.int (1) 0), (.int (0) 0), (.int (0) 0), (.int (3) 0), (.ref 273), (.bool true), (.int (374) 0), (.ref 274), .none, (.ref 275), (.ref 276), (.ref 277), (.int (695) 0), (.int (68) 0), (.str (s "/claim/cut.py") 696)]), #[]⟩
noncomputable def o279 (P : Params) : Obj := ⟨(.type "function"), none, (.func (fn (hT 23) (s "wrong_term") (s "wrong_term") 3 [] .none .none .none (.str (s "likepanes.kinds") 649) none (.ref 278) .none 0)), #[]⟩
noncomputable def o280 (P : Params) : Obj := ⟨(.type "tuple"), none, (.seq #[] 0), #[]⟩
noncomputable def o281 (P : Params) : Obj := ⟨.none, none, (.fields #[]), #[]⟩
noncomputable def o282 (P : Params) : Obj := ⟨(.type "tuple"), none, (.seq #[(.str (s "terms") 703), (.str (s "many") 704)] 0), #[]⟩
noncomputable def o283 (P : Params) : Obj := ⟨(.type "tuple"), none, (.seq #[] 0), #[]⟩
noncomputable def o284 (P : Params) : Obj := ⟨.none, none, (.func (fn (hT 25) (s "trimmed") (s "trimmed") 0 [] .none .none .none .none none .none .none 0)), #[]⟩
noncomputable def o285 (P : Params) : Obj := ⟨(.type "code"), none, (.fields #[(.str (s "trimmed") 700), (.str (s "trimmed") 701), (.str (s "/claim/cut.py") 702), (.int (75) 0), (.int (1) 0), (.int (0) 0), (.int (0) 0), (.int (3) 0), (.ref 280), (.bool true), (.int (374) 0), (.ref 281), .none, (.ref 282), (.ref 283), (.ref 284), (.int (705) 0), (.int (75) 0), (.str (s "/claim/cut.py") 706)]), #[]⟩
noncomputable def o286 (P : Params) : Obj := ⟨(.type "function"), none, (.func (fn (hT 25) (s "trimmed") (s "trimmed") 3 [] .none .none .none (.str (s "likepanes.terms") 698) none (.ref 285) .none 0)), #[]⟩
noncomputable def t3 (P : Params) : BT := (n (o0 P) (n (o1 P) (n (o3_3 P) (n (o7 P) (n (o15 P) (n (o31 P) (n (o63 P) (n (o127 P) (n (o255 P) z z) z) (n (o191 P) z z)) (n (o95 P) (n (o159 P) z z) (n (o223 P) z z))) (n (o47 P) (n (o79 P) (n (o143 P) (n (o271 P) z z) z) (n (o207 P) z z)) (n (o111 P) (n (o175 P) z z) (n (o239 P) z z)))) (n (o23 P) (n (o39 P) (n (o71 P) (n (o135 P) (n (o263 P) z z) z) (n (o199 P) z z)) (n (o103 P) (n (o167 P) z z) (n (o231 P) z z))) (n (o55 P) (n (o87 P) (n (o151 P) (n (o279 P) z z) z) (n (o215 P) z z)) (n (o119 P) (n (o183 P) z z) (n (o247 P) z z))))) (n (o11 P) (n (o19 P) (n (o35 P) (n (o67 P) (n (o131 P) (n (o259 P) z z) z) (n (o195 P) z z)) (n (o99 P) (n (o163 P) z z) (n (o227 P) z z))) (n (o51 P) (n (o83 P) (n (o147 P) (n (o275 P) z z) z) (n (o211 P) z z)) (n (o115 P) (n (o179_3 P) z z) (n (o243 P) z z)))) (n (o27 P) (n (o43 P) (n (o75 P) (n (o139 P) (n (o267 P) z z) z) (n (o203 P) z z)) (n (o107 P) (n (o171 P) z z) (n (o235 P) z z))) (n (o59 P) (n (o91 P) (n (o155 P) (n (o283 P) z z) z) (n (o219 P) z z)) (n (o123 P) (n (o187 P) z z) (n (o251 P) z z)))))) (n (o5 P) (n (o9 P) (n (o17 P) (n (o33 P) (n (o65 P) (n (o129 P) (n (o257 P) z z) z) (n (o193 P) z z)) (n (o97 P) (n (o161 P) z z) (n (o225 P) z z))) (n (o49 P) (n (o81 P) (n (o145 P) (n (o273 P) z z) z) (n (o209 P) z z)) (n (o113 P) (n (o177 P) z z) (n (o241 P) z z)))) (n (o25 P) (n (o41 P) (n (o73 P) (n (o137 P) (n (o265 P) z z) z) (n (o201 P) z z)) (n (o105 P) (n (o169 P) z z) (n (o233 P) z z))) (n (o57 P) (n (o89 P) (n (o153 P) (n (o281 P) z z) z) (n (o217 P) z z)) (n (o121 P) (n (o185 P) z z) (n (o249 P) z z))))) (n (o13 P) (n (o21 P) (n (o37 P) (n (o69 P) (n (o133 P) (n (o261 P) z z) z) (n (o197 P) z z)) (n (o101 P) (n (o165 P) z z) (n (o229 P) z z))) (n (o53 P) (n (o85 P) (n (o149 P) (n (o277 P) z z) z) (n (o213 P) z z)) (n (o117 P) (n (o181 P) z z) (n (o245 P) z z)))) (n (o29 P) (n (o45 P) (n (o77 P) (n (o141 P) (n (o269 P) z z) z) (n (o205 P) z z)) (n (o109 P) (n (o173 P) z z) (n (o237 P) z z))) (n (o61 P) (n (o93 P) (n (o157 P) (n (o285 P) z z) z) (n (o221 P) z z)) (n (o125 P) (n (o189 P) z z) (n (o253 P) z z))))))) (n (o2_2 P) (n (o4 P) (n (o8 P) (n (o16 P) (n (o32 P) (n (o64 P) (n (o128 P) (n (o256 P) z z) z) (n (o192 P) z z)) (n (o96 P) (n (o160 P) z z) (n (o224 P) z z))) (n (o48 P) (n (o80 P) (n (o144 P) (n (o272 P) z z) z) (n (o208 P) z z)) (n (o112 P) (n (o176 P) z z) (n (o240 P) z z)))) (n (o24 P) (n (o40_3 P) (n (o72 P) (n (o136 P) (n (o264 P) z z) z) (n (o200 P) z z)) (n (o104 P) (n (o168 P) z z) (n (o232 P) z z))) (n (o56 P) (n (o88 P) (n (o152 P) (n (o280 P) z z) z) (n (o216 P) z z)) (n (o120 P) (n (o184 P) z z) (n (o248 P) z z))))) (n (o12_0 P) (n (o20 P) (n (o36 P) (n (o68 P) (n (o132 P) (n (o260 P) z z) z) (n (o196 P) z z)) (n (o100 P) (n (o164 P) z z) (n (o228 P) z z))) (n (o52_2 P) (n (o84 P) (n (o148 P) (n (o276 P) z z) z) (n (o212 P) z z)) (n (o116 P) (n (o180 P) z z) (n (o244 P) z z)))) (n (o28 P) (n (o44 P) (n (o76 P) (n (o140 P) (n (o268 P) z z) z) (n (o204 P) z z)) (n (o108 P) (n (o172 P) z z) (n (o236 P) z z))) (n (o60 P) (n (o92 P) (n (o156 P) (n (o284 P) z z) z) (n (o220 P) z z)) (n (o124 P) (n (o188 P) z z) (n (o252 P) z z)))))) (n (o6 P) (n (o10 P) (n (o18 P) (n (o34 P) (n (o66 P) (n (o130 P) (n (o258 P) z z) z) (n (o194 P) z z)) (n (o98 P) (n (o162 P) z z) (n (o226 P) z z))) (n (o50 P) (n (o82 P) (n (o146 P) (n (o274 P) z z) z) (n (o210 P) z z)) (n (o114 P) (n (o178 P) z z) (n (o242 P) z z)))) (n (o26 P) (n (o42 P) (n (o74 P) (n (o138 P) (n (o266 P) z z) z) (n (o202 P) z z)) (n (o106 P) (n (o170 P) z z) (n (o234 P) z z))) (n (o58 P) (n (o90 P) (n (o154 P) (n (o282 P) z z) z) (n (o218 P) z z)) (n (o122 P) (n (o186 P) z z) (n (o250 P) z z))))) (n (o14 P) (n (o22 P) (n (o38 P) (n (o70 P) (n (o134 P) (n (o262 P) z z) z) (n (o198 P) z z)) (n (o102 P) (n (o166 P) z z) (n (o230 P) z z))) (n (o54 P) (n (o86 P) (n (o150 P) (n (o278 P) z z) z) (n (o214 P) z z)) (n (o118 P) (n (o182 P) z z) (n (o246 P) z z)))) (n (o30 P) (n (o46 P) (n (o78 P) (n (o142 P) (n (o270 P) z z) z) (n (o206 P) z z)) (n (o110 P) (n (o174 P) z z) (n (o238 P) z z))) (n (o62 P) (n (o94 P) (n (o158 P) (n (o286 P) z z) z) (n (o222 P) z z)) (n (o126 P) (n (o190 P) z z) (n (o254 P) z z))))))))
noncomputable def X3 (w : World) (os : OsState) : SharedT := ⟨t3 w.params, 287, {}, #[], {}, 708, os⟩
noncomputable def o3_4 (P : Params) : Obj := ⟨(.type "dict"), none, (.dict #[k P "__name__" 165 (.str (s "likepanes.shapes") 985), k P "__doc__" 166 .none, k P "__package__" 167 .none, k P "__loader__" 168 (.builtin "__main__.__loader__#opaque"), k P "__spec__" 169 .none, k P "__annotations__" 170 (.ref 6), k P "__builtins__" 171 (.ref 4), k P "__file__" 173 (.str (s "/claim/cut.py") 172), k P "__cached__" 174 .none, k P "gcd" 370 (.builtin "math.gcd"), k P "isqrt" 373 (.builtin "math.isqrt"), k P "BadValue" 399 (.ref 52), k P "InvalidText" 424 (.ref 72), k P "InvalidFraction" 449 (.ref 91), k P "InvalidNumber" 474 (.ref 110), k P "InvalidTree" 499 (.ref 129), k P "NotAShape" 524 (.ref 148), k P "InvalidEquation" 549 (.ref 167), k P "NoAnswer" 569 (.ref 179), k P "NoRoot" 592 (.ref 199), k P "NoQuotient" 615 (.ref 218), k P "TooMany" 640 (.ref 237), k P "MOST_DEGREE" 642 (.int (5) 641), k P "MOST_TERM" 644 (.int (1000) 643), k P "MOST_LEAVES" 646 (.int (12) 645), k P "MOST_FEW" 648 (.int (5) 647), k P "is_integer" 657 (.ref 246), k P "are_integers" 663 (.ref 251), k P "is_fraction" 672 (.ref 258), k P "is_below" 680 (.ref 265), k P "is_term" 687 (.ref 272), k P "wrong_term" 697 (.ref 279), k P "trimmed" 707 (.ref 286), k P "common_divisor" 716 (.ref 293), k P "primitive" 722 (.ref 298), k P "negative" 728 (.ref 303), k P "derivative" 734 (.ref 308), k P "value_at" 746 (.ref 315), k P "multiplied" 759 (.ref 322), k P "combined" 773 (.ref 329), k P "remainder" 783 (.ref 336), k P "divided" 798 (.ref 343), k P "FIRST_BITS" 802 (.int (64) 801), k P "sturm_chain" 810 (.ref 350), k P "changes" 816 (.ref 355), k P "reach" 822 (.ref 360), k P "roots_up_to" 831 (.ref 367), k P "roots_in_all" 838 (.ref 374), k P "roots_within" 849 (.ref 381), k P "rank_of_last" 857 (.ref 388), k P "stretch_of" 868 (.ref 395), k P "lonely_stretch" 881 (.ref 402), k P "refined" 893 (.ref 409), k P "guessed" 909 (.ref 416), k P "is_least" 918 (.ref 423), k P "factors_of" 928 (.ref 430), k P "least_factor" 936 (.ref 437), k P "divisors" 942 (.ref 442), k P "linear_factor" 953 (.ref 449), k P "quadratic_factor" 966 (.ref 456), k P "middles" 978 (.ref 463), k P "whole_roots" 984 (.ref 468)] 62), #[]⟩
noncomputable def o40_4 (P : Params) : Obj := ⟨.none, none, (.fields #[(.int (3) 0), (.int (0) 0), (.ref 48), (.int (5) 0), (.int (0) 0), (.ref 61), (.int (10) 0), (.int (0) 0), (.ref 80), (.int (15) 0), (.int (0) 0), (.ref 99), (.int (20) 0), (.int (0) 0), (.ref 118), (.int (25) 0), (.int (0) 0), (.ref 137), (.int (30) 0), (.int (0) 0), (.ref 156), (.int (35) 0), (.int (0) 0), (.ref 175), (.int (37) 0), (.int (0) 0), (.ref 188), (.int (41) 0), (.int (0) 0), (.ref 207), (.int (45) 0), (.int (0) 0), (.ref 226), (.int (55) 0), (.int (0) 0), (.ref 245), (.int (57) 0), (.int (0) 0), (.ref 250), (.int (59) 0), (.int (0) 0), (.ref 257), (.int (64) 0), (.int (0) 0), (.ref 264), (.int (66) 0), (.int (0) 0), (.ref 271), (.int (68) 0), (.int (0) 0), (.ref 278), (.int (75) 0), (.int (0) 0), (.ref 285), (.int (80) 0), (.int (0) 0), (.ref 292), (.int (85) 0), (.int (0) 0), (.ref 297), (.int (88) 0), (.int (0) 0), (.ref 302), (.int (90) 0), (.int (0) 0), (.ref 307), (.int (92) 0), (.int (0) 0), (.ref 314), (.int (98) 0), (.int (0) 0), (.ref 321), (.int (104) 0), (.int (0) 0), (.ref 328), (.int (111) 0), (.int (0) 0), (.ref 335), (.int (117) 0), (.int (0) 0), (.ref 342), (.int (133) 0), (.int (0) 0), (.ref 349), (.int (139) 0), (.int (0) 0), (.ref 354), (.int (143) 0), (.int (0) 0), (.ref 359), (.int (145) 0), (.int (0) 0), (.ref 366), (.int (147) 0), (.int (0) 0), (.ref 373), (.int (149) 0), (.int (0) 0), (.ref 380), (.int (155) 0), (.int (0) 0), (.ref 387), (.int (157) 0), (.int (0) 0), (.ref 394), (.int (161) 0), (.int (0) 0), (.ref 401), (.int (173) 0), (.int (0) 0), (.ref 408), (.int (185) 0), (.int (0) 0), (.ref 415), (.int (198) 0), (.int (0) 0), (.ref 422), (.int (202) 0), (.int (0) 0), (.ref 429), (.int (213) 0), (.int (0) 0), (.ref 436), (.int (220) 0), (.int (0) 0), (.ref 441), (.int (222) 0), (.int (0) 0), (.ref 448), (.int (234) 0), (.int (0) 0), (.ref 455), (.int (244) 0), (.int (0) 0), (.ref 462), (.int (251) 0), (.int (0) 0), (.ref 467)]), #[]⟩
noncomputable def o287 (P : Params) : Obj := ⟨(.type "tuple"), none, (.seq #[] 0), #[]⟩
noncomputable def o288 (P : Params) : Obj := ⟨.none, none, (.fields #[]), #[]⟩
noncomputable def o289 (P : Params) : Obj := ⟨(.type "tuple"), none, (.seq #[(.str (s "terms") 711), (.str (s "common") 712), (.str (s "term") 713)] 0), #[]⟩
noncomputable def o290 (P : Params) : Obj := ⟨(.type "tuple"), none, (.seq #[] 0), #[]⟩
noncomputable def o291 (P : Params) : Obj := ⟨.none, none, (.func (fn (hT 26) (s "common_divisor") (s "common_divisor") 0 [] .none .none .none .none none .none .none 0)), #[]⟩
noncomputable def o292 (P : Params) : Obj := ⟨(.type "code"), none, (.fields #[(.str (s "common_divisor") 708), (.str (s "common_divisor") 709), (.str (s "/claim/cut.py") 710), (.int (80) 0), (.int (1) 0), (.int (0) 0), (.int (0) 0), (.int (3) 0), (.ref 287), (.bool true), (.int (374) 0), (.ref 288), .none, (.ref 289), (.ref 290), (.ref 291), (.int (714) 0), (.int (80) 0), (.str (s "/claim/cut.py") 715)]), #[]⟩
noncomputable def o293 (P : Params) : Obj := ⟨(.type "function"), none, (.func (fn (hT 26) (s "common_divisor") (s "common_divisor") 3 [] .none .none .none (.str (s "likepanes.terms") 698) none (.ref 292) .none 0)), #[]⟩
noncomputable def o294 (P : Params) : Obj := ⟨(.type "tuple"), none, (.seq #[] 0), #[]⟩
noncomputable def o295 (P : Params) : Obj := ⟨.none, none, (.fields #[]), #[]⟩
noncomputable def o296 (P : Params) : Obj := ⟨.none, none, (.func (fn (hT 27) (s "primitive") (s "primitive") 0 [] .none .none .none .none none .none .none 0)), #[]⟩
noncomputable def o297 (P : Params) : Obj := ⟨(.type "code"), none, (.fields #[(.str (s "primitive") 717), (.str (s "primitive") 718), (.str (s "/claim/cut.py") 719), (.int (85) 0), (.int (1) 0), (.int (0) 0), (.int (0) 0), (.int (3) 0), (.ref 294), (.bool true), (.int (374) 0), (.ref 295), .none, .none, .none, (.ref 296), (.int (720) 0), (.int (85) 0), (.str (s "/claim/cut.py") 721)]), #[]⟩
noncomputable def o298 (P : Params) : Obj := ⟨(.type "function"), none, (.func (fn (hT 27) (s "primitive") (s "primitive") 3 [] .none .none .none (.str (s "likepanes.terms") 698) none (.ref 297) .none 0)), #[]⟩
noncomputable def o299 (P : Params) : Obj := ⟨(.type "tuple"), none, (.seq #[] 0), #[]⟩
noncomputable def o300 (P : Params) : Obj := ⟨.none, none, (.fields #[]), #[]⟩
noncomputable def o301 (P : Params) : Obj := ⟨.none, none, (.func (fn (hT 28) (s "negative") (s "negative") 0 [] .none .none .none .none none .none .none 0)), #[]⟩
noncomputable def o302 (P : Params) : Obj := ⟨(.type "code"), none, (.fields #[(.str (s "negative") 723), (.str (s "negative") 724), (.str (s "/claim/cut.py") 725), (.int (88) 0), (.int (1) 0), (.int (0) 0), (.int (0) 0), (.int (3) 0), (.ref 299), (.bool true), (.int (374) 0), (.ref 300), .none, .none, .none, (.ref 301), (.int (726) 0), (.int (88) 0), (.str (s "/claim/cut.py") 727)]), #[]⟩
noncomputable def o303 (P : Params) : Obj := ⟨(.type "function"), none, (.func (fn (hT 28) (s "negative") (s "negative") 3 [] .none .none .none (.str (s "likepanes.terms") 698) none (.ref 302) .none 0)), #[]⟩
noncomputable def o304 (P : Params) : Obj := ⟨(.type "tuple"), none, (.seq #[] 0), #[]⟩
noncomputable def o305 (P : Params) : Obj := ⟨.none, none, (.fields #[]), #[]⟩
noncomputable def o306 (P : Params) : Obj := ⟨.none, none, (.func (fn (hT 29) (s "derivative") (s "derivative") 0 [] .none .none .none .none none .none .none 0)), #[]⟩
noncomputable def o307 (P : Params) : Obj := ⟨(.type "code"), none, (.fields #[(.str (s "derivative") 729), (.str (s "derivative") 730), (.str (s "/claim/cut.py") 731), (.int (90) 0), (.int (1) 0), (.int (0) 0), (.int (0) 0), (.int (3) 0), (.ref 304), (.bool true), (.int (374) 0), (.ref 305), .none, .none, .none, (.ref 306), (.int (732) 0), (.int (90) 0), (.str (s "/claim/cut.py") 733)]), #[]⟩
noncomputable def o308 (P : Params) : Obj := ⟨(.type "function"), none, (.func (fn (hT 29) (s "derivative") (s "derivative") 3 [] .none .none .none (.str (s "likepanes.terms") 698) none (.ref 307) .none 0)), #[]⟩
noncomputable def o309 (P : Params) : Obj := ⟨(.type "tuple"), none, (.seq #[] 0), #[]⟩
noncomputable def o310 (P : Params) : Obj := ⟨.none, none, (.fields #[]), #[]⟩
noncomputable def o311 (P : Params) : Obj := ⟨(.type "tuple"), none, (.seq #[(.str (s "terms") 738), (.str (s "top") 739), (.str (s "bottom") 740), (.str (s "value") 741), (.str (s "scale") 742), (.str (s "term") 743)] 0), #[]⟩
noncomputable def o312 (P : Params) : Obj := ⟨(.type "tuple"), none, (.seq #[] 0), #[]⟩
noncomputable def o313 (P : Params) : Obj := ⟨.none, none, (.func (fn (hT 30) (s "value_at") (s "value_at") 0 [] .none .none .none .none none .none .none 0)), #[]⟩
noncomputable def o314 (P : Params) : Obj := ⟨(.type "code"), none, (.fields #[(.str (s "value_at") 735), (.str (s "value_at") 736), (.str (s "/claim/cut.py") 737), (.int (92) 0), (.int (3) 0), (.int (0) 0), (.int (0) 0), (.int (3) 0), (.ref 309), (.bool true), (.int (374) 0), (.ref 310), .none, (.ref 311), (.ref 312), (.ref 313), (.int (744) 0), (.int (92) 0), (.str (s "/claim/cut.py") 745)]), #[]⟩
noncomputable def o315 (P : Params) : Obj := ⟨(.type "function"), none, (.func (fn (hT 30) (s "value_at") (s "value_at") 3 [] .none .none .none (.str (s "likepanes.terms") 698) none (.ref 314) .none 0)), #[]⟩
noncomputable def o316 (P : Params) : Obj := ⟨(.type "tuple"), none, (.seq #[] 0), #[]⟩
noncomputable def o317 (P : Params) : Obj := ⟨.none, none, (.fields #[]), #[]⟩
noncomputable def o318 (P : Params) : Obj := ⟨(.type "tuple"), none, (.seq #[(.str (s "one") 750), (.str (s "other") 751), (.str (s "result") 752), (.str (s "low") 753), (.str (s "left") 754), (.str (s "high") 755), (.str (s "right") 756)] 0), #[]⟩
noncomputable def o319 (P : Params) : Obj := ⟨(.type "tuple"), none, (.seq #[] 0), #[]⟩
noncomputable def o320 (P : Params) : Obj := ⟨.none, none, (.func (fn (hT 31) (s "multiplied") (s "multiplied") 0 [] .none .none .none .none none .none .none 0)), #[]⟩
noncomputable def o321 (P : Params) : Obj := ⟨(.type "code"), none, (.fields #[(.str (s "multiplied") 747), (.str (s "multiplied") 748), (.str (s "/claim/cut.py") 749), (.int (98) 0), (.int (2) 0), (.int (0) 0), (.int (0) 0), (.int (3) 0), (.ref 316), (.bool true), (.int (374) 0), (.ref 317), .none, (.ref 318), (.ref 319), (.ref 320), (.int (757) 0), (.int (98) 0), (.str (s "/claim/cut.py") 758)]), #[]⟩
noncomputable def o322 (P : Params) : Obj := ⟨(.type "function"), none, (.func (fn (hT 31) (s "multiplied") (s "multiplied") 3 [] .none .none .none (.str (s "likepanes.terms") 698) none (.ref 321) .none 0)), #[]⟩
noncomputable def o323 (P : Params) : Obj := ⟨(.type "tuple"), none, (.seq #[] 0), #[]⟩
noncomputable def o324 (P : Params) : Obj := ⟨.none, none, (.fields #[]), #[]⟩
noncomputable def o325 (P : Params) : Obj := ⟨(.type "tuple"), none, (.seq #[(.str (s "factor") 763), (.str (s "one") 764), (.str (s "weight") 765), (.str (s "other") 766), (.str (s "shift") 767), (.str (s "result") 768), (.str (s "at") 769), (.str (s "term") 770)] 0), #[]⟩
noncomputable def o326 (P : Params) : Obj := ⟨(.type "tuple"), none, (.seq #[] 0), #[]⟩
noncomputable def o327 (P : Params) : Obj := ⟨.none, none, (.func (fn (hT 32) (s "combined") (s "combined") 0 [] .none .none .none .none none .none .none 0)), #[]⟩
noncomputable def o328 (P : Params) : Obj := ⟨(.type "code"), none, (.fields #[(.str (s "combined") 760), (.str (s "combined") 761), (.str (s "/claim/cut.py") 762), (.int (104) 0), (.int (5) 0), (.int (0) 0), (.int (0) 0), (.int (3) 0), (.ref 323), (.bool true), (.int (374) 0), (.ref 324), .none, (.ref 325), (.ref 326), (.ref 327), (.int (771) 0), (.int (104) 0), (.str (s "/claim/cut.py") 772)]), #[]⟩
noncomputable def o329 (P : Params) : Obj := ⟨(.type "function"), none, (.func (fn (hT 32) (s "combined") (s "combined") 3 [] .none .none .none (.str (s "likepanes.terms") 698) none (.ref 328) .none 0)), #[]⟩
noncomputable def o330 (P : Params) : Obj := ⟨(.type "tuple"), none, (.seq #[] 0), #[]⟩
noncomputable def o331 (P : Params) : Obj := ⟨.none, none, (.fields #[]), #[]⟩
noncomputable def o332 (P : Params) : Obj := ⟨(.type "tuple"), none, (.seq #[(.str (s "one") 777), (.str (s "other") 778), (.str (s "factor") 779), (.str (s "weight") 780)] 0), #[]⟩
noncomputable def o333 (P : Params) : Obj := ⟨(.type "tuple"), none, (.seq #[] 0), #[]⟩
noncomputable def o334 (P : Params) : Obj := ⟨.none, none, (.func (fn (hT 33) (s "remainder") (s "remainder") 0 [] .none .none .none .none none .none .none 0)), #[]⟩
noncomputable def o335 (P : Params) : Obj := ⟨(.type "code"), none, (.fields #[(.str (s "remainder") 774), (.str (s "remainder") 775), (.str (s "/claim/cut.py") 776), (.int (111) 0), (.int (2) 0), (.int (0) 0), (.int (0) 0), (.int (3) 0), (.ref 330), (.bool true), (.int (374) 0), (.ref 331), .none, (.ref 332), (.ref 333), (.ref 334), (.int (781) 0), (.int (111) 0), (.str (s "/claim/cut.py") 782)]), #[]⟩
noncomputable def o336 (P : Params) : Obj := ⟨(.type "function"), none, (.func (fn (hT 33) (s "remainder") (s "remainder") 3 [] .none .none .none (.str (s "likepanes.terms") 698) none (.ref 335) .none 0)), #[]⟩
noncomputable def o337 (P : Params) : Obj := ⟨(.type "tuple"), none, (.seq #[] 0), #[]⟩
noncomputable def o338 (P : Params) : Obj := ⟨.none, none, (.fields #[]), #[]⟩
noncomputable def o339 (P : Params) : Obj := ⟨(.type "tuple"), none, (.seq #[(.str (s "one") 787), (.str (s "other") 788), (.str (s "rest") 789), (.str (s "found") 790), (.str (s "factor") 791), (.str (s "left") 792), (.str (s "shift") 793), (.str (s "at") 794), (.str (s "term") 795)] 0), #[]⟩
noncomputable def o340 (P : Params) : Obj := ⟨(.type "tuple"), none, (.seq #[] 0), #[]⟩
noncomputable def o341 (P : Params) : Obj := ⟨.none, none, (.func (fn (hT 34) (s "divided") (s "divided") 0 [] .none .none .none .none none .none .none 0)), #[]⟩
noncomputable def o342 (P : Params) : Obj := ⟨(.type "code"), none, (.fields #[(.str (s "divided") 784), (.str (s "divided") 785), (.str (s "/claim/cut.py") 786), (.int (117) 0), (.int (2) 0), (.int (0) 0), (.int (0) 0), (.int (3) 0), (.ref 337), (.bool true), (.int (374) 0), (.ref 338), .none, (.ref 339), (.ref 340), (.ref 341), (.int (796) 0), (.int (117) 0), (.str (s "/claim/cut.py") 797)]), #[]⟩
noncomputable def o343 (P : Params) : Obj := ⟨(.type "function"), none, (.func (fn (hT 34) (s "divided") (s "divided") 3 [] .none .none .none (.str (s "likepanes.terms") 698) none (.ref 342) .none 0)), #[]⟩
noncomputable def o344 (P : Params) : Obj := ⟨(.type "tuple"), none, (.seq #[] 0), #[]⟩
noncomputable def o345 (P : Params) : Obj := ⟨.none, none, (.fields #[]), #[]⟩
noncomputable def o346 (P : Params) : Obj := ⟨(.type "tuple"), none, (.seq #[(.str (s "terms") 806), (.str (s "chain") 807)] 0), #[]⟩
noncomputable def o347 (P : Params) : Obj := ⟨(.type "tuple"), none, (.seq #[] 0), #[]⟩
noncomputable def o348 (P : Params) : Obj := ⟨.none, none, (.func (fn (hT 37) (s "sturm_chain") (s "sturm_chain") 0 [] .none .none .none .none none .none .none 0)), #[]⟩
noncomputable def o349 (P : Params) : Obj := ⟨(.type "code"), none, (.fields #[(.str (s "sturm_chain") 803), (.str (s "sturm_chain") 804), (.str (s "/claim/cut.py") 805), (.int (133) 0), (.int (1) 0), (.int (0) 0), (.int (0) 0), (.int (3) 0), (.ref 344), (.bool true), (.int (374) 0), (.ref 345), .none, (.ref 346), (.ref 347), (.ref 348), (.int (808) 0), (.int (133) 0), (.str (s "/claim/cut.py") 809)]), #[]⟩
noncomputable def o350 (P : Params) : Obj := ⟨(.type "function"), none, (.func (fn (hT 37) (s "sturm_chain") (s "sturm_chain") 3 [] .none .none .none (.str (s "likepanes.roots") 799) none (.ref 349) .none 0)), #[]⟩
noncomputable def o351 (P : Params) : Obj := ⟨(.type "tuple"), none, (.seq #[] 0), #[]⟩
noncomputable def o352 (P : Params) : Obj := ⟨.none, none, (.fields #[]), #[]⟩
noncomputable def o353 (P : Params) : Obj := ⟨.none, none, (.func (fn (hT 38) (s "changes") (s "changes") 0 [] .none .none .none .none none .none .none 0)), #[]⟩
noncomputable def o354 (P : Params) : Obj := ⟨(.type "code"), none, (.fields #[(.str (s "changes") 811), (.str (s "changes") 812), (.str (s "/claim/cut.py") 813), (.int (139) 0), (.int (3) 0), (.int (0) 0), (.int (0) 0), (.int (3) 0), (.ref 351), (.bool true), (.int (374) 0), (.ref 352), .none, .none, .none, (.ref 353), (.int (814) 0), (.int (139) 0), (.str (s "/claim/cut.py") 815)]), #[]⟩
noncomputable def o355 (P : Params) : Obj := ⟨(.type "function"), none, (.func (fn (hT 38) (s "changes") (s "changes") 3 [] .none .none .none (.str (s "likepanes.roots") 799) none (.ref 354) .none 0)), #[]⟩
noncomputable def o356 (P : Params) : Obj := ⟨(.type "tuple"), none, (.seq #[] 0), #[]⟩
noncomputable def o357 (P : Params) : Obj := ⟨.none, none, (.fields #[]), #[]⟩
noncomputable def o358 (P : Params) : Obj := ⟨.none, none, (.func (fn (hT 39) (s "reach") (s "reach") 0 [] .none .none .none .none none .none .none 0)), #[]⟩
noncomputable def o359 (P : Params) : Obj := ⟨(.type "code"), none, (.fields #[(.str (s "reach") 817), (.str (s "reach") 818), (.str (s "/claim/cut.py") 819), (.int (143) 0), (.int (1) 0), (.int (0) 0), (.int (0) 0), (.int (3) 0), (.ref 356), (.bool true), (.int (374) 0), (.ref 357), .none, .none, .none, (.ref 358), (.int (820) 0), (.int (143) 0), (.str (s "/claim/cut.py") 821)]), #[]⟩
noncomputable def o360 (P : Params) : Obj := ⟨(.type "function"), none, (.func (fn (hT 39) (s "reach") (s "reach") 3 [] .none .none .none (.str (s "likepanes.roots") 799) none (.ref 359) .none 0)), #[]⟩
noncomputable def o361 (P : Params) : Obj := ⟨(.type "tuple"), none, (.seq #[] 0), #[]⟩
noncomputable def o362 (P : Params) : Obj := ⟨.none, none, (.fields #[]), #[]⟩
noncomputable def o363 (P : Params) : Obj := ⟨(.type "tuple"), none, (.seq #[(.str (s "chain") 826), (.str (s "top") 827), (.str (s "bottom") 828)] 0), #[]⟩
noncomputable def o364 (P : Params) : Obj := ⟨(.type "tuple"), none, (.seq #[] 0), #[]⟩
noncomputable def o365 (P : Params) : Obj := ⟨.none, none, (.func (fn (hT 40) (s "roots_up_to") (s "roots_up_to") 0 [] .none .none .none .none none .none .none 0)), #[]⟩
noncomputable def o366 (P : Params) : Obj := ⟨(.type "code"), none, (.fields #[(.str (s "roots_up_to") 823), (.str (s "roots_up_to") 824), (.str (s "/claim/cut.py") 825), (.int (145) 0), (.int (3) 0), (.int (0) 0), (.int (0) 0), (.int (3) 0), (.ref 361), (.bool true), (.int (374) 0), (.ref 362), .none, (.ref 363), (.ref 364), (.ref 365), (.int (829) 0), (.int (145) 0), (.str (s "/claim/cut.py") 830)]), #[]⟩
noncomputable def o367 (P : Params) : Obj := ⟨(.type "function"), none, (.func (fn (hT 40) (s "roots_up_to") (s "roots_up_to") 3 [] .none .none .none (.str (s "likepanes.roots") 799) none (.ref 366) .none 0)), #[]⟩
noncomputable def o368 (P : Params) : Obj := ⟨(.type "tuple"), none, (.seq #[] 0), #[]⟩
noncomputable def o369 (P : Params) : Obj := ⟨.none, none, (.fields #[]), #[]⟩
noncomputable def o370 (P : Params) : Obj := ⟨(.type "tuple"), none, (.seq #[(.str (s "chain") 835)] 0), #[]⟩
noncomputable def o371 (P : Params) : Obj := ⟨(.type "tuple"), none, (.seq #[] 0), #[]⟩
noncomputable def o372 (P : Params) : Obj := ⟨.none, none, (.func (fn (hT 41) (s "roots_in_all") (s "roots_in_all") 0 [] .none .none .none .none none .none .none 0)), #[]⟩
noncomputable def o373 (P : Params) : Obj := ⟨(.type "code"), none, (.fields #[(.str (s "roots_in_all") 832), (.str (s "roots_in_all") 833), (.str (s "/claim/cut.py") 834), (.int (147) 0), (.int (1) 0), (.int (0) 0), (.int (0) 0), (.int (3) 0), (.ref 368), (.bool true), (.int (374) 0), (.ref 369), .none, (.ref 370), (.ref 371), (.ref 372), (.int (836) 0), (.int (147) 0), (.str (s "/claim/cut.py") 837)]), #[]⟩
noncomputable def o374 (P : Params) : Obj := ⟨(.type "function"), none, (.func (fn (hT 41) (s "roots_in_all") (s "roots_in_all") 3 [] .none .none .none (.str (s "likepanes.roots") 799) none (.ref 373) .none 0)), #[]⟩
noncomputable def o375 (P : Params) : Obj := ⟨(.type "tuple"), none, (.seq #[] 0), #[]⟩
noncomputable def o376 (P : Params) : Obj := ⟨.none, none, (.fields #[]), #[]⟩
noncomputable def o377 (P : Params) : Obj := ⟨(.type "tuple"), none, (.seq #[(.str (s "terms") 842), (.str (s "low") 843), (.str (s "high") 844), (.str (s "chain") 845), (.str (s "many") 846)] 0), #[]⟩
noncomputable def o378 (P : Params) : Obj := ⟨(.type "tuple"), none, (.seq #[] 0), #[]⟩
noncomputable def o379 (P : Params) : Obj := ⟨.none, none, (.func (fn (hT 42) (s "roots_within") (s "roots_within") 0 [] .none .none .none .none none .none .none 0)), #[]⟩
noncomputable def o380 (P : Params) : Obj := ⟨(.type "code"), none, (.fields #[(.str (s "roots_within") 839), (.str (s "roots_within") 840), (.str (s "/claim/cut.py") 841), (.int (149) 0), (.int (3) 0), (.int (0) 0), (.int (0) 0), (.int (3) 0), (.ref 375), (.bool true), (.int (374) 0), (.ref 376), .none, (.ref 377), (.ref 378), (.ref 379), (.int (847) 0), (.int (149) 0), (.str (s "/claim/cut.py") 848)]), #[]⟩
noncomputable def o381 (P : Params) : Obj := ⟨(.type "function"), none, (.func (fn (hT 42) (s "roots_within") (s "roots_within") 3 [] .none .none .none (.str (s "likepanes.roots") 799) none (.ref 380) .none 0)), #[]⟩
noncomputable def o382 (P : Params) : Obj := ⟨(.type "tuple"), none, (.seq #[] 0), #[]⟩
noncomputable def o383 (P : Params) : Obj := ⟨.none, none, (.fields #[]), #[]⟩
noncomputable def o384 (P : Params) : Obj := ⟨(.type "tuple"), none, (.seq #[(.str (s "terms") 853), (.str (s "high") 854)] 0), #[]⟩
noncomputable def o385 (P : Params) : Obj := ⟨(.type "tuple"), none, (.seq #[] 0), #[]⟩
noncomputable def o386 (P : Params) : Obj := ⟨.none, none, (.func (fn (hT 43) (s "rank_of_last") (s "rank_of_last") 0 [] .none .none .none .none none .none .none 0)), #[]⟩
noncomputable def o387 (P : Params) : Obj := ⟨(.type "code"), none, (.fields #[(.str (s "rank_of_last") 850), (.str (s "rank_of_last") 851), (.str (s "/claim/cut.py") 852), (.int (155) 0), (.int (2) 0), (.int (0) 0), (.int (0) 0), (.int (3) 0), (.ref 382), (.bool true), (.int (374) 0), (.ref 383), .none, (.ref 384), (.ref 385), (.ref 386), (.int (855) 0), (.int (155) 0), (.str (s "/claim/cut.py") 856)]), #[]⟩
noncomputable def o388 (P : Params) : Obj := ⟨(.type "function"), none, (.func (fn (hT 43) (s "rank_of_last") (s "rank_of_last") 3 [] .none .none .none (.str (s "likepanes.roots") 799) none (.ref 387) .none 0)), #[]⟩
noncomputable def o389 (P : Params) : Obj := ⟨(.type "tuple"), none, (.seq #[] 0), #[]⟩
noncomputable def o390 (P : Params) : Obj := ⟨.none, none, (.fields #[]), #[]⟩
noncomputable def o391 (P : Params) : Obj := ⟨(.type "tuple"), none, (.seq #[(.str (s "equation") 861), (.str (s "rank") 862), (.str (s "near") 863), (.str (s "bits") 864), (.str (s "wanted") 865)] 0), #[]⟩
noncomputable def o392 (P : Params) : Obj := ⟨(.type "tuple"), none, (.seq #[] 0), #[]⟩
noncomputable def o393 (P : Params) : Obj := ⟨.none, none, (.func (fn (hT 44) (s "stretch_of") (s "stretch_of") 0 [] .none .none .none .none none .none .none 0)), #[]⟩
noncomputable def o394 (P : Params) : Obj := ⟨(.type "code"), none, (.fields #[(.str (s "stretch_of") 858), (.str (s "stretch_of") 859), (.str (s "/claim/cut.py") 860), (.int (157) 0), (.int (2) 0), (.int (0) 0), (.int (0) 0), (.int (3) 0), (.ref 389), (.bool true), (.int (374) 0), (.ref 390), .none, (.ref 391), (.ref 392), (.ref 393), (.int (866) 0), (.int (157) 0), (.str (s "/claim/cut.py") 867)]), #[]⟩
noncomputable def o395 (P : Params) : Obj := ⟨(.type "function"), none, (.func (fn (hT 44) (s "stretch_of") (s "stretch_of") 3 [] .none .none .none (.str (s "likepanes.roots") 799) none (.ref 394) .none 0)), #[]⟩
noncomputable def o396 (P : Params) : Obj := ⟨(.type "tuple"), none, (.seq #[] 0), #[]⟩
noncomputable def o397 (P : Params) : Obj := ⟨.none, none, (.fields #[]), #[]⟩
noncomputable def o398 (P : Params) : Obj := ⟨(.type "tuple"), none, (.seq #[(.str (s "equation") 872), (.str (s "rank") 873), (.str (s "chain") 874), (.str (s "low") 875), (.str (s "high") 876), (.str (s "bits") 877), (.str (s "middle") 878)] 0), #[]⟩
noncomputable def o399 (P : Params) : Obj := ⟨(.type "tuple"), none, (.seq #[] 0), #[]⟩
noncomputable def o400 (P : Params) : Obj := ⟨.none, none, (.func (fn (hT 45) (s "lonely_stretch") (s "lonely_stretch") 0 [] .none .none .none .none none .none .none 0)), #[]⟩
noncomputable def o401 (P : Params) : Obj := ⟨(.type "code"), none, (.fields #[(.str (s "lonely_stretch") 869), (.str (s "lonely_stretch") 870), (.str (s "/claim/cut.py") 871), (.int (161) 0), (.int (2) 0), (.int (0) 0), (.int (0) 0), (.int (3) 0), (.ref 396), (.bool true), (.int (374) 0), (.ref 397), .none, (.ref 398), (.ref 399), (.ref 400), (.int (879) 0), (.int (161) 0), (.str (s "/claim/cut.py") 880)]), #[]⟩
noncomputable def o402 (P : Params) : Obj := ⟨(.type "function"), none, (.func (fn (hT 45) (s "lonely_stretch") (s "lonely_stretch") 3 [] .none .none .none (.str (s "likepanes.roots") 799) none (.ref 401) .none 0)), #[]⟩
noncomputable def o403 (P : Params) : Obj := ⟨(.type "tuple"), none, (.seq #[] 0), #[]⟩
noncomputable def o404 (P : Params) : Obj := ⟨.none, none, (.fields #[]), #[]⟩
noncomputable def o405 (P : Params) : Obj := ⟨(.type "tuple"), none, (.seq #[(.str (s "equation") 885), (.str (s "near") 886), (.str (s "bits") 887), (.str (s "wanted") 888), (.str (s "step") 889), (.str (s "closer") 890)] 0), #[]⟩
noncomputable def o406 (P : Params) : Obj := ⟨(.type "tuple"), none, (.seq #[] 0), #[]⟩
noncomputable def o407 (P : Params) : Obj := ⟨.none, none, (.func (fn (hT 46) (s "refined") (s "refined") 0 [] .none .none .none .none none .none .none 0)), #[]⟩
noncomputable def o408 (P : Params) : Obj := ⟨(.type "code"), none, (.fields #[(.str (s "refined") 882), (.str (s "refined") 883), (.str (s "/claim/cut.py") 884), (.int (173) 0), (.int (4) 0), (.int (0) 0), (.int (0) 0), (.int (3) 0), (.ref 403), (.bool true), (.int (374) 0), (.ref 404), .none, (.ref 405), (.ref 406), (.ref 407), (.int (891) 0), (.int (173) 0), (.str (s "/claim/cut.py") 892)]), #[]⟩
noncomputable def o409 (P : Params) : Obj := ⟨(.type "function"), none, (.func (fn (hT 46) (s "refined") (s "refined") 3 [] .none .none .none (.str (s "likepanes.roots") 799) none (.ref 408) .none 0)), #[]⟩
noncomputable def o410 (P : Params) : Obj := ⟨(.type "tuple"), none, (.seq #[] 0), #[]⟩
noncomputable def o411 (P : Params) : Obj := ⟨.none, none, (.fields #[]), #[]⟩
noncomputable def o412 (P : Params) : Obj := ⟨(.type "tuple"), none, (.seq #[(.str (s "equation") 897), (.str (s "near") 898), (.str (s "bits") 899), (.str (s "step") 900), (.str (s "low") 901), (.str (s "high") 902), (.str (s "bottom") 903), (.str (s "place") 904), (.str (s "starts") 905), (.str (s "ends") 906)] 0), #[]⟩
noncomputable def o413 (P : Params) : Obj := ⟨(.type "tuple"), none, (.seq #[] 0), #[]⟩
noncomputable def o414 (P : Params) : Obj := ⟨.none, none, (.func (fn (hT 47) (s "guessed") (s "guessed") 0 [] .none .none .none .none none .none .none 0)), #[]⟩
noncomputable def o415 (P : Params) : Obj := ⟨(.type "code"), none, (.fields #[(.str (s "guessed") 894), (.str (s "guessed") 895), (.str (s "/claim/cut.py") 896), (.int (185) 0), (.int (4) 0), (.int (0) 0), (.int (0) 0), (.int (3) 0), (.ref 410), (.bool true), (.int (374) 0), (.ref 411), .none, (.ref 412), (.ref 413), (.ref 414), (.int (907) 0), (.int (185) 0), (.str (s "/claim/cut.py") 908)]), #[]⟩
noncomputable def o416 (P : Params) : Obj := ⟨(.type "function"), none, (.func (fn (hT 47) (s "guessed") (s "guessed") 3 [] .none .none .none (.str (s "likepanes.roots") 799) none (.ref 415) .none 0)), #[]⟩
noncomputable def o417 (P : Params) : Obj := ⟨(.type "tuple"), none, (.seq #[] 0), #[]⟩
noncomputable def o418 (P : Params) : Obj := ⟨.none, none, (.fields #[]), #[]⟩
noncomputable def o419 (P : Params) : Obj := ⟨(.type "tuple"), none, (.seq #[(.str (s "equation") 915)] 0), #[]⟩
noncomputable def o420 (P : Params) : Obj := ⟨(.type "tuple"), none, (.seq #[] 0), #[]⟩
noncomputable def o421 (P : Params) : Obj := ⟨.none, none, (.func (fn (hT 49) (s "is_least") (s "is_least") 0 [] .none .none .none .none none .none .none 0)), #[]⟩
noncomputable def o422 (P : Params) : Obj := ⟨(.type "code"), none, (.fields #[(.str (s "is_least") 912), (.str (s "is_least") 913), (.str (s "/claim/cut.py") 914), (.int (198) 0), (.int (1) 0), (.int (0) 0), (.int (0) 0), (.int (3) 0), (.ref 417), (.bool true), (.int (374) 0), (.ref 418), .none, (.ref 419), (.ref 420), (.ref 421), (.int (916) 0), (.int (198) 0), (.str (s "/claim/cut.py") 917)]), #[]⟩
noncomputable def o423 (P : Params) : Obj := ⟨(.type "function"), none, (.func (fn (hT 49) (s "is_least") (s "is_least") 3 [] .none .none .none (.str (s "likepanes.factors") 910) none (.ref 422) .none 0)), #[]⟩
noncomputable def o424 (P : Params) : Obj := ⟨(.type "tuple"), none, (.seq #[] 0), #[]⟩
noncomputable def o425 (P : Params) : Obj := ⟨.none, none, (.fields #[]), #[]⟩
noncomputable def o426 (P : Params) : Obj := ⟨(.type "tuple"), none, (.seq #[(.str (s "equation") 922), (.str (s "rest") 923), (.str (s "found") 924), (.str (s "factor") 925)] 0), #[]⟩
noncomputable def o427 (P : Params) : Obj := ⟨(.type "tuple"), none, (.seq #[] 0), #[]⟩
noncomputable def o428 (P : Params) : Obj := ⟨.none, none, (.func (fn (hT 50) (s "factors_of") (s "factors_of") 0 [] .none .none .none .none none .none .none 0)), #[]⟩
noncomputable def o429 (P : Params) : Obj := ⟨(.type "code"), none, (.fields #[(.str (s "factors_of") 919), (.str (s "factors_of") 920), (.str (s "/claim/cut.py") 921), (.int (202) 0), (.int (1) 0), (.int (0) 0), (.int (0) 0), (.int (3) 0), (.ref 424), (.bool true), (.int (374) 0), (.ref 425), .none, (.ref 426), (.ref 427), (.ref 428), (.int (926) 0), (.int (202) 0), (.str (s "/claim/cut.py") 927)]), #[]⟩
noncomputable def o430 (P : Params) : Obj := ⟨(.type "function"), none, (.func (fn (hT 50) (s "factors_of") (s "factors_of") 3 [] .none .none .none (.str (s "likepanes.factors") 910) none (.ref 429) .none 0)), #[]⟩
noncomputable def o431 (P : Params) : Obj := ⟨(.type "tuple"), none, (.seq #[] 0), #[]⟩
noncomputable def o432 (P : Params) : Obj := ⟨.none, none, (.fields #[]), #[]⟩
noncomputable def o433 (P : Params) : Obj := ⟨(.type "tuple"), none, (.seq #[(.str (s "terms") 932), (.str (s "found") 933)] 0), #[]⟩
noncomputable def o434 (P : Params) : Obj := ⟨(.type "tuple"), none, (.seq #[] 0), #[]⟩
noncomputable def o435 (P : Params) : Obj := ⟨.none, none, (.func (fn (hT 51) (s "least_factor") (s "least_factor") 0 [] .none .none .none .none none .none .none 0)), #[]⟩
noncomputable def o436 (P : Params) : Obj := ⟨(.type "code"), none, (.fields #[(.str (s "least_factor") 929), (.str (s "least_factor") 930), (.str (s "/claim/cut.py") 931), (.int (213) 0), (.int (1) 0), (.int (0) 0), (.int (0) 0), (.int (3) 0), (.ref 431), (.bool true), (.int (374) 0), (.ref 432), .none, (.ref 433), (.ref 434), (.ref 435), (.int (934) 0), (.int (213) 0), (.str (s "/claim/cut.py") 935)]), #[]⟩
noncomputable def o437 (P : Params) : Obj := ⟨(.type "function"), none, (.func (fn (hT 51) (s "least_factor") (s "least_factor") 3 [] .none .none .none (.str (s "likepanes.factors") 910) none (.ref 436) .none 0)), #[]⟩
noncomputable def o438 (P : Params) : Obj := ⟨(.type "tuple"), none, (.seq #[] 0), #[]⟩
noncomputable def o439 (P : Params) : Obj := ⟨.none, none, (.fields #[]), #[]⟩
noncomputable def o440 (P : Params) : Obj := ⟨.none, none, (.func (fn (hT 52) (s "divisors") (s "divisors") 0 [] .none .none .none .none none .none .none 0)), #[]⟩
noncomputable def o441 (P : Params) : Obj := ⟨(.type "code"), none, (.fields #[(.str (s "divisors") 937), (.str (s "divisors") 938), (.str (s "/claim/cut.py") 939), (.int (220) 0), (.int (1) 0), (.int (0) 0), (.int (0) 0), (.int (3) 0), (.ref 438), (.bool true), (.int (374) 0), (.ref 439), .none, .none, .none, (.ref 440), (.int (940) 0), (.int (220) 0), (.str (s "/claim/cut.py") 941)]), #[]⟩
noncomputable def o442 (P : Params) : Obj := ⟨(.type "function"), none, (.func (fn (hT 52) (s "divisors") (s "divisors") 3 [] .none .none .none (.str (s "likepanes.factors") 910) none (.ref 441) .none 0)), #[]⟩
noncomputable def o443 (P : Params) : Obj := ⟨(.type "tuple"), none, (.seq #[] 0), #[]⟩
noncomputable def o444 (P : Params) : Obj := ⟨.none, none, (.fields #[]), #[]⟩
noncomputable def o445 (P : Params) : Obj := ⟨(.type "tuple"), none, (.seq #[(.str (s "terms") 946), (.str (s "bottoms") 947), (.str (s "top") 948), (.str (s "bottom") 949), (.str (s "side") 950)] 0), #[]⟩
noncomputable def o446 (P : Params) : Obj := ⟨(.type "tuple"), none, (.seq #[] 0), #[]⟩
noncomputable def o447 (P : Params) : Obj := ⟨.none, none, (.func (fn (hT 53) (s "linear_factor") (s "linear_factor") 0 [] .none .none .none .none none .none .none 0)), #[]⟩
noncomputable def o448 (P : Params) : Obj := ⟨(.type "code"), none, (.fields #[(.str (s "linear_factor") 943), (.str (s "linear_factor") 944), (.str (s "/claim/cut.py") 945), (.int (222) 0), (.int (1) 0), (.int (0) 0), (.int (0) 0), (.int (3) 0), (.ref 443), (.bool true), (.int (374) 0), (.ref 444), .none, (.ref 445), (.ref 446), (.ref 447), (.int (951) 0), (.int (222) 0), (.str (s "/claim/cut.py") 952)]), #[]⟩
noncomputable def o449 (P : Params) : Obj := ⟨(.type "function"), none, (.func (fn (hT 53) (s "linear_factor") (s "linear_factor") 3 [] .none .none .none (.str (s "likepanes.factors") 910) none (.ref 448) .none 0)), #[]⟩
noncomputable def o450 (P : Params) : Obj := ⟨(.type "tuple"), none, (.seq #[] 0), #[]⟩
noncomputable def o451 (P : Params) : Obj := ⟨.none, none, (.fields #[]), #[]⟩
noncomputable def o452 (P : Params) : Obj := ⟨(.type "tuple"), none, (.seq #[(.str (s "terms") 957), (.str (s "lasts") 958), (.str (s "size") 959), (.str (s "last") 960), (.str (s "first") 961), (.str (s "middle") 962), (.str (s "factor") 963)] 0), #[]⟩
noncomputable def o453 (P : Params) : Obj := ⟨(.type "tuple"), none, (.seq #[] 0), #[]⟩
noncomputable def o454 (P : Params) : Obj := ⟨.none, none, (.func (fn (hT 54) (s "quadratic_factor") (s "quadratic_factor") 0 [] .none .none .none .none none .none .none 0)), #[]⟩
noncomputable def o455 (P : Params) : Obj := ⟨(.type "code"), none, (.fields #[(.str (s "quadratic_factor") 954), (.str (s "quadratic_factor") 955), (.str (s "/claim/cut.py") 956), (.int (234) 0), (.int (1) 0), (.int (0) 0), (.int (0) 0), (.int (3) 0), (.ref 450), (.bool true), (.int (374) 0), (.ref 451), .none, (.ref 452), (.ref 453), (.ref 454), (.int (964) 0), (.int (234) 0), (.str (s "/claim/cut.py") 965)]), #[]⟩
noncomputable def o456 (P : Params) : Obj := ⟨(.type "function"), none, (.func (fn (hT 54) (s "quadratic_factor") (s "quadratic_factor") 3 [] .none .none .none (.str (s "likepanes.factors") 910) none (.ref 455) .none 0)), #[]⟩
noncomputable def o457 (P : Params) : Obj := ⟨(.type "tuple"), none, (.seq #[] 0), #[]⟩
noncomputable def o458 (P : Params) : Obj := ⟨.none, none, (.fields #[]), #[]⟩
noncomputable def o459 (P : Params) : Obj := ⟨(.type "tuple"), none, (.seq #[(.str (s "terms") 970), (.str (s "first") 971), (.str (s "last") 972), (.str (s "lowest") 973), (.str (s "highest") 974), (.str (s "constant") 975)] 0), #[]⟩
noncomputable def o460 (P : Params) : Obj := ⟨(.type "tuple"), none, (.seq #[] 0), #[]⟩
noncomputable def o461 (P : Params) : Obj := ⟨.none, none, (.func (fn (hT 55) (s "middles") (s "middles") 0 [] .none .none .none .none none .none .none 0)), #[]⟩
noncomputable def o462 (P : Params) : Obj := ⟨(.type "code"), none, (.fields #[(.str (s "middles") 967), (.str (s "middles") 968), (.str (s "/claim/cut.py") 969), (.int (244) 0), (.int (3) 0), (.int (0) 0), (.int (0) 0), (.int (3) 0), (.ref 457), (.bool true), (.int (374) 0), (.ref 458), .none, (.ref 459), (.ref 460), (.ref 461), (.int (976) 0), (.int (244) 0), (.str (s "/claim/cut.py") 977)]), #[]⟩
noncomputable def o463 (P : Params) : Obj := ⟨(.type "function"), none, (.func (fn (hT 55) (s "middles") (s "middles") 3 [] .none .none .none (.str (s "likepanes.factors") 910) none (.ref 462) .none 0)), #[]⟩
noncomputable def o464 (P : Params) : Obj := ⟨(.type "tuple"), none, (.seq #[] 0), #[]⟩
noncomputable def o465 (P : Params) : Obj := ⟨.none, none, (.fields #[]), #[]⟩
noncomputable def o466 (P : Params) : Obj := ⟨.none, none, (.func (fn (hT 56) (s "whole_roots") (s "whole_roots") 0 [] .none .none .none .none none .none .none 0)), #[]⟩
noncomputable def o467 (P : Params) : Obj := ⟨(.type "code"), none, (.fields #[(.str (s "whole_roots") 979), (.str (s "whole_roots") 980), (.str (s "/claim/cut.py") 981), (.int (251) 0), (.int (3) 0), (.int (0) 0), (.int (0) 0), (.int (3) 0), (.ref 464), (.bool true), (.int (374) 0), (.ref 465), .none, .none, .none, (.ref 466), (.int (982) 0), (.int (251) 0), (.str (s "/claim/cut.py") 983)]), #[]⟩
noncomputable def o468 (P : Params) : Obj := ⟨(.type "function"), none, (.func (fn (hT 56) (s "whole_roots") (s "whole_roots") 3 [] .none .none .none (.str (s "likepanes.factors") 910) none (.ref 467) .none 0)), #[]⟩
noncomputable def t4 (P : Params) : BT := (n (o0 P) (n (o1 P) (n (o3_4 P) (n (o7 P) (n (o15 P) (n (o31 P) (n (o63 P) (n (o127 P) (n (o255 P) z z) (n (o383 P) z z)) (n (o191 P) (n (o319 P) z z) (n (o447 P) z z))) (n (o95 P) (n (o159 P) (n (o287 P) z z) (n (o415 P) z z)) (n (o223 P) (n (o351 P) z z) z))) (n (o47 P) (n (o79 P) (n (o143 P) (n (o271 P) z z) (n (o399 P) z z)) (n (o207 P) (n (o335 P) z z) (n (o463 P) z z))) (n (o111 P) (n (o175 P) (n (o303 P) z z) (n (o431 P) z z)) (n (o239 P) (n (o367 P) z z) z)))) (n (o23 P) (n (o39 P) (n (o71 P) (n (o135 P) (n (o263 P) z z) (n (o391 P) z z)) (n (o199 P) (n (o327 P) z z) (n (o455 P) z z))) (n (o103 P) (n (o167 P) (n (o295 P) z z) (n (o423 P) z z)) (n (o231 P) (n (o359 P) z z) z))) (n (o55 P) (n (o87 P) (n (o151 P) (n (o279 P) z z) (n (o407 P) z z)) (n (o215 P) (n (o343 P) z z) z)) (n (o119 P) (n (o183 P) (n (o311 P) z z) (n (o439 P) z z)) (n (o247 P) (n (o375 P) z z) z))))) (n (o11 P) (n (o19 P) (n (o35 P) (n (o67 P) (n (o131 P) (n (o259 P) z z) (n (o387 P) z z)) (n (o195 P) (n (o323 P) z z) (n (o451 P) z z))) (n (o99 P) (n (o163 P) (n (o291 P) z z) (n (o419 P) z z)) (n (o227 P) (n (o355 P) z z) z))) (n (o51 P) (n (o83 P) (n (o147 P) (n (o275 P) z z) (n (o403 P) z z)) (n (o211 P) (n (o339 P) z z) (n (o467 P) z z))) (n (o115 P) (n (o179_3 P) (n (o307 P) z z) (n (o435 P) z z)) (n (o243 P) (n (o371 P) z z) z)))) (n (o27 P) (n (o43 P) (n (o75 P) (n (o139 P) (n (o267 P) z z) (n (o395 P) z z)) (n (o203 P) (n (o331 P) z z) (n (o459 P) z z))) (n (o107 P) (n (o171 P) (n (o299 P) z z) (n (o427 P) z z)) (n (o235 P) (n (o363 P) z z) z))) (n (o59 P) (n (o91 P) (n (o155 P) (n (o283 P) z z) (n (o411 P) z z)) (n (o219 P) (n (o347 P) z z) z)) (n (o123 P) (n (o187 P) (n (o315 P) z z) (n (o443 P) z z)) (n (o251 P) (n (o379 P) z z) z)))))) (n (o5 P) (n (o9 P) (n (o17 P) (n (o33 P) (n (o65 P) (n (o129 P) (n (o257 P) z z) (n (o385 P) z z)) (n (o193 P) (n (o321 P) z z) (n (o449 P) z z))) (n (o97 P) (n (o161 P) (n (o289 P) z z) (n (o417 P) z z)) (n (o225 P) (n (o353 P) z z) z))) (n (o49 P) (n (o81 P) (n (o145 P) (n (o273 P) z z) (n (o401 P) z z)) (n (o209 P) (n (o337 P) z z) (n (o465 P) z z))) (n (o113 P) (n (o177 P) (n (o305 P) z z) (n (o433 P) z z)) (n (o241 P) (n (o369 P) z z) z)))) (n (o25 P) (n (o41 P) (n (o73 P) (n (o137 P) (n (o265 P) z z) (n (o393 P) z z)) (n (o201 P) (n (o329 P) z z) (n (o457 P) z z))) (n (o105 P) (n (o169 P) (n (o297 P) z z) (n (o425 P) z z)) (n (o233 P) (n (o361 P) z z) z))) (n (o57 P) (n (o89 P) (n (o153 P) (n (o281 P) z z) (n (o409 P) z z)) (n (o217 P) (n (o345 P) z z) z)) (n (o121 P) (n (o185 P) (n (o313 P) z z) (n (o441 P) z z)) (n (o249 P) (n (o377 P) z z) z))))) (n (o13 P) (n (o21 P) (n (o37 P) (n (o69 P) (n (o133 P) (n (o261 P) z z) (n (o389 P) z z)) (n (o197 P) (n (o325 P) z z) (n (o453 P) z z))) (n (o101 P) (n (o165 P) (n (o293 P) z z) (n (o421 P) z z)) (n (o229 P) (n (o357 P) z z) z))) (n (o53 P) (n (o85 P) (n (o149 P) (n (o277 P) z z) (n (o405 P) z z)) (n (o213 P) (n (o341 P) z z) z)) (n (o117 P) (n (o181 P) (n (o309 P) z z) (n (o437 P) z z)) (n (o245 P) (n (o373 P) z z) z)))) (n (o29 P) (n (o45 P) (n (o77 P) (n (o141 P) (n (o269 P) z z) (n (o397 P) z z)) (n (o205 P) (n (o333 P) z z) (n (o461 P) z z))) (n (o109 P) (n (o173 P) (n (o301 P) z z) (n (o429 P) z z)) (n (o237 P) (n (o365 P) z z) z))) (n (o61 P) (n (o93 P) (n (o157 P) (n (o285 P) z z) (n (o413 P) z z)) (n (o221 P) (n (o349 P) z z) z)) (n (o125 P) (n (o189 P) (n (o317 P) z z) (n (o445 P) z z)) (n (o253 P) (n (o381 P) z z) z))))))) (n (o2_2 P) (n (o4 P) (n (o8 P) (n (o16 P) (n (o32 P) (n (o64 P) (n (o128 P) (n (o256 P) z z) (n (o384 P) z z)) (n (o192 P) (n (o320 P) z z) (n (o448 P) z z))) (n (o96 P) (n (o160 P) (n (o288 P) z z) (n (o416 P) z z)) (n (o224 P) (n (o352 P) z z) z))) (n (o48 P) (n (o80 P) (n (o144 P) (n (o272 P) z z) (n (o400 P) z z)) (n (o208 P) (n (o336 P) z z) (n (o464 P) z z))) (n (o112 P) (n (o176 P) (n (o304 P) z z) (n (o432 P) z z)) (n (o240 P) (n (o368 P) z z) z)))) (n (o24 P) (n (o40_4 P) (n (o72 P) (n (o136 P) (n (o264 P) z z) (n (o392 P) z z)) (n (o200 P) (n (o328 P) z z) (n (o456 P) z z))) (n (o104 P) (n (o168 P) (n (o296 P) z z) (n (o424 P) z z)) (n (o232 P) (n (o360 P) z z) z))) (n (o56 P) (n (o88 P) (n (o152 P) (n (o280 P) z z) (n (o408 P) z z)) (n (o216 P) (n (o344 P) z z) z)) (n (o120 P) (n (o184 P) (n (o312 P) z z) (n (o440 P) z z)) (n (o248 P) (n (o376 P) z z) z))))) (n (o12_0 P) (n (o20 P) (n (o36 P) (n (o68 P) (n (o132 P) (n (o260 P) z z) (n (o388 P) z z)) (n (o196 P) (n (o324 P) z z) (n (o452 P) z z))) (n (o100 P) (n (o164 P) (n (o292 P) z z) (n (o420 P) z z)) (n (o228 P) (n (o356 P) z z) z))) (n (o52_2 P) (n (o84 P) (n (o148 P) (n (o276 P) z z) (n (o404 P) z z)) (n (o212 P) (n (o340 P) z z) (n (o468 P) z z))) (n (o116 P) (n (o180 P) (n (o308 P) z z) (n (o436 P) z z)) (n (o244 P) (n (o372 P) z z) z)))) (n (o28 P) (n (o44 P) (n (o76 P) (n (o140 P) (n (o268 P) z z) (n (o396 P) z z)) (n (o204 P) (n (o332 P) z z) (n (o460 P) z z))) (n (o108 P) (n (o172 P) (n (o300 P) z z) (n (o428 P) z z)) (n (o236 P) (n (o364 P) z z) z))) (n (o60 P) (n (o92 P) (n (o156 P) (n (o284 P) z z) (n (o412 P) z z)) (n (o220 P) (n (o348 P) z z) z)) (n (o124 P) (n (o188 P) (n (o316 P) z z) (n (o444 P) z z)) (n (o252 P) (n (o380 P) z z) z)))))) (n (o6 P) (n (o10 P) (n (o18 P) (n (o34 P) (n (o66 P) (n (o130 P) (n (o258 P) z z) (n (o386 P) z z)) (n (o194 P) (n (o322 P) z z) (n (o450 P) z z))) (n (o98 P) (n (o162 P) (n (o290 P) z z) (n (o418 P) z z)) (n (o226 P) (n (o354 P) z z) z))) (n (o50 P) (n (o82 P) (n (o146 P) (n (o274 P) z z) (n (o402 P) z z)) (n (o210 P) (n (o338 P) z z) (n (o466 P) z z))) (n (o114 P) (n (o178 P) (n (o306 P) z z) (n (o434 P) z z)) (n (o242 P) (n (o370 P) z z) z)))) (n (o26 P) (n (o42 P) (n (o74 P) (n (o138 P) (n (o266 P) z z) (n (o394 P) z z)) (n (o202 P) (n (o330 P) z z) (n (o458 P) z z))) (n (o106 P) (n (o170 P) (n (o298 P) z z) (n (o426 P) z z)) (n (o234 P) (n (o362 P) z z) z))) (n (o58 P) (n (o90 P) (n (o154 P) (n (o282 P) z z) (n (o410 P) z z)) (n (o218 P) (n (o346 P) z z) z)) (n (o122 P) (n (o186 P) (n (o314 P) z z) (n (o442 P) z z)) (n (o250 P) (n (o378 P) z z) z))))) (n (o14 P) (n (o22 P) (n (o38 P) (n (o70 P) (n (o134 P) (n (o262 P) z z) (n (o390 P) z z)) (n (o198 P) (n (o326 P) z z) (n (o454 P) z z))) (n (o102 P) (n (o166 P) (n (o294 P) z z) (n (o422 P) z z)) (n (o230 P) (n (o358 P) z z) z))) (n (o54 P) (n (o86 P) (n (o150 P) (n (o278 P) z z) (n (o406 P) z z)) (n (o214 P) (n (o342 P) z z) z)) (n (o118 P) (n (o182 P) (n (o310 P) z z) (n (o438 P) z z)) (n (o246 P) (n (o374 P) z z) z)))) (n (o30 P) (n (o46 P) (n (o78 P) (n (o142 P) (n (o270 P) z z) (n (o398 P) z z)) (n (o206 P) (n (o334 P) z z) (n (o462 P) z z))) (n (o110 P) (n (o174 P) (n (o302 P) z z) (n (o430 P) z z)) (n (o238 P) (n (o366 P) z z) z))) (n (o62 P) (n (o94 P) (n (o158 P) (n (o286 P) z z) (n (o414 P) z z)) (n (o222 P) (n (o350 P) z z) z)) (n (o126 P) (n (o190 P) (n (o318 P) z z) (n (o446 P) z z)) (n (o254 P) (n (o382 P) z z) z))))))))
noncomputable def X4 (w : World) (os : OsState) : SharedT := ⟨t4 w.params, 469, {}, #[], {}, 987, os⟩
noncomputable def o3_5 (P : Params) : Obj := ⟨(.type "dict"), none, (.dict #[k P "__name__" 165 (.str (s "likepanes.shapes") 985), k P "__doc__" 166 .none, k P "__package__" 167 .none, k P "__loader__" 168 (.builtin "__main__.__loader__#opaque"), k P "__spec__" 169 .none, k P "__annotations__" 170 (.ref 6), k P "__builtins__" 171 (.ref 4), k P "__file__" 173 (.str (s "/claim/cut.py") 172), k P "__cached__" 174 .none, k P "gcd" 370 (.builtin "math.gcd"), k P "isqrt" 373 (.builtin "math.isqrt"), k P "BadValue" 399 (.ref 52), k P "InvalidText" 424 (.ref 72), k P "InvalidFraction" 449 (.ref 91), k P "InvalidNumber" 474 (.ref 110), k P "InvalidTree" 499 (.ref 129), k P "NotAShape" 524 (.ref 148), k P "InvalidEquation" 549 (.ref 167), k P "NoAnswer" 569 (.ref 179), k P "NoRoot" 592 (.ref 199), k P "NoQuotient" 615 (.ref 218), k P "TooMany" 640 (.ref 237), k P "MOST_DEGREE" 642 (.int (5) 641), k P "MOST_TERM" 644 (.int (1000) 643), k P "MOST_LEAVES" 646 (.int (12) 645), k P "MOST_FEW" 648 (.int (5) 647), k P "is_integer" 657 (.ref 246), k P "are_integers" 663 (.ref 251), k P "is_fraction" 672 (.ref 258), k P "is_below" 680 (.ref 265), k P "is_term" 687 (.ref 272), k P "wrong_term" 697 (.ref 279), k P "trimmed" 707 (.ref 286), k P "common_divisor" 716 (.ref 293), k P "primitive" 722 (.ref 298), k P "negative" 728 (.ref 303), k P "derivative" 734 (.ref 308), k P "value_at" 746 (.ref 315), k P "multiplied" 759 (.ref 322), k P "combined" 773 (.ref 329), k P "remainder" 783 (.ref 336), k P "divided" 798 (.ref 343), k P "FIRST_BITS" 802 (.int (64) 801), k P "sturm_chain" 810 (.ref 350), k P "changes" 816 (.ref 355), k P "reach" 822 (.ref 360), k P "roots_up_to" 831 (.ref 367), k P "roots_in_all" 838 (.ref 374), k P "roots_within" 849 (.ref 381), k P "rank_of_last" 857 (.ref 388), k P "stretch_of" 868 (.ref 395), k P "lonely_stretch" 881 (.ref 402), k P "refined" 893 (.ref 409), k P "guessed" 909 (.ref 416), k P "is_least" 918 (.ref 423), k P "factors_of" 928 (.ref 430), k P "least_factor" 936 (.ref 437), k P "divisors" 942 (.ref 442), k P "linear_factor" 953 (.ref 449), k P "quadratic_factor" 966 (.ref 456), k P "middles" 978 (.ref 463), k P "whole_roots" 984 (.ref 468), k P "Shape" 1094 (.ref 546), k P "less" 1103 (.ref 557), k P "check_shape" 1110 (.ref 564), k P "check_equation" 1118 (.ref 571), k P "check_stretch" 1126 (.ref 578), k P "factor_within" 1139 (.ref 585)] 68), #[]⟩
noncomputable def o40_5 (P : Params) : Obj := ⟨.none, none, (.fields #[(.int (3) 0), (.int (0) 0), (.ref 48), (.int (5) 0), (.int (0) 0), (.ref 61), (.int (10) 0), (.int (0) 0), (.ref 80), (.int (15) 0), (.int (0) 0), (.ref 99), (.int (20) 0), (.int (0) 0), (.ref 118), (.int (25) 0), (.int (0) 0), (.ref 137), (.int (30) 0), (.int (0) 0), (.ref 156), (.int (35) 0), (.int (0) 0), (.ref 175), (.int (37) 0), (.int (0) 0), (.ref 188), (.int (41) 0), (.int (0) 0), (.ref 207), (.int (45) 0), (.int (0) 0), (.ref 226), (.int (55) 0), (.int (0) 0), (.ref 245), (.int (57) 0), (.int (0) 0), (.ref 250), (.int (59) 0), (.int (0) 0), (.ref 257), (.int (64) 0), (.int (0) 0), (.ref 264), (.int (66) 0), (.int (0) 0), (.ref 271), (.int (68) 0), (.int (0) 0), (.ref 278), (.int (75) 0), (.int (0) 0), (.ref 285), (.int (80) 0), (.int (0) 0), (.ref 292), (.int (85) 0), (.int (0) 0), (.ref 297), (.int (88) 0), (.int (0) 0), (.ref 302), (.int (90) 0), (.int (0) 0), (.ref 307), (.int (92) 0), (.int (0) 0), (.ref 314), (.int (98) 0), (.int (0) 0), (.ref 321), (.int (104) 0), (.int (0) 0), (.ref 328), (.int (111) 0), (.int (0) 0), (.ref 335), (.int (117) 0), (.int (0) 0), (.ref 342), (.int (133) 0), (.int (0) 0), (.ref 349), (.int (139) 0), (.int (0) 0), (.ref 354), (.int (143) 0), (.int (0) 0), (.ref 359), (.int (145) 0), (.int (0) 0), (.ref 366), (.int (147) 0), (.int (0) 0), (.ref 373), (.int (149) 0), (.int (0) 0), (.ref 380), (.int (155) 0), (.int (0) 0), (.ref 387), (.int (157) 0), (.int (0) 0), (.ref 394), (.int (161) 0), (.int (0) 0), (.ref 401), (.int (173) 0), (.int (0) 0), (.ref 408), (.int (185) 0), (.int (0) 0), (.ref 415), (.int (198) 0), (.int (0) 0), (.ref 422), (.int (202) 0), (.int (0) 0), (.ref 429), (.int (213) 0), (.int (0) 0), (.ref 436), (.int (220) 0), (.int (0) 0), (.ref 441), (.int (222) 0), (.int (0) 0), (.ref 448), (.int (234) 0), (.int (0) 0), (.ref 455), (.int (244) 0), (.int (0) 0), (.ref 462), (.int (251) 0), (.int (0) 0), (.ref 467), (.int (261) 0), (.int (0) 0), (.ref 474), (.int (308) 0), (.int (0) 0), (.ref 556), (.int (317) 0), (.int (0) 0), (.ref 563), (.int (320) 0), (.int (0) 0), (.ref 570), (.int (326) 0), (.int (0) 0), (.ref 577), (.int (331) 0), (.int (0) 0), (.ref 584)]), #[]⟩
noncomputable def o469 (P : Params) : Obj := ⟨(.type "tuple"), none, (.seq #[] 0), #[]⟩
noncomputable def o470 (P : Params) : Obj := ⟨(.type "builtin_function_or_method"), none, (.fields #[(.builtin "type.__prepare__"), (.type "type")]), #[]⟩
noncomputable def o471 (P : Params) : Obj := ⟨(.type "dict"), none, (.dict #[k P "__module__" 994 (.str (s "likepanes.shapes") 985), k P "__qualname__" 996 (.str (s "Shape") 995), k P "__firstlineno__" 998 (.int (261) 997), k P "__init__" 1007 (.ref 482), k P "of" 1025 (.ref 489), k P "text" 1033 (.ref 498), k P "equation" 1041 (.ref 506), k P "degree" 1049 (.ref 514), k P "rank" 1057 (.ref 522), k P "floor_at" 1065 (.ref 529), k P "__eq__" 1073 (.ref 536), k P "__str__" 1080 (.ref 543), k P "__static_attributes__" 1086 (.ref 544)] 13), #[]⟩
noncomputable def o472 (P : Params) : Obj := ⟨(.type "tuple"), none, (.seq #[] 0), #[]⟩
noncomputable def o473 (P : Params) : Obj := ⟨.none, none, (.fields #[(.int (263) 0), (.int (4) 0), (.ref 481), (.int (272) 0), (.int (4) 0), (.ref 486), (.int (283) 0), (.int (4) 0), (.ref 496), (.int (287) 0), (.int (4) 0), (.ref 504), (.int (291) 0), (.int (4) 0), (.ref 512), (.int (295) 0), (.int (4) 0), (.ref 520), (.int (298) 0), (.int (4) 0), (.ref 528), (.int (303) 0), (.int (4) 0), (.ref 535), (.int (306) 0), (.int (4) 0), (.ref 542)]), #[]⟩
noncomputable def o474 (P : Params) : Obj := ⟨(.type "code"), none, (.fields #[(.str (s "Shape") 989), (.str (s "Shape") 990), (.str (s "/claim/cut.py") 991), (.int (261) 0), (.int (0) 0), (.int (0) 0), (.int (0) 0), (.int (0) 0), (.ref 472), (.bool false), (.int (374) 0), (.ref 473), .none, .none, .none, .none, (.int (992) 0), (.int (261) 0), (.str (s "/claim/cut.py") 993)]), #[]⟩
noncomputable def o475 (P : Params) : Obj := ⟨(.type "frame"), none, .plain, #[(some (.ref 474)), (some (.ref 3)), (some (.ref 471)), none, (some (.str (s "likepanes.shapes") 985)), none, (some (.ref 0))]⟩
noncomputable def o476 (P : Params) : Obj := ⟨(.type "tuple"), none, (.seq #[] 0), #[]⟩
noncomputable def o477 (P : Params) : Obj := ⟨.none, none, (.fields #[]), #[]⟩
noncomputable def o478 (P : Params) : Obj := ⟨(.type "tuple"), none, (.seq #[(.str (s "self") 1002), (.str (s "text") 1003), (.str (s "told") 1004)] 0), #[]⟩
noncomputable def o479 (P : Params) : Obj := ⟨(.type "tuple"), none, (.seq #[] 0), #[]⟩
noncomputable def o480 (P : Params) : Obj := ⟨.none, none, (.func (fn (L2.inClass (hT 58) 0) (s "__init__") (s "Shape.__init__") 0 [] .none .none .none .none none .none .none 0)), #[]⟩
noncomputable def o481 (P : Params) : Obj := ⟨(.type "code"), none, (.fields #[(.str (s "__init__") 999), (.str (s "Shape.__init__") 1000), (.str (s "/claim/cut.py") 1001), (.int (263) 0), (.int (2) 0), (.int (0) 0), (.int (0) 0), (.int (3) 0), (.ref 476), (.bool true), (.int (374) 0), (.ref 477), .none, (.ref 478), (.ref 479), (.ref 480), (.int (1005) 0), (.int (263) 0), (.str (s "/claim/cut.py") 1006)]), #[]⟩
noncomputable def o482 (P : Params) : Obj := ⟨(.type "function"), none, (.func (fn (L2.inClass (hT 58) 0) (s "__init__") (s "Shape.__init__") 3 [] .none .none .none (.str (s "likepanes.shapes") 985) none (.ref 481) .none 0)), #[]⟩
noncomputable def o483 (P : Params) : Obj := ⟨(.type "tuple"), none, (.seq #[] 0), #[]⟩
noncomputable def o484 (P : Params) : Obj := ⟨.none, none, (.fields #[]), #[]⟩
noncomputable def o485 (P : Params) : Obj := ⟨.none, none, (.func (fn (L2.inClass (hT 58) 1) (s "of") (s "Shape.of") 0 [] .none .none .none .none none .none .none 0)), #[]⟩
noncomputable def o486 (P : Params) : Obj := ⟨(.type "code"), none, (.fields #[(.str (s "of") 1008), (.str (s "Shape.of") 1009), (.str (s "/claim/cut.py") 1010), (.int (271) 0), (.int (3) 0), (.int (0) 0), (.int (0) 0), (.int (3) 0), (.ref 483), (.bool true), (.int (374) 0), (.ref 484), .none, .none, .none, (.ref 485), (.int (1011) 0), (.int (271) 0), (.str (s "/claim/cut.py") 1012)]), #[]⟩
noncomputable def o487 (P : Params) : Obj := ⟨(.type "function"), none, (.func (fn (L2.inClass (hT 58) 1) (s "of") (s "Shape.of") 3 [] .none .none .none (.str (s "likepanes.shapes") 985) (some 490) (.ref 486) .none 0)), #[]⟩
noncomputable def o488 (P : Params) : Obj := ⟨(.type "dict"), none, (.dict #[k P "__module__" 1014 (.str (s "likepanes.shapes") 985), k P "__name__" 1017 (.str (s "of") 1016), k P "__qualname__" 1020 (.str (s "Shape.of") 1019), k P "__doc__" 1022 .none, k P "__annotations__" 1024 (.ref 490)] 5), #[]⟩
noncomputable def o489 (P : Params) : Obj := ⟨(.type "staticmethod"), (some 488), (.fields #[(.ref 487), (.bool false)]), #[]⟩
noncomputable def o490 (P : Params) : Obj := ⟨(.type "dict"), none, (.dict #[] 0), #[]⟩
noncomputable def o491 (P : Params) : Obj := ⟨(.type "tuple"), none, (.seq #[] 0), #[]⟩
noncomputable def o492 (P : Params) : Obj := ⟨.none, none, (.fields #[]), #[]⟩
noncomputable def o493 (P : Params) : Obj := ⟨(.type "tuple"), none, (.seq #[(.str (s "self") 1029)] 0), #[]⟩
noncomputable def o494 (P : Params) : Obj := ⟨(.type "tuple"), none, (.seq #[] 0), #[]⟩
noncomputable def o495 (P : Params) : Obj := ⟨.none, none, (.func (fn (L2.inClass (hT 58) 2) (s "text") (s "Shape.text") 0 [] .none .none .none .none none .none .none 0)), #[]⟩
noncomputable def o496 (P : Params) : Obj := ⟨(.type "code"), none, (.fields #[(.str (s "text") 1026), (.str (s "Shape.text") 1027), (.str (s "/claim/cut.py") 1028), (.int (282) 0), (.int (1) 0), (.int (0) 0), (.int (0) 0), (.int (3) 0), (.ref 491), (.bool true), (.int (374) 0), (.ref 492), .none, (.ref 493), (.ref 494), (.ref 495), (.int (1030) 0), (.int (282) 0), (.str (s "/claim/cut.py") 1031)]), #[]⟩
noncomputable def o497 (P : Params) : Obj := ⟨(.type "function"), none, (.func (fn (L2.inClass (hT 58) 2) (s "text") (s "Shape.text") 3 [] .none .none .none (.str (s "likepanes.shapes") 985) none (.ref 496) .none 0)), #[]⟩
noncomputable def o498 (P : Params) : Obj := ⟨(.type "property"), none, (.fields #[(.ref 497), .none, .none, .none, (.str (s "text") 1033), (.bool false)]), #[]⟩
noncomputable def o499 (P : Params) : Obj := ⟨(.type "tuple"), none, (.seq #[] 0), #[]⟩
noncomputable def o500 (P : Params) : Obj := ⟨.none, none, (.fields #[]), #[]⟩
noncomputable def o501 (P : Params) : Obj := ⟨(.type "tuple"), none, (.seq #[(.str (s "self") 1037)] 0), #[]⟩
noncomputable def o502 (P : Params) : Obj := ⟨(.type "tuple"), none, (.seq #[] 0), #[]⟩
noncomputable def o503 (P : Params) : Obj := ⟨.none, none, (.func (fn (L2.inClass (hT 58) 3) (s "equation") (s "Shape.equation") 0 [] .none .none .none .none none .none .none 0)), #[]⟩
noncomputable def o504 (P : Params) : Obj := ⟨(.type "code"), none, (.fields #[(.str (s "equation") 1034), (.str (s "Shape.equation") 1035), (.str (s "/claim/cut.py") 1036), (.int (286) 0), (.int (1) 0), (.int (0) 0), (.int (0) 0), (.int (3) 0), (.ref 499), (.bool true), (.int (374) 0), (.ref 500), .none, (.ref 501), (.ref 502), (.ref 503), (.int (1038) 0), (.int (286) 0), (.str (s "/claim/cut.py") 1039)]), #[]⟩
noncomputable def o505 (P : Params) : Obj := ⟨(.type "function"), none, (.func (fn (L2.inClass (hT 58) 3) (s "equation") (s "Shape.equation") 3 [] .none .none .none (.str (s "likepanes.shapes") 985) none (.ref 504) .none 0)), #[]⟩
noncomputable def o506 (P : Params) : Obj := ⟨(.type "property"), none, (.fields #[(.ref 505), .none, .none, .none, (.str (s "equation") 1041), (.bool false)]), #[]⟩
noncomputable def o507 (P : Params) : Obj := ⟨(.type "tuple"), none, (.seq #[] 0), #[]⟩
noncomputable def o508 (P : Params) : Obj := ⟨.none, none, (.fields #[]), #[]⟩
noncomputable def o509 (P : Params) : Obj := ⟨(.type "tuple"), none, (.seq #[(.str (s "self") 1045)] 0), #[]⟩
noncomputable def o510 (P : Params) : Obj := ⟨(.type "tuple"), none, (.seq #[] 0), #[]⟩
noncomputable def o511 (P : Params) : Obj := ⟨.none, none, (.func (fn (L2.inClass (hT 58) 4) (s "degree") (s "Shape.degree") 0 [] .none .none .none .none none .none .none 0)), #[]⟩
noncomputable def o512 (P : Params) : Obj := ⟨(.type "code"), none, (.fields #[(.str (s "degree") 1042), (.str (s "Shape.degree") 1043), (.str (s "/claim/cut.py") 1044), (.int (290) 0), (.int (1) 0), (.int (0) 0), (.int (0) 0), (.int (3) 0), (.ref 507), (.bool true), (.int (374) 0), (.ref 508), .none, (.ref 509), (.ref 510), (.ref 511), (.int (1046) 0), (.int (290) 0), (.str (s "/claim/cut.py") 1047)]), #[]⟩
noncomputable def o513 (P : Params) : Obj := ⟨(.type "function"), none, (.func (fn (L2.inClass (hT 58) 4) (s "degree") (s "Shape.degree") 3 [] .none .none .none (.str (s "likepanes.shapes") 985) none (.ref 512) .none 0)), #[]⟩
noncomputable def o514 (P : Params) : Obj := ⟨(.type "property"), none, (.fields #[(.ref 513), .none, .none, .none, (.str (s "degree") 1049), (.bool false)]), #[]⟩
noncomputable def o515 (P : Params) : Obj := ⟨(.type "tuple"), none, (.seq #[] 0), #[]⟩
noncomputable def o516 (P : Params) : Obj := ⟨.none, none, (.fields #[]), #[]⟩
noncomputable def o517 (P : Params) : Obj := ⟨(.type "tuple"), none, (.seq #[(.str (s "self") 1053)] 0), #[]⟩
noncomputable def o518 (P : Params) : Obj := ⟨(.type "tuple"), none, (.seq #[] 0), #[]⟩
noncomputable def o519 (P : Params) : Obj := ⟨.none, none, (.func (fn (L2.inClass (hT 58) 5) (s "rank") (s "Shape.rank") 0 [] .none .none .none .none none .none .none 0)), #[]⟩
noncomputable def o520 (P : Params) : Obj := ⟨(.type "code"), none, (.fields #[(.str (s "rank") 1050), (.str (s "Shape.rank") 1051), (.str (s "/claim/cut.py") 1052), (.int (294) 0), (.int (1) 0), (.int (0) 0), (.int (0) 0), (.int (3) 0), (.ref 515), (.bool true), (.int (374) 0), (.ref 516), .none, (.ref 517), (.ref 518), (.ref 519), (.int (1054) 0), (.int (294) 0), (.str (s "/claim/cut.py") 1055)]), #[]⟩
noncomputable def o521 (P : Params) : Obj := ⟨(.type "function"), none, (.func (fn (L2.inClass (hT 58) 5) (s "rank") (s "Shape.rank") 3 [] .none .none .none (.str (s "likepanes.shapes") 985) none (.ref 520) .none 0)), #[]⟩
noncomputable def o522 (P : Params) : Obj := ⟨(.type "property"), none, (.fields #[(.ref 521), .none, .none, .none, (.str (s "rank") 1057), (.bool false)]), #[]⟩
noncomputable def o523 (P : Params) : Obj := ⟨(.type "tuple"), none, (.seq #[] 0), #[]⟩
noncomputable def o524 (P : Params) : Obj := ⟨.none, none, (.fields #[]), #[]⟩
noncomputable def o525 (P : Params) : Obj := ⟨(.type "tuple"), none, (.seq #[(.str (s "self") 1061), (.str (s "bits") 1062)] 0), #[]⟩
noncomputable def o526 (P : Params) : Obj := ⟨(.type "tuple"), none, (.seq #[] 0), #[]⟩
noncomputable def o527 (P : Params) : Obj := ⟨.none, none, (.func (fn (L2.inClass (hT 58) 6) (s "floor_at") (s "Shape.floor_at") 0 [] .none .none .none .none none .none .none 0)), #[]⟩
noncomputable def o528 (P : Params) : Obj := ⟨(.type "code"), none, (.fields #[(.str (s "floor_at") 1058), (.str (s "Shape.floor_at") 1059), (.str (s "/claim/cut.py") 1060), (.int (298) 0), (.int (2) 0), (.int (0) 0), (.int (0) 0), (.int (3) 0), (.ref 523), (.bool true), (.int (374) 0), (.ref 524), .none, (.ref 525), (.ref 526), (.ref 527), (.int (1063) 0), (.int (298) 0), (.str (s "/claim/cut.py") 1064)]), #[]⟩
noncomputable def o529 (P : Params) : Obj := ⟨(.type "function"), none, (.func (fn (L2.inClass (hT 58) 6) (s "floor_at") (s "Shape.floor_at") 3 [] .none .none .none (.str (s "likepanes.shapes") 985) none (.ref 528) .none 0)), #[]⟩
noncomputable def o530 (P : Params) : Obj := ⟨(.type "tuple"), none, (.seq #[] 0), #[]⟩
noncomputable def o531 (P : Params) : Obj := ⟨.none, none, (.fields #[]), #[]⟩
noncomputable def o532 (P : Params) : Obj := ⟨(.type "tuple"), none, (.seq #[(.str (s "self") 1069), (.str (s "other") 1070)] 0), #[]⟩
noncomputable def o533 (P : Params) : Obj := ⟨(.type "tuple"), none, (.seq #[] 0), #[]⟩
noncomputable def o534 (P : Params) : Obj := ⟨.none, none, (.func (fn (L2.inClass (hT 58) 7) (s "__eq__") (s "Shape.__eq__") 0 [] .none .none .none .none none .none .none 0)), #[]⟩
noncomputable def o535 (P : Params) : Obj := ⟨(.type "code"), none, (.fields #[(.str (s "__eq__") 1066), (.str (s "Shape.__eq__") 1067), (.str (s "/claim/cut.py") 1068), (.int (303) 0), (.int (2) 0), (.int (0) 0), (.int (0) 0), (.int (3) 0), (.ref 530), (.bool true), (.int (374) 0), (.ref 531), .none, (.ref 532), (.ref 533), (.ref 534), (.int (1071) 0), (.int (303) 0), (.str (s "/claim/cut.py") 1072)]), #[]⟩
noncomputable def o536 (P : Params) : Obj := ⟨(.type "function"), none, (.func (fn (L2.inClass (hT 58) 7) (s "__eq__") (s "Shape.__eq__") 3 [] .none .none .none (.str (s "likepanes.shapes") 985) none (.ref 535) .none 0)), #[]⟩
noncomputable def o537 (P : Params) : Obj := ⟨(.type "tuple"), none, (.seq #[] 0), #[]⟩
noncomputable def o538 (P : Params) : Obj := ⟨.none, none, (.fields #[]), #[]⟩
noncomputable def o539 (P : Params) : Obj := ⟨(.type "tuple"), none, (.seq #[(.str (s "self") 1077)] 0), #[]⟩
noncomputable def o540 (P : Params) : Obj := ⟨(.type "tuple"), none, (.seq #[] 0), #[]⟩
noncomputable def o541 (P : Params) : Obj := ⟨.none, none, (.func (fn (L2.inClass (hT 58) 8) (s "__str__") (s "Shape.__str__") 0 [] .none .none .none .none none .none .none 0)), #[]⟩
noncomputable def o542 (P : Params) : Obj := ⟨(.type "code"), none, (.fields #[(.str (s "__str__") 1074), (.str (s "Shape.__str__") 1075), (.str (s "/claim/cut.py") 1076), (.int (306) 0), (.int (1) 0), (.int (0) 0), (.int (0) 0), (.int (3) 0), (.ref 537), (.bool true), (.int (374) 0), (.ref 538), .none, (.ref 539), (.ref 540), (.ref 541), (.int (1078) 0), (.int (306) 0), (.str (s "/claim/cut.py") 1079)]), #[]⟩
noncomputable def o543 (P : Params) : Obj := ⟨(.type "function"), none, (.func (fn (L2.inClass (hT 58) 8) (s "__str__") (s "Shape.__str__") 3 [] .none .none .none (.str (s "likepanes.shapes") 985) none (.ref 542) .none 0)), #[]⟩
noncomputable def o544 (P : Params) : Obj := ⟨(.type "tuple"), none, (.seq #[(.str (s "_bits") 1081), (.str (s "_equation") 1082), (.str (s "_near") 1083), (.str (s "_rank") 1084), (.str (s "_text") 1085)] 0), #[]⟩
noncomputable def o545 (P : Params) : Obj := ⟨(.type "dict"), none, (.dict #[k P "__module__" 994 (.str (s "likepanes.shapes") 985), k P "__firstlineno__" 998 (.int (261) 997), k P "__init__" 1007 (.ref 482), k P "of" 1025 (.ref 489), k P "text" 1033 (.ref 498), k P "equation" 1041 (.ref 506), k P "degree" 1049 (.ref 514), k P "rank" 1057 (.ref 522), k P "floor_at" 1065 (.ref 529), k P "__eq__" 1073 (.ref 536), k P "__str__" 1080 (.ref 543), k P "__static_attributes__" 1086 (.ref 544), k P "__dict__" 1088 (.ref 547), k P "__weakref__" 1090 (.ref 548), k P "__doc__" 1091 .none, k P "__hash__" 1092 .none] 5), #[]⟩
noncomputable def o546 (P : Params) : Obj := ⟨(.type "type"), none, (.cls ⟨(s "Shape"), [(.type "object")], [(.ref 546), (.type "object")], 545, (s "Shape"), true, [], [], false, none, false⟩), #[none, none, (some (.str (s "Shape") 987)), (some (.str (s "Shape") 995)), (some (.builtin "object.__new__")), (some (.bool true))]⟩
noncomputable def o547 (P : Params) : Obj := ⟨(.type "getset_descriptor"), none, (.fields #[(.str (s "__dict__") 1087), (.ref 546), (.builtin "function.__dict__"), (.builtin "function.__dict__#set")]), #[]⟩
noncomputable def o548 (P : Params) : Obj := ⟨(.type "getset_descriptor"), none, (.fields #[(.str (s "__weakref__") 1089), (.ref 546), (.builtin "ExceptionGroup.__weakref__"), .none]), #[]⟩
noncomputable def o549 (P : Params) : Obj := ⟨(.type "super"), none, (.fields #[(.ref 546), (.ref 546), (.ref 546)]), #[]⟩
noncomputable def o550 (P : Params) : Obj := ⟨(.type "builtin_function_or_method"), none, (.fields #[(.builtin "object.__init_subclass__"), (.ref 546)]), #[]⟩
noncomputable def o551 (P : Params) : Obj := ⟨(.type "tuple"), none, (.seq #[] 0), #[]⟩
noncomputable def o552 (P : Params) : Obj := ⟨.none, none, (.fields #[]), #[]⟩
noncomputable def o553 (P : Params) : Obj := ⟨(.type "tuple"), none, (.seq #[(.str (s "one") 1098), (.str (s "other") 1099), (.str (s "bits") 1100)] 0), #[]⟩
noncomputable def o554 (P : Params) : Obj := ⟨(.type "tuple"), none, (.seq #[] 0), #[]⟩
noncomputable def o555 (P : Params) : Obj := ⟨.none, none, (.func (fn (hT 59) (s "less") (s "less") 0 [] .none .none .none .none none .none .none 0)), #[]⟩
noncomputable def o556 (P : Params) : Obj := ⟨(.type "code"), none, (.fields #[(.str (s "less") 1095), (.str (s "less") 1096), (.str (s "/claim/cut.py") 1097), (.int (308) 0), (.int (2) 0), (.int (0) 0), (.int (0) 0), (.int (3) 0), (.ref 551), (.bool true), (.int (374) 0), (.ref 552), .none, (.ref 553), (.ref 554), (.ref 555), (.int (1101) 0), (.int (308) 0), (.str (s "/claim/cut.py") 1102)]), #[]⟩
noncomputable def o557 (P : Params) : Obj := ⟨(.type "function"), none, (.func (fn (hT 59) (s "less") (s "less") 3 [] .none .none .none (.str (s "likepanes.shapes") 985) none (.ref 556) .none 0)), #[]⟩
noncomputable def o558 (P : Params) : Obj := ⟨(.type "tuple"), none, (.seq #[] 0), #[]⟩
noncomputable def o559 (P : Params) : Obj := ⟨.none, none, (.fields #[]), #[]⟩
noncomputable def o560 (P : Params) : Obj := ⟨(.type "tuple"), none, (.seq #[(.str (s "value") 1107)] 0), #[]⟩
noncomputable def o561 (P : Params) : Obj := ⟨(.type "tuple"), none, (.seq #[] 0), #[]⟩
noncomputable def o562 (P : Params) : Obj := ⟨.none, none, (.func (fn (hT 60) (s "check_shape") (s "check_shape") 0 [] .none .none .none .none none .none .none 0)), #[]⟩
noncomputable def o563 (P : Params) : Obj := ⟨(.type "code"), none, (.fields #[(.str (s "check_shape") 1104), (.str (s "check_shape") 1105), (.str (s "/claim/cut.py") 1106), (.int (317) 0), (.int (1) 0), (.int (0) 0), (.int (0) 0), (.int (3) 0), (.ref 558), (.bool true), (.int (374) 0), (.ref 559), .none, (.ref 560), (.ref 561), (.ref 562), (.int (1108) 0), (.int (317) 0), (.str (s "/claim/cut.py") 1109)]), #[]⟩
noncomputable def o564 (P : Params) : Obj := ⟨(.type "function"), none, (.func (fn (hT 60) (s "check_shape") (s "check_shape") 3 [] .none .none .none (.str (s "likepanes.shapes") 985) none (.ref 563) .none 0)), #[]⟩
noncomputable def o565 (P : Params) : Obj := ⟨(.type "tuple"), none, (.seq #[] 0), #[]⟩
noncomputable def o566 (P : Params) : Obj := ⟨.none, none, (.fields #[]), #[]⟩
noncomputable def o567 (P : Params) : Obj := ⟨(.type "tuple"), none, (.seq #[(.str (s "value") 1114), (.str (s "wrong") 1115)] 0), #[]⟩
noncomputable def o568 (P : Params) : Obj := ⟨(.type "tuple"), none, (.seq #[] 0), #[]⟩
noncomputable def o569 (P : Params) : Obj := ⟨.none, none, (.func (fn (hT 61) (s "check_equation") (s "check_equation") 0 [] .none .none .none .none none .none .none 0)), #[]⟩
noncomputable def o570 (P : Params) : Obj := ⟨(.type "code"), none, (.fields #[(.str (s "check_equation") 1111), (.str (s "check_equation") 1112), (.str (s "/claim/cut.py") 1113), (.int (320) 0), (.int (1) 0), (.int (0) 0), (.int (0) 0), (.int (3) 0), (.ref 565), (.bool true), (.int (374) 0), (.ref 566), .none, (.ref 567), (.ref 568), (.ref 569), (.int (1116) 0), (.int (320) 0), (.str (s "/claim/cut.py") 1117)]), #[]⟩
noncomputable def o571 (P : Params) : Obj := ⟨(.type "function"), none, (.func (fn (hT 61) (s "check_equation") (s "check_equation") 3 [] .none .none .none (.str (s "likepanes.shapes") 985) none (.ref 570) .none 0)), #[]⟩
noncomputable def o572 (P : Params) : Obj := ⟨(.type "tuple"), none, (.seq #[] 0), #[]⟩
noncomputable def o573 (P : Params) : Obj := ⟨.none, none, (.fields #[]), #[]⟩
noncomputable def o574 (P : Params) : Obj := ⟨(.type "tuple"), none, (.seq #[(.str (s "low") 1122), (.str (s "high") 1123)] 0), #[]⟩
noncomputable def o575 (P : Params) : Obj := ⟨(.type "tuple"), none, (.seq #[] 0), #[]⟩
noncomputable def o576 (P : Params) : Obj := ⟨.none, none, (.func (fn (hT 62) (s "check_stretch") (s "check_stretch") 0 [] .none .none .none .none none .none .none 0)), #[]⟩
noncomputable def o577 (P : Params) : Obj := ⟨(.type "code"), none, (.fields #[(.str (s "check_stretch") 1119), (.str (s "check_stretch") 1120), (.str (s "/claim/cut.py") 1121), (.int (326) 0), (.int (2) 0), (.int (0) 0), (.int (0) 0), (.int (3) 0), (.ref 572), (.bool true), (.int (374) 0), (.ref 573), .none, (.ref 574), (.ref 575), (.ref 576), (.int (1124) 0), (.int (326) 0), (.str (s "/claim/cut.py") 1125)]), #[]⟩
noncomputable def o578 (P : Params) : Obj := ⟨(.type "function"), none, (.func (fn (hT 62) (s "check_stretch") (s "check_stretch") 3 [] .none .none .none (.str (s "likepanes.shapes") 985) none (.ref 577) .none 0)), #[]⟩
noncomputable def o579 (P : Params) : Obj := ⟨(.type "tuple"), none, (.seq #[] 0), #[]⟩
noncomputable def o580 (P : Params) : Obj := ⟨.none, none, (.fields #[]), #[]⟩
noncomputable def o581 (P : Params) : Obj := ⟨(.type "tuple"), none, (.seq #[(.str (s "equation") 1130), (.str (s "low") 1131), (.str (s "high") 1132), (.str (s "found") 1133), (.str (s "many") 1134), (.str (s "terms") 1135), (.str (s "here") 1136)] 0), #[]⟩
noncomputable def o582 (P : Params) : Obj := ⟨(.type "tuple"), none, (.seq #[] 0), #[]⟩
noncomputable def o583 (P : Params) : Obj := ⟨.none, none, (.func (fn (hT 63) (s "factor_within") (s "factor_within") 0 [] .none .none .none .none none .none .none 0)), #[]⟩
noncomputable def o584 (P : Params) : Obj := ⟨(.type "code"), none, (.fields #[(.str (s "factor_within") 1127), (.str (s "factor_within") 1128), (.str (s "/claim/cut.py") 1129), (.int (331) 0), (.int (3) 0), (.int (0) 0), (.int (0) 0), (.int (3) 0), (.ref 579), (.bool true), (.int (374) 0), (.ref 580), .none, (.ref 581), (.ref 582), (.ref 583), (.int (1137) 0), (.int (331) 0), (.str (s "/claim/cut.py") 1138)]), #[]⟩
noncomputable def o585 (P : Params) : Obj := ⟨(.type "function"), none, (.func (fn (hT 63) (s "factor_within") (s "factor_within") 3 [] .none .none .none (.str (s "likepanes.shapes") 985) none (.ref 584) .none 0)), #[]⟩
noncomputable def t5 (P : Params) : BT := (n (o0 P) (n (o1 P) (n (o3_5 P) (n (o7 P) (n (o15 P) (n (o31 P) (n (o63 P) (n (o127 P) (n (o255 P) (n (o511 P) z z) z) (n (o383 P) z z)) (n (o191 P) (n (o319 P) (n (o575 P) z z) z) (n (o447 P) z z))) (n (o95 P) (n (o159 P) (n (o287 P) (n (o543 P) z z) z) (n (o415 P) z z)) (n (o223 P) (n (o351 P) z z) (n (o479 P) z z)))) (n (o47 P) (n (o79 P) (n (o143 P) (n (o271 P) (n (o527 P) z z) z) (n (o399 P) z z)) (n (o207 P) (n (o335 P) z z) (n (o463 P) z z))) (n (o111 P) (n (o175 P) (n (o303 P) (n (o559 P) z z) z) (n (o431 P) z z)) (n (o239 P) (n (o367 P) z z) (n (o495 P) z z))))) (n (o23 P) (n (o39 P) (n (o71 P) (n (o135 P) (n (o263 P) (n (o519 P) z z) z) (n (o391 P) z z)) (n (o199 P) (n (o327 P) (n (o583 P) z z) z) (n (o455 P) z z))) (n (o103 P) (n (o167 P) (n (o295 P) (n (o551 P) z z) z) (n (o423 P) z z)) (n (o231 P) (n (o359 P) z z) (n (o487 P) z z)))) (n (o55 P) (n (o87 P) (n (o151 P) (n (o279 P) (n (o535 P) z z) z) (n (o407 P) z z)) (n (o215 P) (n (o343 P) z z) (n (o471 P) z z))) (n (o119 P) (n (o183 P) (n (o311 P) (n (o567 P) z z) z) (n (o439 P) z z)) (n (o247 P) (n (o375 P) z z) (n (o503 P) z z)))))) (n (o11 P) (n (o19 P) (n (o35 P) (n (o67 P) (n (o131 P) (n (o259 P) (n (o515 P) z z) z) (n (o387 P) z z)) (n (o195 P) (n (o323 P) (n (o579 P) z z) z) (n (o451 P) z z))) (n (o99 P) (n (o163 P) (n (o291 P) (n (o547 P) z z) z) (n (o419 P) z z)) (n (o227 P) (n (o355 P) z z) (n (o483 P) z z)))) (n (o51 P) (n (o83 P) (n (o147 P) (n (o275 P) (n (o531 P) z z) z) (n (o403 P) z z)) (n (o211 P) (n (o339 P) z z) (n (o467 P) z z))) (n (o115 P) (n (o179_3 P) (n (o307 P) (n (o563 P) z z) z) (n (o435 P) z z)) (n (o243 P) (n (o371 P) z z) (n (o499 P) z z))))) (n (o27 P) (n (o43 P) (n (o75 P) (n (o139 P) (n (o267 P) (n (o523 P) z z) z) (n (o395 P) z z)) (n (o203 P) (n (o331 P) z z) (n (o459 P) z z))) (n (o107 P) (n (o171 P) (n (o299 P) (n (o555 P) z z) z) (n (o427 P) z z)) (n (o235 P) (n (o363 P) z z) (n (o491 P) z z)))) (n (o59 P) (n (o91 P) (n (o155 P) (n (o283 P) (n (o539 P) z z) z) (n (o411 P) z z)) (n (o219 P) (n (o347 P) z z) (n (o475 P) z z))) (n (o123 P) (n (o187 P) (n (o315 P) (n (o571 P) z z) z) (n (o443 P) z z)) (n (o251 P) (n (o379 P) z z) (n (o507 P) z z))))))) (n (o5 P) (n (o9 P) (n (o17 P) (n (o33 P) (n (o65 P) (n (o129 P) (n (o257 P) (n (o513 P) z z) z) (n (o385 P) z z)) (n (o193 P) (n (o321 P) (n (o577 P) z z) z) (n (o449 P) z z))) (n (o97 P) (n (o161 P) (n (o289 P) (n (o545 P) z z) z) (n (o417 P) z z)) (n (o225 P) (n (o353 P) z z) (n (o481 P) z z)))) (n (o49 P) (n (o81 P) (n (o145 P) (n (o273 P) (n (o529 P) z z) z) (n (o401 P) z z)) (n (o209 P) (n (o337 P) z z) (n (o465 P) z z))) (n (o113 P) (n (o177 P) (n (o305 P) (n (o561 P) z z) z) (n (o433 P) z z)) (n (o241 P) (n (o369 P) z z) (n (o497 P) z z))))) (n (o25 P) (n (o41 P) (n (o73 P) (n (o137 P) (n (o265 P) (n (o521 P) z z) z) (n (o393 P) z z)) (n (o201 P) (n (o329 P) (n (o585 P) z z) z) (n (o457 P) z z))) (n (o105 P) (n (o169 P) (n (o297 P) (n (o553 P) z z) z) (n (o425 P) z z)) (n (o233 P) (n (o361 P) z z) (n (o489 P) z z)))) (n (o57 P) (n (o89 P) (n (o153 P) (n (o281 P) (n (o537 P) z z) z) (n (o409 P) z z)) (n (o217 P) (n (o345 P) z z) (n (o473 P) z z))) (n (o121 P) (n (o185 P) (n (o313 P) (n (o569 P) z z) z) (n (o441 P) z z)) (n (o249 P) (n (o377 P) z z) (n (o505 P) z z)))))) (n (o13 P) (n (o21 P) (n (o37 P) (n (o69 P) (n (o133 P) (n (o261 P) (n (o517 P) z z) z) (n (o389 P) z z)) (n (o197 P) (n (o325 P) (n (o581 P) z z) z) (n (o453 P) z z))) (n (o101 P) (n (o165 P) (n (o293 P) (n (o549 P) z z) z) (n (o421 P) z z)) (n (o229 P) (n (o357 P) z z) (n (o485 P) z z)))) (n (o53 P) (n (o85 P) (n (o149 P) (n (o277 P) (n (o533 P) z z) z) (n (o405 P) z z)) (n (o213 P) (n (o341 P) z z) (n (o469 P) z z))) (n (o117 P) (n (o181 P) (n (o309 P) (n (o565 P) z z) z) (n (o437 P) z z)) (n (o245 P) (n (o373 P) z z) (n (o501 P) z z))))) (n (o29 P) (n (o45 P) (n (o77 P) (n (o141 P) (n (o269 P) (n (o525 P) z z) z) (n (o397 P) z z)) (n (o205 P) (n (o333 P) z z) (n (o461 P) z z))) (n (o109 P) (n (o173 P) (n (o301 P) (n (o557 P) z z) z) (n (o429 P) z z)) (n (o237 P) (n (o365 P) z z) (n (o493 P) z z)))) (n (o61 P) (n (o93 P) (n (o157 P) (n (o285 P) (n (o541 P) z z) z) (n (o413 P) z z)) (n (o221 P) (n (o349 P) z z) (n (o477 P) z z))) (n (o125 P) (n (o189 P) (n (o317 P) (n (o573 P) z z) z) (n (o445 P) z z)) (n (o253 P) (n (o381 P) z z) (n (o509 P) z z)))))))) (n (o2_2 P) (n (o4 P) (n (o8 P) (n (o16 P) (n (o32 P) (n (o64 P) (n (o128 P) (n (o256 P) (n (o512 P) z z) z) (n (o384 P) z z)) (n (o192 P) (n (o320 P) (n (o576 P) z z) z) (n (o448 P) z z))) (n (o96 P) (n (o160 P) (n (o288 P) (n (o544 P) z z) z) (n (o416 P) z z)) (n (o224 P) (n (o352 P) z z) (n (o480 P) z z)))) (n (o48 P) (n (o80 P) (n (o144 P) (n (o272 P) (n (o528 P) z z) z) (n (o400 P) z z)) (n (o208 P) (n (o336 P) z z) (n (o464 P) z z))) (n (o112 P) (n (o176 P) (n (o304 P) (n (o560 P) z z) z) (n (o432 P) z z)) (n (o240 P) (n (o368 P) z z) (n (o496 P) z z))))) (n (o24 P) (n (o40_5 P) (n (o72 P) (n (o136 P) (n (o264 P) (n (o520 P) z z) z) (n (o392 P) z z)) (n (o200 P) (n (o328 P) (n (o584 P) z z) z) (n (o456 P) z z))) (n (o104 P) (n (o168 P) (n (o296 P) (n (o552 P) z z) z) (n (o424 P) z z)) (n (o232 P) (n (o360 P) z z) (n (o488 P) z z)))) (n (o56 P) (n (o88 P) (n (o152 P) (n (o280 P) (n (o536 P) z z) z) (n (o408 P) z z)) (n (o216 P) (n (o344 P) z z) (n (o472 P) z z))) (n (o120 P) (n (o184 P) (n (o312 P) (n (o568 P) z z) z) (n (o440 P) z z)) (n (o248 P) (n (o376 P) z z) (n (o504 P) z z)))))) (n (o12_0 P) (n (o20 P) (n (o36 P) (n (o68 P) (n (o132 P) (n (o260 P) (n (o516 P) z z) z) (n (o388 P) z z)) (n (o196 P) (n (o324 P) (n (o580 P) z z) z) (n (o452 P) z z))) (n (o100 P) (n (o164 P) (n (o292 P) (n (o548 P) z z) z) (n (o420 P) z z)) (n (o228 P) (n (o356 P) z z) (n (o484 P) z z)))) (n (o52_2 P) (n (o84 P) (n (o148 P) (n (o276 P) (n (o532 P) z z) z) (n (o404 P) z z)) (n (o212 P) (n (o340 P) z z) (n (o468 P) z z))) (n (o116 P) (n (o180 P) (n (o308 P) (n (o564 P) z z) z) (n (o436 P) z z)) (n (o244 P) (n (o372 P) z z) (n (o500 P) z z))))) (n (o28 P) (n (o44 P) (n (o76 P) (n (o140 P) (n (o268 P) (n (o524 P) z z) z) (n (o396 P) z z)) (n (o204 P) (n (o332 P) z z) (n (o460 P) z z))) (n (o108 P) (n (o172 P) (n (o300 P) (n (o556 P) z z) z) (n (o428 P) z z)) (n (o236 P) (n (o364 P) z z) (n (o492 P) z z)))) (n (o60 P) (n (o92 P) (n (o156 P) (n (o284 P) (n (o540 P) z z) z) (n (o412 P) z z)) (n (o220 P) (n (o348 P) z z) (n (o476 P) z z))) (n (o124 P) (n (o188 P) (n (o316 P) (n (o572 P) z z) z) (n (o444 P) z z)) (n (o252 P) (n (o380 P) z z) (n (o508 P) z z))))))) (n (o6 P) (n (o10 P) (n (o18 P) (n (o34 P) (n (o66 P) (n (o130 P) (n (o258 P) (n (o514 P) z z) z) (n (o386 P) z z)) (n (o194 P) (n (o322 P) (n (o578 P) z z) z) (n (o450 P) z z))) (n (o98 P) (n (o162 P) (n (o290 P) (n (o546 P) z z) z) (n (o418 P) z z)) (n (o226 P) (n (o354 P) z z) (n (o482 P) z z)))) (n (o50 P) (n (o82 P) (n (o146 P) (n (o274 P) (n (o530 P) z z) z) (n (o402 P) z z)) (n (o210 P) (n (o338 P) z z) (n (o466 P) z z))) (n (o114 P) (n (o178 P) (n (o306 P) (n (o562 P) z z) z) (n (o434 P) z z)) (n (o242 P) (n (o370 P) z z) (n (o498 P) z z))))) (n (o26 P) (n (o42 P) (n (o74 P) (n (o138 P) (n (o266 P) (n (o522 P) z z) z) (n (o394 P) z z)) (n (o202 P) (n (o330 P) z z) (n (o458 P) z z))) (n (o106 P) (n (o170 P) (n (o298 P) (n (o554 P) z z) z) (n (o426 P) z z)) (n (o234 P) (n (o362 P) z z) (n (o490 P) z z)))) (n (o58 P) (n (o90 P) (n (o154 P) (n (o282 P) (n (o538 P) z z) z) (n (o410 P) z z)) (n (o218 P) (n (o346 P) z z) (n (o474 P) z z))) (n (o122 P) (n (o186 P) (n (o314 P) (n (o570 P) z z) z) (n (o442 P) z z)) (n (o250 P) (n (o378 P) z z) (n (o506 P) z z)))))) (n (o14 P) (n (o22 P) (n (o38 P) (n (o70 P) (n (o134 P) (n (o262 P) (n (o518 P) z z) z) (n (o390 P) z z)) (n (o198 P) (n (o326 P) (n (o582 P) z z) z) (n (o454 P) z z))) (n (o102 P) (n (o166 P) (n (o294 P) (n (o550 P) z z) z) (n (o422 P) z z)) (n (o230 P) (n (o358 P) z z) (n (o486 P) z z)))) (n (o54 P) (n (o86 P) (n (o150 P) (n (o278 P) (n (o534 P) z z) z) (n (o406 P) z z)) (n (o214 P) (n (o342 P) z z) (n (o470 P) z z))) (n (o118 P) (n (o182 P) (n (o310 P) (n (o566 P) z z) z) (n (o438 P) z z)) (n (o246 P) (n (o374 P) z z) (n (o502 P) z z))))) (n (o30 P) (n (o46 P) (n (o78 P) (n (o142 P) (n (o270 P) (n (o526 P) z z) z) (n (o398 P) z z)) (n (o206 P) (n (o334 P) z z) (n (o462 P) z z))) (n (o110 P) (n (o174 P) (n (o302 P) (n (o558 P) z z) z) (n (o430 P) z z)) (n (o238 P) (n (o366 P) z z) (n (o494 P) z z)))) (n (o62 P) (n (o94 P) (n (o158 P) (n (o286 P) (n (o542 P) z z) z) (n (o414 P) z z)) (n (o222 P) (n (o350 P) z z) (n (o478 P) z z))) (n (o126 P) (n (o190 P) (n (o318 P) (n (o574 P) z z) z) (n (o446 P) z z)) (n (o254 P) (n (o382 P) z z) (n (o510 P) z z)))))))))
noncomputable def X5 (w : World) (os : OsState) : SharedT := ⟨t5 w.params, 586, {}, #[], {}, 1140, os⟩
noncomputable def o3_6 (P : Params) : Obj := ⟨(.type "dict"), none, (.dict #[k P "__name__" 165 (.str (s "likepanes.trees") 1340), k P "__doc__" 166 .none, k P "__package__" 167 .none, k P "__loader__" 168 (.builtin "__main__.__loader__#opaque"), k P "__spec__" 169 .none, k P "__annotations__" 170 (.ref 6), k P "__builtins__" 171 (.ref 4), k P "__file__" 173 (.str (s "/claim/cut.py") 172), k P "__cached__" 174 .none, k P "gcd" 370 (.builtin "math.gcd"), k P "isqrt" 373 (.builtin "math.isqrt"), k P "BadValue" 399 (.ref 52), k P "InvalidText" 424 (.ref 72), k P "InvalidFraction" 449 (.ref 91), k P "InvalidNumber" 474 (.ref 110), k P "InvalidTree" 499 (.ref 129), k P "NotAShape" 524 (.ref 148), k P "InvalidEquation" 549 (.ref 167), k P "NoAnswer" 569 (.ref 179), k P "NoRoot" 592 (.ref 199), k P "NoQuotient" 615 (.ref 218), k P "TooMany" 640 (.ref 237), k P "MOST_DEGREE" 642 (.int (5) 641), k P "MOST_TERM" 644 (.int (1000) 643), k P "MOST_LEAVES" 646 (.int (12) 645), k P "MOST_FEW" 648 (.int (5) 647), k P "is_integer" 657 (.ref 246), k P "are_integers" 663 (.ref 251), k P "is_fraction" 672 (.ref 258), k P "is_below" 680 (.ref 265), k P "is_term" 687 (.ref 272), k P "wrong_term" 697 (.ref 279), k P "trimmed" 707 (.ref 286), k P "common_divisor" 716 (.ref 293), k P "primitive" 722 (.ref 298), k P "negative" 728 (.ref 303), k P "derivative" 734 (.ref 308), k P "value_at" 746 (.ref 315), k P "multiplied" 759 (.ref 322), k P "combined" 773 (.ref 329), k P "remainder" 783 (.ref 336), k P "divided" 798 (.ref 343), k P "FIRST_BITS" 802 (.int (64) 801), k P "sturm_chain" 810 (.ref 350), k P "changes" 816 (.ref 355), k P "reach" 822 (.ref 360), k P "roots_up_to" 831 (.ref 367), k P "roots_in_all" 838 (.ref 374), k P "roots_within" 849 (.ref 381), k P "rank_of_last" 857 (.ref 388), k P "stretch_of" 868 (.ref 395), k P "lonely_stretch" 881 (.ref 402), k P "refined" 893 (.ref 409), k P "guessed" 909 (.ref 416), k P "is_least" 918 (.ref 423), k P "factors_of" 928 (.ref 430), k P "least_factor" 936 (.ref 437), k P "divisors" 942 (.ref 442), k P "linear_factor" 953 (.ref 449), k P "quadratic_factor" 966 (.ref 456), k P "middles" 978 (.ref 463), k P "whole_roots" 984 (.ref 468), k P "Shape" 1094 (.ref 546), k P "less" 1103 (.ref 557), k P "check_shape" 1110 (.ref 564), k P "check_equation" 1118 (.ref 571), k P "check_stretch" 1126 (.ref 578), k P "factor_within" 1139 (.ref 585), k P "told_by" 1145 (.ref 590), k P "integer_of" 1153 (.ref 597), k P "text_of" 1159 (.ref 602), k P "number_of" 1169 (.ref 609), k P "root" 1176 (.ref 616), k P "total" 1185 (.ref 623), k P "product" 1194 (.ref 630), k P "quotient" 1206 (.ref 637), k P "is_number" 1214 (.ref 644), k P "check_number" 1222 (.ref 651), k P "lowest" 1228 (.ref 656), k P "folded" 1238 (.ref 663), k P "reciprocal" 1244 (.ref 668), k P "LYING" 1246 (.str (s "lying") 1245), k P "STANDING" 1248 (.str (s "standing") 1247), k P "LIES" 1252 (.str (s "l") 1251), k P "STANDS" 1254 (.str (s "s") 1253), k P "COLUMNS" 1256 (.str (s "[") 1255), k P "ROWS" 1258 (.str (s "(") 1257), k P "CLOSING" 1265 (.ref 669), k P "checked" 1273 (.ref 676), k P "told_node" 1280 (.ref 683), k P "leaves_in" 1287 (.ref 690), k P "node_of" 1299 (.ref 697), k P "bracketed" 1307 (.ref 704), k P "plain_text" 1314 (.ref 711), k P "loose_texts" 1320 (.ref 716), k P "solutions" 1333 (.ref 723), k P "ascending_texts" 1339 (.ref 728), k P "panes_of" 1348 (.ref 735), k P "plain" 1355 (.ref 742), k P "ratio" 1363 (.ref 749), k P "laid" 1373 (.ref 756), k P "shapes_of" 1383 (.ref 763), k P "node_ratio" 1396 (.ref 770), k P "turned" 1404 (.ref 777)] 104), #[]⟩
noncomputable def o40_6 (P : Params) : Obj := ⟨.none, none, (.fields #[(.int (3) 0), (.int (0) 0), (.ref 48), (.int (5) 0), (.int (0) 0), (.ref 61), (.int (10) 0), (.int (0) 0), (.ref 80), (.int (15) 0), (.int (0) 0), (.ref 99), (.int (20) 0), (.int (0) 0), (.ref 118), (.int (25) 0), (.int (0) 0), (.ref 137), (.int (30) 0), (.int (0) 0), (.ref 156), (.int (35) 0), (.int (0) 0), (.ref 175), (.int (37) 0), (.int (0) 0), (.ref 188), (.int (41) 0), (.int (0) 0), (.ref 207), (.int (45) 0), (.int (0) 0), (.ref 226), (.int (55) 0), (.int (0) 0), (.ref 245), (.int (57) 0), (.int (0) 0), (.ref 250), (.int (59) 0), (.int (0) 0), (.ref 257), (.int (64) 0), (.int (0) 0), (.ref 264), (.int (66) 0), (.int (0) 0), (.ref 271), (.int (68) 0), (.int (0) 0), (.ref 278), (.int (75) 0), (.int (0) 0), (.ref 285), (.int (80) 0), (.int (0) 0), (.ref 292), (.int (85) 0), (.int (0) 0), (.ref 297), (.int (88) 0), (.int (0) 0), (.ref 302), (.int (90) 0), (.int (0) 0), (.ref 307), (.int (92) 0), (.int (0) 0), (.ref 314), (.int (98) 0), (.int (0) 0), (.ref 321), (.int (104) 0), (.int (0) 0), (.ref 328), (.int (111) 0), (.int (0) 0), (.ref 335), (.int (117) 0), (.int (0) 0), (.ref 342), (.int (133) 0), (.int (0) 0), (.ref 349), (.int (139) 0), (.int (0) 0), (.ref 354), (.int (143) 0), (.int (0) 0), (.ref 359), (.int (145) 0), (.int (0) 0), (.ref 366), (.int (147) 0), (.int (0) 0), (.ref 373), (.int (149) 0), (.int (0) 0), (.ref 380), (.int (155) 0), (.int (0) 0), (.ref 387), (.int (157) 0), (.int (0) 0), (.ref 394), (.int (161) 0), (.int (0) 0), (.ref 401), (.int (173) 0), (.int (0) 0), (.ref 408), (.int (185) 0), (.int (0) 0), (.ref 415), (.int (198) 0), (.int (0) 0), (.ref 422), (.int (202) 0), (.int (0) 0), (.ref 429), (.int (213) 0), (.int (0) 0), (.ref 436), (.int (220) 0), (.int (0) 0), (.ref 441), (.int (222) 0), (.int (0) 0), (.ref 448), (.int (234) 0), (.int (0) 0), (.ref 455), (.int (244) 0), (.int (0) 0), (.ref 462), (.int (251) 0), (.int (0) 0), (.ref 467), (.int (261) 0), (.int (0) 0), (.ref 474), (.int (308) 0), (.int (0) 0), (.ref 556), (.int (317) 0), (.int (0) 0), (.ref 563), (.int (320) 0), (.int (0) 0), (.ref 570), (.int (326) 0), (.int (0) 0), (.ref 577), (.int (331) 0), (.int (0) 0), (.ref 584), (.int (338) 0), (.int (0) 0), (.ref 589), (.int (349) 0), (.int (0) 0), (.ref 596), (.int (354) 0), (.int (0) 0), (.ref 601), (.int (358) 0), (.int (0) 0), (.ref 608), (.int (363) 0), (.int (0) 0), (.ref 615), (.int (366) 0), (.int (0) 0), (.ref 622), (.int (371) 0), (.int (0) 0), (.ref 629), (.int (376) 0), (.int (0) 0), (.ref 636), (.int (386) 0), (.int (0) 0), (.ref 643), (.int (390) 0), (.int (0) 0), (.ref 650), (.int (393) 0), (.int (0) 0), (.ref 655), (.int (399) 0), (.int (0) 0), (.ref 662), (.int (405) 0), (.int (0) 0), (.ref 667), (.int (425) 0), (.int (0) 0), (.ref 675), (.int (430) 0), (.int (0) 0), (.ref 682), (.int (432) 0), (.int (0) 0), (.ref 689), (.int (434) 0), (.int (0) 0), (.ref 696), (.int (453) 0), (.int (0) 0), (.ref 703), (.int (455) 0), (.int (0) 0), (.ref 710), (.int (459) 0), (.int (0) 0), (.ref 715), (.int (464) 0), (.int (0) 0), (.ref 722), (.int (471) 0), (.int (0) 0), (.ref 727), (.int (475) 0), (.int (0) 0), (.ref 734), (.int (478) 0), (.int (0) 0), (.ref 741), (.int (480) 0), (.int (0) 0), (.ref 748), (.int (483) 0), (.int (0) 0), (.ref 755), (.int (487) 0), (.int (0) 0), (.ref 762), (.int (493) 0), (.int (0) 0), (.ref 769), (.int (504) 0), (.int (0) 0), (.ref 776)]), #[]⟩
noncomputable def o586 (P : Params) : Obj := ⟨(.type "tuple"), none, (.seq #[] 0), #[]⟩
noncomputable def o587 (P : Params) : Obj := ⟨.none, none, (.fields #[]), #[]⟩
noncomputable def o588 (P : Params) : Obj := ⟨.none, none, (.func (fn (hT 64) (s "told_by") (s "told_by") 0 [] .none .none .none .none none .none .none 0)), #[]⟩
noncomputable def o589 (P : Params) : Obj := ⟨(.type "code"), none, (.fields #[(.str (s "told_by") 1140), (.str (s "told_by") 1141), (.str (s "/claim/cut.py") 1142), (.int (338) 0), (.int (1) 0), (.int (0) 0), (.int (0) 0), (.int (3) 0), (.ref 586), (.bool true), (.int (374) 0), (.ref 587), .none, .none, .none, (.ref 588), (.int (1143) 0), (.int (338) 0), (.str (s "/claim/cut.py") 1144)]), #[]⟩
noncomputable def o590 (P : Params) : Obj := ⟨(.type "function"), none, (.func (fn (hT 64) (s "told_by") (s "told_by") 3 [] .none .none .none (.str (s "likepanes.shapes") 985) none (.ref 589) .none 0)), #[]⟩
noncomputable def o591 (P : Params) : Obj := ⟨(.type "tuple"), none, (.seq #[] 0), #[]⟩
noncomputable def o592 (P : Params) : Obj := ⟨.none, none, (.fields #[]), #[]⟩
noncomputable def o593 (P : Params) : Obj := ⟨(.type "tuple"), none, (.seq #[(.str (s "word") 1149), (.str (s "digits") 1150)] 0), #[]⟩
noncomputable def o594 (P : Params) : Obj := ⟨(.type "tuple"), none, (.seq #[] 0), #[]⟩
noncomputable def o595 (P : Params) : Obj := ⟨.none, none, (.func (fn (hT 65) (s "integer_of") (s "integer_of") 0 [] .none .none .none .none none .none .none 0)), #[]⟩
noncomputable def o596 (P : Params) : Obj := ⟨(.type "code"), none, (.fields #[(.str (s "integer_of") 1146), (.str (s "integer_of") 1147), (.str (s "/claim/cut.py") 1148), (.int (349) 0), (.int (1) 0), (.int (0) 0), (.int (0) 0), (.int (3) 0), (.ref 591), (.bool true), (.int (374) 0), (.ref 592), .none, (.ref 593), (.ref 594), (.ref 595), (.int (1151) 0), (.int (349) 0), (.str (s "/claim/cut.py") 1152)]), #[]⟩
noncomputable def o597 (P : Params) : Obj := ⟨(.type "function"), none, (.func (fn (hT 65) (s "integer_of") (s "integer_of") 3 [] .none .none .none (.str (s "likepanes.shapes") 985) none (.ref 596) .none 0)), #[]⟩
noncomputable def o598 (P : Params) : Obj := ⟨(.type "tuple"), none, (.seq #[] 0), #[]⟩
noncomputable def o599 (P : Params) : Obj := ⟨.none, none, (.fields #[]), #[]⟩
noncomputable def o600 (P : Params) : Obj := ⟨.none, none, (.func (fn (hT 66) (s "text_of") (s "text_of") 0 [] .none .none .none .none none .none .none 0)), #[]⟩
noncomputable def o601 (P : Params) : Obj := ⟨(.type "code"), none, (.fields #[(.str (s "text_of") 1154), (.str (s "text_of") 1155), (.str (s "/claim/cut.py") 1156), (.int (354) 0), (.int (2) 0), (.int (0) 0), (.int (0) 0), (.int (3) 0), (.ref 598), (.bool true), (.int (374) 0), (.ref 599), .none, .none, .none, (.ref 600), (.int (1157) 0), (.int (354) 0), (.str (s "/claim/cut.py") 1158)]), #[]⟩
noncomputable def o602 (P : Params) : Obj := ⟨(.type "function"), none, (.func (fn (hT 66) (s "text_of") (s "text_of") 3 [] .none .none .none (.str (s "likepanes.shapes") 985) none (.ref 601) .none 0)), #[]⟩
noncomputable def o603 (P : Params) : Obj := ⟨(.type "tuple"), none, (.seq #[] 0), #[]⟩
noncomputable def o604 (P : Params) : Obj := ⟨.none, none, (.fields #[]), #[]⟩
noncomputable def o605 (P : Params) : Obj := ⟨(.type "tuple"), none, (.seq #[(.str (s "shape") 1165), (.str (s "fraction") 1166)] 0), #[]⟩
noncomputable def o606 (P : Params) : Obj := ⟨(.type "tuple"), none, (.seq #[] 0), #[]⟩
noncomputable def o607 (P : Params) : Obj := ⟨.none, none, (.func (fn (hT 68) (s "number_of") (s "number_of") 0 [] .none .none .none .none none .none .none 0)), #[]⟩
noncomputable def o608 (P : Params) : Obj := ⟨(.type "code"), none, (.fields #[(.str (s "number_of") 1162), (.str (s "number_of") 1163), (.str (s "/claim/cut.py") 1164), (.int (358) 0), (.int (2) 0), (.int (0) 0), (.int (0) 0), (.int (3) 0), (.ref 603), (.bool true), (.int (374) 0), (.ref 604), .none, (.ref 605), (.ref 606), (.ref 607), (.int (1167) 0), (.int (358) 0), (.str (s "/claim/cut.py") 1168)]), #[]⟩
noncomputable def o609 (P : Params) : Obj := ⟨(.type "function"), none, (.func (fn (hT 68) (s "number_of") (s "number_of") 3 [] .none .none .none (.str (s "likepanes.numbers") 1160) none (.ref 608) .none 0)), #[]⟩
noncomputable def o610 (P : Params) : Obj := ⟨(.type "tuple"), none, (.seq #[] 0), #[]⟩
noncomputable def o611 (P : Params) : Obj := ⟨.none, none, (.fields #[]), #[]⟩
noncomputable def o612 (P : Params) : Obj := ⟨(.type "tuple"), none, (.seq #[(.str (s "shape") 1173)] 0), #[]⟩
noncomputable def o613 (P : Params) : Obj := ⟨(.type "tuple"), none, (.seq #[] 0), #[]⟩
noncomputable def o614 (P : Params) : Obj := ⟨.none, none, (.func (fn (hT 69) (s "root") (s "root") 0 [] .none .none .none .none none .none .none 0)), #[]⟩
noncomputable def o615 (P : Params) : Obj := ⟨(.type "code"), none, (.fields #[(.str (s "root") 1170), (.str (s "root") 1171), (.str (s "/claim/cut.py") 1172), (.int (363) 0), (.int (1) 0), (.int (0) 0), (.int (0) 0), (.int (3) 0), (.ref 610), (.bool true), (.int (374) 0), (.ref 611), .none, (.ref 612), (.ref 613), (.ref 614), (.int (1174) 0), (.int (363) 0), (.str (s "/claim/cut.py") 1175)]), #[]⟩
noncomputable def o616 (P : Params) : Obj := ⟨(.type "function"), none, (.func (fn (hT 69) (s "root") (s "root") 3 [] .none .none .none (.str (s "likepanes.numbers") 1160) none (.ref 615) .none 0)), #[]⟩
noncomputable def o617 (P : Params) : Obj := ⟨(.type "tuple"), none, (.seq #[] 0), #[]⟩
noncomputable def o618 (P : Params) : Obj := ⟨.none, none, (.fields #[]), #[]⟩
noncomputable def o619 (P : Params) : Obj := ⟨(.type "tuple"), none, (.seq #[(.str (s "shape") 1180), (.str (s "first") 1181), (.str (s "second") 1182)] 0), #[]⟩
noncomputable def o620 (P : Params) : Obj := ⟨(.type "tuple"), none, (.seq #[] 0), #[]⟩
noncomputable def o621 (P : Params) : Obj := ⟨.none, none, (.func (fn (hT 70) (s "total") (s "total") 0 [] .none .none .none .none none .none .none 0)), #[]⟩
noncomputable def o622 (P : Params) : Obj := ⟨(.type "code"), none, (.fields #[(.str (s "total") 1177), (.str (s "total") 1178), (.str (s "/claim/cut.py") 1179), (.int (366) 0), (.int (3) 0), (.int (0) 0), (.int (0) 0), (.int (3) 0), (.ref 617), (.bool true), (.int (374) 0), (.ref 618), .none, (.ref 619), (.ref 620), (.ref 621), (.int (1183) 0), (.int (366) 0), (.str (s "/claim/cut.py") 1184)]), #[]⟩
noncomputable def o623 (P : Params) : Obj := ⟨(.type "function"), none, (.func (fn (hT 70) (s "total") (s "total") 3 [] .none .none .none (.str (s "likepanes.numbers") 1160) none (.ref 622) .none 0)), #[]⟩
noncomputable def o624 (P : Params) : Obj := ⟨(.type "tuple"), none, (.seq #[] 0), #[]⟩
noncomputable def o625 (P : Params) : Obj := ⟨.none, none, (.fields #[]), #[]⟩
noncomputable def o626 (P : Params) : Obj := ⟨(.type "tuple"), none, (.seq #[(.str (s "shape") 1189), (.str (s "first") 1190), (.str (s "second") 1191)] 0), #[]⟩
noncomputable def o627 (P : Params) : Obj := ⟨(.type "tuple"), none, (.seq #[] 0), #[]⟩
noncomputable def o628 (P : Params) : Obj := ⟨.none, none, (.func (fn (hT 71) (s "product") (s "product") 0 [] .none .none .none .none none .none .none 0)), #[]⟩
noncomputable def o629 (P : Params) : Obj := ⟨(.type "code"), none, (.fields #[(.str (s "product") 1186), (.str (s "product") 1187), (.str (s "/claim/cut.py") 1188), (.int (371) 0), (.int (3) 0), (.int (0) 0), (.int (0) 0), (.int (3) 0), (.ref 624), (.bool true), (.int (374) 0), (.ref 625), .none, (.ref 626), (.ref 627), (.ref 628), (.int (1192) 0), (.int (371) 0), (.str (s "/claim/cut.py") 1193)]), #[]⟩
noncomputable def o630 (P : Params) : Obj := ⟨(.type "function"), none, (.func (fn (hT 71) (s "product") (s "product") 3 [] .none .none .none (.str (s "likepanes.numbers") 1160) none (.ref 629) .none 0)), #[]⟩
noncomputable def o631 (P : Params) : Obj := ⟨(.type "tuple"), none, (.seq #[] 0), #[]⟩
noncomputable def o632 (P : Params) : Obj := ⟨.none, none, (.fields #[]), #[]⟩
noncomputable def o633 (P : Params) : Obj := ⟨(.type "tuple"), none, (.seq #[(.str (s "shape") 1198), (.str (s "first") 1199), (.str (s "second") 1200), (.str (s "divisor") 1201), (.str (s "terms") 1202), (.str (s "bottom") 1203)] 0), #[]⟩
noncomputable def o634 (P : Params) : Obj := ⟨(.type "tuple"), none, (.seq #[] 0), #[]⟩
noncomputable def o635 (P : Params) : Obj := ⟨.none, none, (.func (fn (hT 72) (s "quotient") (s "quotient") 0 [] .none .none .none .none none .none .none 0)), #[]⟩
noncomputable def o636 (P : Params) : Obj := ⟨(.type "code"), none, (.fields #[(.str (s "quotient") 1195), (.str (s "quotient") 1196), (.str (s "/claim/cut.py") 1197), (.int (376) 0), (.int (3) 0), (.int (0) 0), (.int (0) 0), (.int (3) 0), (.ref 631), (.bool true), (.int (374) 0), (.ref 632), .none, (.ref 633), (.ref 634), (.ref 635), (.int (1204) 0), (.int (376) 0), (.str (s "/claim/cut.py") 1205)]), #[]⟩
noncomputable def o637 (P : Params) : Obj := ⟨(.type "function"), none, (.func (fn (hT 72) (s "quotient") (s "quotient") 3 [] .none .none .none (.str (s "likepanes.numbers") 1160) none (.ref 636) .none 0)), #[]⟩
noncomputable def o638 (P : Params) : Obj := ⟨(.type "tuple"), none, (.seq #[] 0), #[]⟩
noncomputable def o639 (P : Params) : Obj := ⟨.none, none, (.fields #[]), #[]⟩
noncomputable def o640 (P : Params) : Obj := ⟨(.type "tuple"), none, (.seq #[(.str (s "shape") 1210), (.str (s "value") 1211)] 0), #[]⟩
noncomputable def o641 (P : Params) : Obj := ⟨(.type "tuple"), none, (.seq #[] 0), #[]⟩
noncomputable def o642 (P : Params) : Obj := ⟨.none, none, (.func (fn (hT 73) (s "is_number") (s "is_number") 0 [] .none .none .none .none none .none .none 0)), #[]⟩
noncomputable def o643 (P : Params) : Obj := ⟨(.type "code"), none, (.fields #[(.str (s "is_number") 1207), (.str (s "is_number") 1208), (.str (s "/claim/cut.py") 1209), (.int (386) 0), (.int (2) 0), (.int (0) 0), (.int (0) 0), (.int (3) 0), (.ref 638), (.bool true), (.int (374) 0), (.ref 639), .none, (.ref 640), (.ref 641), (.ref 642), (.int (1212) 0), (.int (386) 0), (.str (s "/claim/cut.py") 1213)]), #[]⟩
noncomputable def o644 (P : Params) : Obj := ⟨(.type "function"), none, (.func (fn (hT 73) (s "is_number") (s "is_number") 3 [] .none .none .none (.str (s "likepanes.numbers") 1160) none (.ref 643) .none 0)), #[]⟩
noncomputable def o645 (P : Params) : Obj := ⟨(.type "tuple"), none, (.seq #[] 0), #[]⟩
noncomputable def o646 (P : Params) : Obj := ⟨.none, none, (.fields #[]), #[]⟩
noncomputable def o647 (P : Params) : Obj := ⟨(.type "tuple"), none, (.seq #[(.str (s "shape") 1218), (.str (s "value") 1219)] 0), #[]⟩
noncomputable def o648 (P : Params) : Obj := ⟨(.type "tuple"), none, (.seq #[] 0), #[]⟩
noncomputable def o649 (P : Params) : Obj := ⟨.none, none, (.func (fn (hT 74) (s "check_number") (s "check_number") 0 [] .none .none .none .none none .none .none 0)), #[]⟩
noncomputable def o650 (P : Params) : Obj := ⟨(.type "code"), none, (.fields #[(.str (s "check_number") 1215), (.str (s "check_number") 1216), (.str (s "/claim/cut.py") 1217), (.int (390) 0), (.int (2) 0), (.int (0) 0), (.int (0) 0), (.int (3) 0), (.ref 645), (.bool true), (.int (374) 0), (.ref 646), .none, (.ref 647), (.ref 648), (.ref 649), (.int (1220) 0), (.int (390) 0), (.str (s "/claim/cut.py") 1221)]), #[]⟩
noncomputable def o651 (P : Params) : Obj := ⟨(.type "function"), none, (.func (fn (hT 74) (s "check_number") (s "check_number") 3 [] .none .none .none (.str (s "likepanes.numbers") 1160) none (.ref 650) .none 0)), #[]⟩
noncomputable def o652 (P : Params) : Obj := ⟨(.type "tuple"), none, (.seq #[] 0), #[]⟩
noncomputable def o653 (P : Params) : Obj := ⟨.none, none, (.fields #[]), #[]⟩
noncomputable def o654 (P : Params) : Obj := ⟨.none, none, (.func (fn (hT 75) (s "lowest") (s "lowest") 0 [] .none .none .none .none none .none .none 0)), #[]⟩
noncomputable def o655 (P : Params) : Obj := ⟨(.type "code"), none, (.fields #[(.str (s "lowest") 1223), (.str (s "lowest") 1224), (.str (s "/claim/cut.py") 1225), (.int (393) 0), (.int (3) 0), (.int (0) 0), (.int (0) 0), (.int (3) 0), (.ref 652), (.bool true), (.int (374) 0), (.ref 653), .none, .none, .none, (.ref 654), (.int (1226) 0), (.int (393) 0), (.str (s "/claim/cut.py") 1227)]), #[]⟩
noncomputable def o656 (P : Params) : Obj := ⟨(.type "function"), none, (.func (fn (hT 75) (s "lowest") (s "lowest") 3 [] .none .none .none (.str (s "likepanes.numbers") 1160) none (.ref 655) .none 0)), #[]⟩
noncomputable def o657 (P : Params) : Obj := ⟨(.type "tuple"), none, (.seq #[] 0), #[]⟩
noncomputable def o658 (P : Params) : Obj := ⟨.none, none, (.fields #[]), #[]⟩
noncomputable def o659 (P : Params) : Obj := ⟨(.type "tuple"), none, (.seq #[(.str (s "shape") 1232), (.str (s "bottom") 1233), (.str (s "terms") 1234), (.str (s "equation") 1235)] 0), #[]⟩
noncomputable def o660 (P : Params) : Obj := ⟨(.type "tuple"), none, (.seq #[] 0), #[]⟩
noncomputable def o661 (P : Params) : Obj := ⟨.none, none, (.func (fn (hT 76) (s "folded") (s "folded") 0 [] .none .none .none .none none .none .none 0)), #[]⟩
noncomputable def o662 (P : Params) : Obj := ⟨(.type "code"), none, (.fields #[(.str (s "folded") 1229), (.str (s "folded") 1230), (.str (s "/claim/cut.py") 1231), (.int (399) 0), (.int (3) 0), (.int (0) 0), (.int (0) 0), (.int (3) 0), (.ref 657), (.bool true), (.int (374) 0), (.ref 658), .none, (.ref 659), (.ref 660), (.ref 661), (.int (1236) 0), (.int (399) 0), (.str (s "/claim/cut.py") 1237)]), #[]⟩
noncomputable def o663 (P : Params) : Obj := ⟨(.type "function"), none, (.func (fn (hT 76) (s "folded") (s "folded") 3 [] .none .none .none (.str (s "likepanes.numbers") 1160) none (.ref 662) .none 0)), #[]⟩
noncomputable def o664 (P : Params) : Obj := ⟨(.type "tuple"), none, (.seq #[] 0), #[]⟩
noncomputable def o665 (P : Params) : Obj := ⟨.none, none, (.fields #[]), #[]⟩
noncomputable def o666 (P : Params) : Obj := ⟨.none, none, (.func (fn (hT 77) (s "reciprocal") (s "reciprocal") 0 [] .none .none .none .none none .none .none 0)), #[]⟩
noncomputable def o667 (P : Params) : Obj := ⟨(.type "code"), none, (.fields #[(.str (s "reciprocal") 1239), (.str (s "reciprocal") 1240), (.str (s "/claim/cut.py") 1241), (.int (405) 0), (.int (2) 0), (.int (0) 0), (.int (0) 0), (.int (3) 0), (.ref 664), (.bool true), (.int (374) 0), (.ref 665), .none, .none, .none, (.ref 666), (.int (1242) 0), (.int (405) 0), (.str (s "/claim/cut.py") 1243)]), #[]⟩
noncomputable def o668 (P : Params) : Obj := ⟨(.type "function"), none, (.func (fn (hT 77) (s "reciprocal") (s "reciprocal") 3 [] .none .none .none (.str (s "likepanes.numbers") 1160) none (.ref 667) .none 0)), #[]⟩
noncomputable def o669 (P : Params) : Obj := ⟨(.type "dict"), none, (.dict #[k P "[" 1259 (.str (s "]") 1260), k P "(" 1261 (.str (s ")") 1262)] 2), #[]⟩
noncomputable def o670 (P : Params) : Obj := ⟨(.type "tuple"), none, (.seq #[] 0), #[]⟩
noncomputable def o671 (P : Params) : Obj := ⟨.none, none, (.fields #[]), #[]⟩
noncomputable def o672 (P : Params) : Obj := ⟨(.type "tuple"), none, (.seq #[(.str (s "tree") 1269), (.str (s "node") 1270)] 0), #[]⟩
noncomputable def o673 (P : Params) : Obj := ⟨(.type "tuple"), none, (.seq #[] 0), #[]⟩
noncomputable def o674 (P : Params) : Obj := ⟨.none, none, (.func (fn (hT 86) (s "checked") (s "checked") 0 [] .none .none .none .none none .none .none 0)), #[]⟩
noncomputable def o675 (P : Params) : Obj := ⟨(.type "code"), none, (.fields #[(.str (s "checked") 1266), (.str (s "checked") 1267), (.str (s "/claim/cut.py") 1268), (.int (425) 0), (.int (1) 0), (.int (0) 0), (.int (0) 0), (.int (3) 0), (.ref 670), (.bool true), (.int (374) 0), (.ref 671), .none, (.ref 672), (.ref 673), (.ref 674), (.int (1271) 0), (.int (425) 0), (.str (s "/claim/cut.py") 1272)]), #[]⟩
noncomputable def o676 (P : Params) : Obj := ⟨(.type "function"), none, (.func (fn (hT 86) (s "checked") (s "checked") 3 [] .none .none .none (.str (s "likepanes.nodes") 1249) none (.ref 675) .none 0)), #[]⟩
noncomputable def o677 (P : Params) : Obj := ⟨(.type "tuple"), none, (.seq #[] 0), #[]⟩
noncomputable def o678 (P : Params) : Obj := ⟨.none, none, (.fields #[]), #[]⟩
noncomputable def o679 (P : Params) : Obj := ⟨(.type "tuple"), none, (.seq #[(.str (s "value") 1277)] 0), #[]⟩
noncomputable def o680 (P : Params) : Obj := ⟨(.type "tuple"), none, (.seq #[] 0), #[]⟩
noncomputable def o681 (P : Params) : Obj := ⟨.none, none, (.func (fn (hT 87) (s "told_node") (s "told_node") 0 [] .none .none .none .none none .none .none 0)), #[]⟩
noncomputable def o682 (P : Params) : Obj := ⟨(.type "code"), none, (.fields #[(.str (s "told_node") 1274), (.str (s "told_node") 1275), (.str (s "/claim/cut.py") 1276), (.int (430) 0), (.int (1) 0), (.int (0) 0), (.int (0) 0), (.int (3) 0), (.ref 677), (.bool true), (.int (374) 0), (.ref 678), .none, (.ref 679), (.ref 680), (.ref 681), (.int (1278) 0), (.int (430) 0), (.str (s "/claim/cut.py") 1279)]), #[]⟩
noncomputable def o683 (P : Params) : Obj := ⟨(.type "function"), none, (.func (fn (hT 87) (s "told_node") (s "told_node") 3 [] .none .none .none (.str (s "likepanes.nodes") 1249) none (.ref 682) .none 0)), #[]⟩
noncomputable def o684 (P : Params) : Obj := ⟨(.type "tuple"), none, (.seq #[] 0), #[]⟩
noncomputable def o685 (P : Params) : Obj := ⟨.none, none, (.fields #[]), #[]⟩
noncomputable def o686 (P : Params) : Obj := ⟨(.type "tuple"), none, (.seq #[(.str (s "text") 1284)] 0), #[]⟩
noncomputable def o687 (P : Params) : Obj := ⟨(.type "tuple"), none, (.seq #[] 0), #[]⟩
noncomputable def o688 (P : Params) : Obj := ⟨.none, none, (.func (fn (hT 88) (s "leaves_in") (s "leaves_in") 0 [] .none .none .none .none none .none .none 0)), #[]⟩
noncomputable def o689 (P : Params) : Obj := ⟨(.type "code"), none, (.fields #[(.str (s "leaves_in") 1281), (.str (s "leaves_in") 1282), (.str (s "/claim/cut.py") 1283), (.int (432) 0), (.int (1) 0), (.int (0) 0), (.int (0) 0), (.int (3) 0), (.ref 684), (.bool true), (.int (374) 0), (.ref 685), .none, (.ref 686), (.ref 687), (.ref 688), (.int (1285) 0), (.int (432) 0), (.str (s "/claim/cut.py") 1286)]), #[]⟩
noncomputable def o690 (P : Params) : Obj := ⟨(.type "function"), none, (.func (fn (hT 88) (s "leaves_in") (s "leaves_in") 3 [] .none .none .none (.str (s "likepanes.nodes") 1249) none (.ref 689) .none 0)), #[]⟩
noncomputable def o691 (P : Params) : Obj := ⟨(.type "tuple"), none, (.seq #[] 0), #[]⟩
noncomputable def o692 (P : Params) : Obj := ⟨.none, none, (.fields #[]), #[]⟩
noncomputable def o693 (P : Params) : Obj := ⟨(.type "tuple"), none, (.seq #[(.str (s "text") 1291), (.str (s "rows") 1292), (.str (s "opened") 1293), (.str (s "is_wanted") 1294), (.str (s "char") 1295), (.str (s "node") 1296)] 0), #[]⟩
noncomputable def o694 (P : Params) : Obj := ⟨(.type "tuple"), none, (.seq #[] 0), #[]⟩
noncomputable def o695 (P : Params) : Obj := ⟨.none, none, (.func (fn (hT 89) (s "node_of") (s "node_of") 0 [] .none .none .none .none none .none .none 0)), #[]⟩
noncomputable def o696 (P : Params) : Obj := ⟨(.type "code"), none, (.fields #[(.str (s "node_of") 1288), (.str (s "node_of") 1289), (.str (s "/claim/cut.py") 1290), (.int (434) 0), (.int (1) 0), (.int (0) 0), (.int (0) 0), (.int (3) 0), (.ref 691), (.bool true), (.int (374) 0), (.ref 692), .none, (.ref 693), (.ref 694), (.ref 695), (.int (1297) 0), (.int (434) 0), (.str (s "/claim/cut.py") 1298)]), #[]⟩
noncomputable def o697 (P : Params) : Obj := ⟨(.type "function"), none, (.func (fn (hT 89) (s "node_of") (s "node_of") 3 [] .none .none .none (.str (s "likepanes.nodes") 1249) none (.ref 696) .none 0)), #[]⟩
noncomputable def o698 (P : Params) : Obj := ⟨(.type "tuple"), none, (.seq #[] 0), #[]⟩
noncomputable def o699 (P : Params) : Obj := ⟨.none, none, (.fields #[]), #[]⟩
noncomputable def o700 (P : Params) : Obj := ⟨(.type "tuple"), none, (.seq #[(.str (s "kind") 1303), (.str (s "texts") 1304)] 0), #[]⟩
noncomputable def o701 (P : Params) : Obj := ⟨(.type "tuple"), none, (.seq #[] 0), #[]⟩
noncomputable def o702 (P : Params) : Obj := ⟨.none, none, (.func (fn (hT 90) (s "bracketed") (s "bracketed") 0 [] .none .none .none .none none .none .none 0)), #[]⟩
noncomputable def o703 (P : Params) : Obj := ⟨(.type "code"), none, (.fields #[(.str (s "bracketed") 1300), (.str (s "bracketed") 1301), (.str (s "/claim/cut.py") 1302), (.int (453) 0), (.int (2) 0), (.int (0) 0), (.int (0) 0), (.int (3) 0), (.ref 698), (.bool true), (.int (374) 0), (.ref 699), .none, (.ref 700), (.ref 701), (.ref 702), (.int (1305) 0), (.int (453) 0), (.str (s "/claim/cut.py") 1306)]), #[]⟩
noncomputable def o704 (P : Params) : Obj := ⟨(.type "function"), none, (.func (fn (hT 90) (s "bracketed") (s "bracketed") 3 [] .none .none .none (.str (s "likepanes.nodes") 1249) none (.ref 703) .none 0)), #[]⟩
noncomputable def o705 (P : Params) : Obj := ⟨(.type "tuple"), none, (.seq #[] 0), #[]⟩
noncomputable def o706 (P : Params) : Obj := ⟨.none, none, (.fields #[]), #[]⟩
noncomputable def o707 (P : Params) : Obj := ⟨(.type "tuple"), none, (.seq #[(.str (s "node") 1311)] 0), #[]⟩
noncomputable def o708 (P : Params) : Obj := ⟨(.type "tuple"), none, (.seq #[] 0), #[]⟩
noncomputable def o709 (P : Params) : Obj := ⟨.none, none, (.func (fn (hT 91) (s "plain_text") (s "plain_text") 0 [] .none .none .none .none none .none .none 0)), #[]⟩
noncomputable def o710 (P : Params) : Obj := ⟨(.type "code"), none, (.fields #[(.str (s "plain_text") 1308), (.str (s "plain_text") 1309), (.str (s "/claim/cut.py") 1310), (.int (455) 0), (.int (1) 0), (.int (0) 0), (.int (0) 0), (.int (3) 0), (.ref 705), (.bool true), (.int (374) 0), (.ref 706), .none, (.ref 707), (.ref 708), (.ref 709), (.int (1312) 0), (.int (455) 0), (.str (s "/claim/cut.py") 1313)]), #[]⟩
noncomputable def o711 (P : Params) : Obj := ⟨(.type "function"), none, (.func (fn (hT 91) (s "plain_text") (s "plain_text") 3 [] .none .none .none (.str (s "likepanes.nodes") 1249) none (.ref 710) .none 0)), #[]⟩
noncomputable def o712 (P : Params) : Obj := ⟨(.type "tuple"), none, (.seq #[] 0), #[]⟩
noncomputable def o713 (P : Params) : Obj := ⟨.none, none, (.fields #[]), #[]⟩
noncomputable def o714 (P : Params) : Obj := ⟨.none, none, (.func (fn (hT 92) (s "loose_texts") (s "loose_texts") 0 [] .none .none .none .none none .none .none 0)), #[]⟩
noncomputable def o715 (P : Params) : Obj := ⟨(.type "code"), none, (.fields #[(.str (s "loose_texts") 1315), (.str (s "loose_texts") 1316), (.str (s "/claim/cut.py") 1317), (.int (459) 0), (.int (2) 0), (.int (0) 0), (.int (0) 0), (.int (3) 0), (.ref 712), (.bool true), (.int (374) 0), (.ref 713), .none, .none, .none, (.ref 714), (.int (1318) 0), (.int (459) 0), (.str (s "/claim/cut.py") 1319)]), #[]⟩
noncomputable def o716 (P : Params) : Obj := ⟨(.type "function"), none, (.func (fn (hT 92) (s "loose_texts") (s "loose_texts") 3 [] .none .none .none (.str (s "likepanes.nodes") 1249) none (.ref 715) .none 0)), #[]⟩
noncomputable def o717 (P : Params) : Obj := ⟨(.type "tuple"), none, (.seq #[] 0), #[]⟩
noncomputable def o718 (P : Params) : Obj := ⟨.none, none, (.fields #[]), #[]⟩
noncomputable def o719 (P : Params) : Obj := ⟨(.type "tuple"), none, (.seq #[(.str (s "terms") 1326), (.str (s "found") 1327), (.str (s "equation") 1328), (.str (s "chain") 1329), (.str (s "rank") 1330)] 0), #[]⟩
noncomputable def o720 (P : Params) : Obj := ⟨(.type "tuple"), none, (.seq #[] 0), #[]⟩
noncomputable def o721 (P : Params) : Obj := ⟨.none, none, (.func (fn (hT 94) (s "solutions") (s "solutions") 0 [] .none .none .none .none none .none .none 0)), #[]⟩
noncomputable def o722 (P : Params) : Obj := ⟨(.type "code"), none, (.fields #[(.str (s "solutions") 1323), (.str (s "solutions") 1324), (.str (s "/claim/cut.py") 1325), (.int (464) 0), (.int (1) 0), (.int (0) 0), (.int (0) 0), (.int (3) 0), (.ref 717), (.bool true), (.int (374) 0), (.ref 718), .none, (.ref 719), (.ref 720), (.ref 721), (.int (1331) 0), (.int (464) 0), (.str (s "/claim/cut.py") 1332)]), #[]⟩
noncomputable def o723 (P : Params) : Obj := ⟨(.type "function"), none, (.func (fn (hT 94) (s "solutions") (s "solutions") 3 [] .none .none .none (.str (s "likepanes.solutions") 1321) none (.ref 722) .none 0)), #[]⟩
noncomputable def o724 (P : Params) : Obj := ⟨(.type "tuple"), none, (.seq #[] 0), #[]⟩
noncomputable def o725 (P : Params) : Obj := ⟨.none, none, (.fields #[]), #[]⟩
noncomputable def o726 (P : Params) : Obj := ⟨.none, none, (.func (fn (hT 95) (s "ascending_texts") (s "ascending_texts") 0 [] .none .none .none .none none .none .none 0)), #[]⟩
noncomputable def o727 (P : Params) : Obj := ⟨(.type "code"), none, (.fields #[(.str (s "ascending_texts") 1334), (.str (s "ascending_texts") 1335), (.str (s "/claim/cut.py") 1336), (.int (471) 0), (.int (1) 0), (.int (0) 0), (.int (0) 0), (.int (3) 0), (.ref 724), (.bool true), (.int (374) 0), (.ref 725), .none, .none, .none, (.ref 726), (.int (1337) 0), (.int (471) 0), (.str (s "/claim/cut.py") 1338)]), #[]⟩
noncomputable def o728 (P : Params) : Obj := ⟨(.type "function"), none, (.func (fn (hT 95) (s "ascending_texts") (s "ascending_texts") 3 [] .none .none .none (.str (s "likepanes.solutions") 1321) none (.ref 727) .none 0)), #[]⟩
noncomputable def o729 (P : Params) : Obj := ⟨(.type "tuple"), none, (.seq #[] 0), #[]⟩
noncomputable def o730 (P : Params) : Obj := ⟨.none, none, (.fields #[]), #[]⟩
noncomputable def o731 (P : Params) : Obj := ⟨(.type "tuple"), none, (.seq #[(.str (s "tree") 1345)] 0), #[]⟩
noncomputable def o732 (P : Params) : Obj := ⟨(.type "tuple"), none, (.seq #[] 0), #[]⟩
noncomputable def o733 (P : Params) : Obj := ⟨.none, none, (.func (fn (hT 97) (s "panes_of") (s "panes_of") 0 [] .none .none .none .none none .none .none 0)), #[]⟩
noncomputable def o734 (P : Params) : Obj := ⟨(.type "code"), none, (.fields #[(.str (s "panes_of") 1342), (.str (s "panes_of") 1343), (.str (s "/claim/cut.py") 1344), (.int (475) 0), (.int (1) 0), (.int (0) 0), (.int (0) 0), (.int (3) 0), (.ref 729), (.bool true), (.int (374) 0), (.ref 730), .none, (.ref 731), (.ref 732), (.ref 733), (.int (1346) 0), (.int (475) 0), (.str (s "/claim/cut.py") 1347)]), #[]⟩
noncomputable def o735 (P : Params) : Obj := ⟨(.type "function"), none, (.func (fn (hT 97) (s "panes_of") (s "panes_of") 3 [] .none .none .none (.str (s "likepanes.trees") 1340) none (.ref 734) .none 0)), #[]⟩
noncomputable def o736 (P : Params) : Obj := ⟨(.type "tuple"), none, (.seq #[] 0), #[]⟩
noncomputable def o737 (P : Params) : Obj := ⟨.none, none, (.fields #[]), #[]⟩
noncomputable def o738 (P : Params) : Obj := ⟨(.type "tuple"), none, (.seq #[(.str (s "tree") 1352)] 0), #[]⟩
noncomputable def o739 (P : Params) : Obj := ⟨(.type "tuple"), none, (.seq #[] 0), #[]⟩
noncomputable def o740 (P : Params) : Obj := ⟨.none, none, (.func (fn (hT 98) (s "plain") (s "plain") 0 [] .none .none .none .none none .none .none 0)), #[]⟩
noncomputable def o741 (P : Params) : Obj := ⟨(.type "code"), none, (.fields #[(.str (s "plain") 1349), (.str (s "plain") 1350), (.str (s "/claim/cut.py") 1351), (.int (478) 0), (.int (1) 0), (.int (0) 0), (.int (0) 0), (.int (3) 0), (.ref 736), (.bool true), (.int (374) 0), (.ref 737), .none, (.ref 738), (.ref 739), (.ref 740), (.int (1353) 0), (.int (478) 0), (.str (s "/claim/cut.py") 1354)]), #[]⟩
noncomputable def o742 (P : Params) : Obj := ⟨(.type "function"), none, (.func (fn (hT 98) (s "plain") (s "plain") 3 [] .none .none .none (.str (s "likepanes.trees") 1340) none (.ref 741) .none 0)), #[]⟩
noncomputable def o743 (P : Params) : Obj := ⟨(.type "tuple"), none, (.seq #[] 0), #[]⟩
noncomputable def o744 (P : Params) : Obj := ⟨.none, none, (.fields #[]), #[]⟩
noncomputable def o745 (P : Params) : Obj := ⟨(.type "tuple"), none, (.seq #[(.str (s "shape") 1359), (.str (s "tree") 1360)] 0), #[]⟩
noncomputable def o746 (P : Params) : Obj := ⟨(.type "tuple"), none, (.seq #[] 0), #[]⟩
noncomputable def o747 (P : Params) : Obj := ⟨.none, none, (.func (fn (hT 99) (s "ratio") (s "ratio") 0 [] .none .none .none .none none .none .none 0)), #[]⟩
noncomputable def o748 (P : Params) : Obj := ⟨(.type "code"), none, (.fields #[(.str (s "ratio") 1356), (.str (s "ratio") 1357), (.str (s "/claim/cut.py") 1358), (.int (480) 0), (.int (2) 0), (.int (0) 0), (.int (0) 0), (.int (3) 0), (.ref 743), (.bool true), (.int (374) 0), (.ref 744), .none, (.ref 745), (.ref 746), (.ref 747), (.int (1361) 0), (.int (480) 0), (.str (s "/claim/cut.py") 1362)]), #[]⟩
noncomputable def o749 (P : Params) : Obj := ⟨(.type "function"), none, (.func (fn (hT 99) (s "ratio") (s "ratio") 3 [] .none .none .none (.str (s "likepanes.trees") 1340) none (.ref 748) .none 0)), #[]⟩
noncomputable def o750 (P : Params) : Obj := ⟨(.type "tuple"), none, (.seq #[] 0), #[]⟩
noncomputable def o751 (P : Params) : Obj := ⟨.none, none, (.fields #[]), #[]⟩
noncomputable def o752 (P : Params) : Obj := ⟨(.type "tuple"), none, (.seq #[(.str (s "shape") 1367), (.str (s "tree") 1368), (.str (s "node") 1369), (.str (s "nought") 1370)] 0), #[]⟩
noncomputable def o753 (P : Params) : Obj := ⟨(.type "tuple"), none, (.seq #[] 0), #[]⟩
noncomputable def o754 (P : Params) : Obj := ⟨.none, none, (.func (fn (hT 100) (s "laid") (s "laid") 0 [] .none .none .none .none none .none .none 0)), #[]⟩
noncomputable def o755 (P : Params) : Obj := ⟨(.type "code"), none, (.fields #[(.str (s "laid") 1364), (.str (s "laid") 1365), (.str (s "/claim/cut.py") 1366), (.int (483) 0), (.int (2) 0), (.int (0) 0), (.int (0) 0), (.int (3) 0), (.ref 750), (.bool true), (.int (374) 0), (.ref 751), .none, (.ref 752), (.ref 753), (.ref 754), (.int (1371) 0), (.int (483) 0), (.str (s "/claim/cut.py") 1372)]), #[]⟩
noncomputable def o756 (P : Params) : Obj := ⟨(.type "function"), none, (.func (fn (hT 100) (s "laid") (s "laid") 3 [] .none .none .none (.str (s "likepanes.trees") 1340) none (.ref 755) .none 0)), #[]⟩
noncomputable def o757 (P : Params) : Obj := ⟨(.type "tuple"), none, (.seq #[] 0), #[]⟩
noncomputable def o758 (P : Params) : Obj := ⟨.none, none, (.fields #[]), #[]⟩
noncomputable def o759 (P : Params) : Obj := ⟨(.type "tuple"), none, (.seq #[(.str (s "tree") 1377), (.str (s "node") 1378), (.str (s "top") 1379), (.str (s "bottom") 1380)] 0), #[]⟩
noncomputable def o760 (P : Params) : Obj := ⟨(.type "tuple"), none, (.seq #[] 0), #[]⟩
noncomputable def o761 (P : Params) : Obj := ⟨.none, none, (.func (fn (hT 101) (s "shapes_of") (s "shapes_of") 0 [] .none .none .none .none none .none .none 0)), #[]⟩
noncomputable def o762 (P : Params) : Obj := ⟨(.type "code"), none, (.fields #[(.str (s "shapes_of") 1374), (.str (s "shapes_of") 1375), (.str (s "/claim/cut.py") 1376), (.int (487) 0), (.int (1) 0), (.int (0) 0), (.int (0) 0), (.int (3) 0), (.ref 757), (.bool true), (.int (374) 0), (.ref 758), .none, (.ref 759), (.ref 760), (.ref 761), (.int (1381) 0), (.int (487) 0), (.str (s "/claim/cut.py") 1382)]), #[]⟩
noncomputable def o763 (P : Params) : Obj := ⟨(.type "function"), none, (.func (fn (hT 101) (s "shapes_of") (s "shapes_of") 3 [] .none .none .none (.str (s "likepanes.trees") 1340) none (.ref 762) .none 0)), #[]⟩
noncomputable def o764 (P : Params) : Obj := ⟨(.type "tuple"), none, (.seq #[] 0), #[]⟩
noncomputable def o765 (P : Params) : Obj := ⟨.none, none, (.fields #[]), #[]⟩
noncomputable def o766 (P : Params) : Obj := ⟨(.type "tuple"), none, (.seq #[(.str (s "shape") 1387), (.str (s "node") 1388), (.str (s "kind") 1389), (.str (s "parts") 1390), (.str (s "value") 1391), (.str (s "part") 1392), (.str (s "addend") 1393)] 0), #[]⟩
noncomputable def o767 (P : Params) : Obj := ⟨(.type "tuple"), none, (.seq #[] 0), #[]⟩
noncomputable def o768 (P : Params) : Obj := ⟨.none, none, (.func (fn (hT 102) (s "node_ratio") (s "node_ratio") 0 [] .none .none .none .none none .none .none 0)), #[]⟩
noncomputable def o769 (P : Params) : Obj := ⟨(.type "code"), none, (.fields #[(.str (s "node_ratio") 1384), (.str (s "node_ratio") 1385), (.str (s "/claim/cut.py") 1386), (.int (493) 0), (.int (2) 0), (.int (0) 0), (.int (0) 0), (.int (3) 0), (.ref 764), (.bool true), (.int (374) 0), (.ref 765), .none, (.ref 766), (.ref 767), (.ref 768), (.int (1394) 0), (.int (493) 0), (.str (s "/claim/cut.py") 1395)]), #[]⟩
noncomputable def o770 (P : Params) : Obj := ⟨(.type "function"), none, (.func (fn (hT 102) (s "node_ratio") (s "node_ratio") 3 [] .none .none .none (.str (s "likepanes.trees") 1340) none (.ref 769) .none 0)), #[]⟩
noncomputable def o771 (P : Params) : Obj := ⟨(.type "tuple"), none, (.seq #[] 0), #[]⟩
noncomputable def o772 (P : Params) : Obj := ⟨.none, none, (.fields #[]), #[]⟩
noncomputable def o773 (P : Params) : Obj := ⟨(.type "tuple"), none, (.seq #[(.str (s "shape") 1400), (.str (s "number") 1401)] 0), #[]⟩
noncomputable def o774 (P : Params) : Obj := ⟨(.type "tuple"), none, (.seq #[] 0), #[]⟩
noncomputable def o775 (P : Params) : Obj := ⟨.none, none, (.func (fn (hT 103) (s "turned") (s "turned") 0 [] .none .none .none .none none .none .none 0)), #[]⟩
noncomputable def o776 (P : Params) : Obj := ⟨(.type "code"), none, (.fields #[(.str (s "turned") 1397), (.str (s "turned") 1398), (.str (s "/claim/cut.py") 1399), (.int (504) 0), (.int (2) 0), (.int (0) 0), (.int (0) 0), (.int (3) 0), (.ref 771), (.bool true), (.int (374) 0), (.ref 772), .none, (.ref 773), (.ref 774), (.ref 775), (.int (1402) 0), (.int (504) 0), (.str (s "/claim/cut.py") 1403)]), #[]⟩
noncomputable def o777 (P : Params) : Obj := ⟨(.type "function"), none, (.func (fn (hT 103) (s "turned") (s "turned") 3 [] .none .none .none (.str (s "likepanes.trees") 1340) none (.ref 776) .none 0)), #[]⟩
noncomputable def t6 (P : Params) : BT := (n (o0 P) (n (o1 P) (n (o3_6 P) (n (o7 P) (n (o15 P) (n (o31 P) (n (o63 P) (n (o127 P) (n (o255 P) (n (o511 P) z z) (n (o767 P) z z)) (n (o383 P) (n (o639 P) z z) z)) (n (o191 P) (n (o319 P) (n (o575 P) z z) z) (n (o447 P) (n (o703 P) z z) z))) (n (o95 P) (n (o159 P) (n (o287 P) (n (o543 P) z z) z) (n (o415 P) (n (o671 P) z z) z)) (n (o223 P) (n (o351 P) (n (o607 P) z z) z) (n (o479 P) (n (o735 P) z z) z)))) (n (o47 P) (n (o79 P) (n (o143 P) (n (o271 P) (n (o527 P) z z) z) (n (o399 P) (n (o655 P) z z) z)) (n (o207 P) (n (o335 P) (n (o591 P) z z) z) (n (o463 P) (n (o719 P) z z) z))) (n (o111 P) (n (o175 P) (n (o303 P) (n (o559 P) z z) z) (n (o431 P) (n (o687 P) z z) z)) (n (o239 P) (n (o367 P) (n (o623 P) z z) z) (n (o495 P) (n (o751 P) z z) z))))) (n (o23 P) (n (o39 P) (n (o71 P) (n (o135 P) (n (o263 P) (n (o519 P) z z) (n (o775 P) z z)) (n (o391 P) (n (o647 P) z z) z)) (n (o199 P) (n (o327 P) (n (o583 P) z z) z) (n (o455 P) (n (o711 P) z z) z))) (n (o103 P) (n (o167 P) (n (o295 P) (n (o551 P) z z) z) (n (o423 P) (n (o679 P) z z) z)) (n (o231 P) (n (o359 P) (n (o615 P) z z) z) (n (o487 P) (n (o743 P) z z) z)))) (n (o55 P) (n (o87 P) (n (o151 P) (n (o279 P) (n (o535 P) z z) z) (n (o407 P) (n (o663 P) z z) z)) (n (o215 P) (n (o343 P) (n (o599 P) z z) z) (n (o471 P) (n (o727 P) z z) z))) (n (o119 P) (n (o183 P) (n (o311 P) (n (o567 P) z z) z) (n (o439 P) (n (o695 P) z z) z)) (n (o247 P) (n (o375 P) (n (o631 P) z z) z) (n (o503 P) (n (o759 P) z z) z)))))) (n (o11 P) (n (o19 P) (n (o35 P) (n (o67 P) (n (o131 P) (n (o259 P) (n (o515 P) z z) (n (o771 P) z z)) (n (o387 P) (n (o643 P) z z) z)) (n (o195 P) (n (o323 P) (n (o579 P) z z) z) (n (o451 P) (n (o707 P) z z) z))) (n (o99 P) (n (o163 P) (n (o291 P) (n (o547 P) z z) z) (n (o419 P) (n (o675 P) z z) z)) (n (o227 P) (n (o355 P) (n (o611 P) z z) z) (n (o483 P) (n (o739 P) z z) z)))) (n (o51 P) (n (o83 P) (n (o147 P) (n (o275 P) (n (o531 P) z z) z) (n (o403 P) (n (o659 P) z z) z)) (n (o211 P) (n (o339 P) (n (o595 P) z z) z) (n (o467 P) (n (o723 P) z z) z))) (n (o115 P) (n (o179_3 P) (n (o307 P) (n (o563 P) z z) z) (n (o435 P) (n (o691 P) z z) z)) (n (o243 P) (n (o371 P) (n (o627 P) z z) z) (n (o499 P) (n (o755 P) z z) z))))) (n (o27 P) (n (o43 P) (n (o75 P) (n (o139 P) (n (o267 P) (n (o523 P) z z) z) (n (o395 P) (n (o651 P) z z) z)) (n (o203 P) (n (o331 P) (n (o587 P) z z) z) (n (o459 P) (n (o715 P) z z) z))) (n (o107 P) (n (o171 P) (n (o299 P) (n (o555 P) z z) z) (n (o427 P) (n (o683 P) z z) z)) (n (o235 P) (n (o363 P) (n (o619 P) z z) z) (n (o491 P) (n (o747 P) z z) z)))) (n (o59 P) (n (o91 P) (n (o155 P) (n (o283 P) (n (o539 P) z z) z) (n (o411 P) (n (o667 P) z z) z)) (n (o219 P) (n (o347 P) (n (o603 P) z z) z) (n (o475 P) (n (o731 P) z z) z))) (n (o123 P) (n (o187 P) (n (o315 P) (n (o571 P) z z) z) (n (o443 P) (n (o699 P) z z) z)) (n (o251 P) (n (o379 P) (n (o635 P) z z) z) (n (o507 P) (n (o763 P) z z) z))))))) (n (o5 P) (n (o9 P) (n (o17 P) (n (o33 P) (n (o65 P) (n (o129 P) (n (o257 P) (n (o513 P) z z) (n (o769 P) z z)) (n (o385 P) (n (o641 P) z z) z)) (n (o193 P) (n (o321 P) (n (o577 P) z z) z) (n (o449 P) (n (o705 P) z z) z))) (n (o97 P) (n (o161 P) (n (o289 P) (n (o545 P) z z) z) (n (o417 P) (n (o673 P) z z) z)) (n (o225 P) (n (o353 P) (n (o609 P) z z) z) (n (o481 P) (n (o737 P) z z) z)))) (n (o49 P) (n (o81 P) (n (o145 P) (n (o273 P) (n (o529 P) z z) z) (n (o401 P) (n (o657 P) z z) z)) (n (o209 P) (n (o337 P) (n (o593 P) z z) z) (n (o465 P) (n (o721 P) z z) z))) (n (o113 P) (n (o177 P) (n (o305 P) (n (o561 P) z z) z) (n (o433 P) (n (o689 P) z z) z)) (n (o241 P) (n (o369 P) (n (o625 P) z z) z) (n (o497 P) (n (o753 P) z z) z))))) (n (o25 P) (n (o41 P) (n (o73 P) (n (o137 P) (n (o265 P) (n (o521 P) z z) (n (o777 P) z z)) (n (o393 P) (n (o649 P) z z) z)) (n (o201 P) (n (o329 P) (n (o585 P) z z) z) (n (o457 P) (n (o713 P) z z) z))) (n (o105 P) (n (o169 P) (n (o297 P) (n (o553 P) z z) z) (n (o425 P) (n (o681 P) z z) z)) (n (o233 P) (n (o361 P) (n (o617 P) z z) z) (n (o489 P) (n (o745 P) z z) z)))) (n (o57 P) (n (o89 P) (n (o153 P) (n (o281 P) (n (o537 P) z z) z) (n (o409 P) (n (o665 P) z z) z)) (n (o217 P) (n (o345 P) (n (o601 P) z z) z) (n (o473 P) (n (o729 P) z z) z))) (n (o121 P) (n (o185 P) (n (o313 P) (n (o569 P) z z) z) (n (o441 P) (n (o697 P) z z) z)) (n (o249 P) (n (o377 P) (n (o633 P) z z) z) (n (o505 P) (n (o761 P) z z) z)))))) (n (o13 P) (n (o21 P) (n (o37 P) (n (o69 P) (n (o133 P) (n (o261 P) (n (o517 P) z z) (n (o773 P) z z)) (n (o389 P) (n (o645 P) z z) z)) (n (o197 P) (n (o325 P) (n (o581 P) z z) z) (n (o453 P) (n (o709 P) z z) z))) (n (o101 P) (n (o165 P) (n (o293 P) (n (o549 P) z z) z) (n (o421 P) (n (o677 P) z z) z)) (n (o229 P) (n (o357 P) (n (o613 P) z z) z) (n (o485 P) (n (o741 P) z z) z)))) (n (o53 P) (n (o85 P) (n (o149 P) (n (o277 P) (n (o533 P) z z) z) (n (o405 P) (n (o661 P) z z) z)) (n (o213 P) (n (o341 P) (n (o597 P) z z) z) (n (o469 P) (n (o725 P) z z) z))) (n (o117 P) (n (o181 P) (n (o309 P) (n (o565 P) z z) z) (n (o437 P) (n (o693 P) z z) z)) (n (o245 P) (n (o373 P) (n (o629 P) z z) z) (n (o501 P) (n (o757 P) z z) z))))) (n (o29 P) (n (o45 P) (n (o77 P) (n (o141 P) (n (o269 P) (n (o525 P) z z) z) (n (o397 P) (n (o653 P) z z) z)) (n (o205 P) (n (o333 P) (n (o589 P) z z) z) (n (o461 P) (n (o717 P) z z) z))) (n (o109 P) (n (o173 P) (n (o301 P) (n (o557 P) z z) z) (n (o429 P) (n (o685 P) z z) z)) (n (o237 P) (n (o365 P) (n (o621 P) z z) z) (n (o493 P) (n (o749 P) z z) z)))) (n (o61 P) (n (o93 P) (n (o157 P) (n (o285 P) (n (o541 P) z z) z) (n (o413 P) (n (o669 P) z z) z)) (n (o221 P) (n (o349 P) (n (o605 P) z z) z) (n (o477 P) (n (o733 P) z z) z))) (n (o125 P) (n (o189 P) (n (o317 P) (n (o573 P) z z) z) (n (o445 P) (n (o701 P) z z) z)) (n (o253 P) (n (o381 P) (n (o637 P) z z) z) (n (o509 P) (n (o765 P) z z) z)))))))) (n (o2_2 P) (n (o4 P) (n (o8 P) (n (o16 P) (n (o32 P) (n (o64 P) (n (o128 P) (n (o256 P) (n (o512 P) z z) (n (o768 P) z z)) (n (o384 P) (n (o640 P) z z) z)) (n (o192 P) (n (o320 P) (n (o576 P) z z) z) (n (o448 P) (n (o704 P) z z) z))) (n (o96 P) (n (o160 P) (n (o288 P) (n (o544 P) z z) z) (n (o416 P) (n (o672 P) z z) z)) (n (o224 P) (n (o352 P) (n (o608 P) z z) z) (n (o480 P) (n (o736 P) z z) z)))) (n (o48 P) (n (o80 P) (n (o144 P) (n (o272 P) (n (o528 P) z z) z) (n (o400 P) (n (o656 P) z z) z)) (n (o208 P) (n (o336 P) (n (o592 P) z z) z) (n (o464 P) (n (o720 P) z z) z))) (n (o112 P) (n (o176 P) (n (o304 P) (n (o560 P) z z) z) (n (o432 P) (n (o688 P) z z) z)) (n (o240 P) (n (o368 P) (n (o624 P) z z) z) (n (o496 P) (n (o752 P) z z) z))))) (n (o24 P) (n (o40_6 P) (n (o72 P) (n (o136 P) (n (o264 P) (n (o520 P) z z) (n (o776 P) z z)) (n (o392 P) (n (o648 P) z z) z)) (n (o200 P) (n (o328 P) (n (o584 P) z z) z) (n (o456 P) (n (o712 P) z z) z))) (n (o104 P) (n (o168 P) (n (o296 P) (n (o552 P) z z) z) (n (o424 P) (n (o680 P) z z) z)) (n (o232 P) (n (o360 P) (n (o616 P) z z) z) (n (o488 P) (n (o744 P) z z) z)))) (n (o56 P) (n (o88 P) (n (o152 P) (n (o280 P) (n (o536 P) z z) z) (n (o408 P) (n (o664 P) z z) z)) (n (o216 P) (n (o344 P) (n (o600 P) z z) z) (n (o472 P) (n (o728 P) z z) z))) (n (o120 P) (n (o184 P) (n (o312 P) (n (o568 P) z z) z) (n (o440 P) (n (o696 P) z z) z)) (n (o248 P) (n (o376 P) (n (o632 P) z z) z) (n (o504 P) (n (o760 P) z z) z)))))) (n (o12_0 P) (n (o20 P) (n (o36 P) (n (o68 P) (n (o132 P) (n (o260 P) (n (o516 P) z z) (n (o772 P) z z)) (n (o388 P) (n (o644 P) z z) z)) (n (o196 P) (n (o324 P) (n (o580 P) z z) z) (n (o452 P) (n (o708 P) z z) z))) (n (o100 P) (n (o164 P) (n (o292 P) (n (o548 P) z z) z) (n (o420 P) (n (o676 P) z z) z)) (n (o228 P) (n (o356 P) (n (o612 P) z z) z) (n (o484 P) (n (o740 P) z z) z)))) (n (o52_2 P) (n (o84 P) (n (o148 P) (n (o276 P) (n (o532 P) z z) z) (n (o404 P) (n (o660 P) z z) z)) (n (o212 P) (n (o340 P) (n (o596 P) z z) z) (n (o468 P) (n (o724 P) z z) z))) (n (o116 P) (n (o180 P) (n (o308 P) (n (o564 P) z z) z) (n (o436 P) (n (o692 P) z z) z)) (n (o244 P) (n (o372 P) (n (o628 P) z z) z) (n (o500 P) (n (o756 P) z z) z))))) (n (o28 P) (n (o44 P) (n (o76 P) (n (o140 P) (n (o268 P) (n (o524 P) z z) z) (n (o396 P) (n (o652 P) z z) z)) (n (o204 P) (n (o332 P) (n (o588 P) z z) z) (n (o460 P) (n (o716 P) z z) z))) (n (o108 P) (n (o172 P) (n (o300 P) (n (o556 P) z z) z) (n (o428 P) (n (o684 P) z z) z)) (n (o236 P) (n (o364 P) (n (o620 P) z z) z) (n (o492 P) (n (o748 P) z z) z)))) (n (o60 P) (n (o92 P) (n (o156 P) (n (o284 P) (n (o540 P) z z) z) (n (o412 P) (n (o668 P) z z) z)) (n (o220 P) (n (o348 P) (n (o604 P) z z) z) (n (o476 P) (n (o732 P) z z) z))) (n (o124 P) (n (o188 P) (n (o316 P) (n (o572 P) z z) z) (n (o444 P) (n (o700 P) z z) z)) (n (o252 P) (n (o380 P) (n (o636 P) z z) z) (n (o508 P) (n (o764 P) z z) z))))))) (n (o6 P) (n (o10 P) (n (o18 P) (n (o34 P) (n (o66 P) (n (o130 P) (n (o258 P) (n (o514 P) z z) (n (o770 P) z z)) (n (o386 P) (n (o642 P) z z) z)) (n (o194 P) (n (o322 P) (n (o578 P) z z) z) (n (o450 P) (n (o706 P) z z) z))) (n (o98 P) (n (o162 P) (n (o290 P) (n (o546 P) z z) z) (n (o418 P) (n (o674 P) z z) z)) (n (o226 P) (n (o354 P) (n (o610 P) z z) z) (n (o482 P) (n (o738 P) z z) z)))) (n (o50 P) (n (o82 P) (n (o146 P) (n (o274 P) (n (o530 P) z z) z) (n (o402 P) (n (o658 P) z z) z)) (n (o210 P) (n (o338 P) (n (o594 P) z z) z) (n (o466 P) (n (o722 P) z z) z))) (n (o114 P) (n (o178 P) (n (o306 P) (n (o562 P) z z) z) (n (o434 P) (n (o690 P) z z) z)) (n (o242 P) (n (o370 P) (n (o626 P) z z) z) (n (o498 P) (n (o754 P) z z) z))))) (n (o26 P) (n (o42 P) (n (o74 P) (n (o138 P) (n (o266 P) (n (o522 P) z z) z) (n (o394 P) (n (o650 P) z z) z)) (n (o202 P) (n (o330 P) (n (o586 P) z z) z) (n (o458 P) (n (o714 P) z z) z))) (n (o106 P) (n (o170 P) (n (o298 P) (n (o554 P) z z) z) (n (o426 P) (n (o682 P) z z) z)) (n (o234 P) (n (o362 P) (n (o618 P) z z) z) (n (o490 P) (n (o746 P) z z) z)))) (n (o58 P) (n (o90 P) (n (o154 P) (n (o282 P) (n (o538 P) z z) z) (n (o410 P) (n (o666 P) z z) z)) (n (o218 P) (n (o346 P) (n (o602 P) z z) z) (n (o474 P) (n (o730 P) z z) z))) (n (o122 P) (n (o186 P) (n (o314 P) (n (o570 P) z z) z) (n (o442 P) (n (o698 P) z z) z)) (n (o250 P) (n (o378 P) (n (o634 P) z z) z) (n (o506 P) (n (o762 P) z z) z)))))) (n (o14 P) (n (o22 P) (n (o38 P) (n (o70 P) (n (o134 P) (n (o262 P) (n (o518 P) z z) (n (o774 P) z z)) (n (o390 P) (n (o646 P) z z) z)) (n (o198 P) (n (o326 P) (n (o582 P) z z) z) (n (o454 P) (n (o710 P) z z) z))) (n (o102 P) (n (o166 P) (n (o294 P) (n (o550 P) z z) z) (n (o422 P) (n (o678 P) z z) z)) (n (o230 P) (n (o358 P) (n (o614 P) z z) z) (n (o486 P) (n (o742 P) z z) z)))) (n (o54 P) (n (o86 P) (n (o150 P) (n (o278 P) (n (o534 P) z z) z) (n (o406 P) (n (o662 P) z z) z)) (n (o214 P) (n (o342 P) (n (o598 P) z z) z) (n (o470 P) (n (o726 P) z z) z))) (n (o118 P) (n (o182 P) (n (o310 P) (n (o566 P) z z) z) (n (o438 P) (n (o694 P) z z) z)) (n (o246 P) (n (o374 P) (n (o630 P) z z) z) (n (o502 P) (n (o758 P) z z) z))))) (n (o30 P) (n (o46 P) (n (o78 P) (n (o142 P) (n (o270 P) (n (o526 P) z z) z) (n (o398 P) (n (o654 P) z z) z)) (n (o206 P) (n (o334 P) (n (o590 P) z z) z) (n (o462 P) (n (o718 P) z z) z))) (n (o110 P) (n (o174 P) (n (o302 P) (n (o558 P) z z) z) (n (o430 P) (n (o686 P) z z) z)) (n (o238 P) (n (o366 P) (n (o622 P) z z) z) (n (o494 P) (n (o750 P) z z) z)))) (n (o62 P) (n (o94 P) (n (o158 P) (n (o286 P) (n (o542 P) z z) z) (n (o414 P) (n (o670 P) z z) z)) (n (o222 P) (n (o350 P) (n (o606 P) z z) z) (n (o478 P) (n (o734 P) z z) z))) (n (o126 P) (n (o190 P) (n (o318 P) (n (o574 P) z z) z) (n (o446 P) (n (o702 P) z z) z)) (n (o254 P) (n (o382 P) (n (o638 P) z z) z) (n (o510 P) (n (o766 P) z z) z)))))))))
noncomputable def X6 (w : World) (os : OsState) : SharedT := ⟨t6 w.params, 778, {}, #[], {}, 1405, os⟩
noncomputable def o3_7 (P : Params) : Obj := ⟨(.type "dict"), none, (.dict #[k P "__name__" 165 (.str (s "law_likepanes_k42_whole_texts_of_trees") 1436), k P "__doc__" 166 .none, k P "__package__" 167 .none, k P "__loader__" 168 (.builtin "__main__.__loader__#opaque"), k P "__spec__" 169 .none, k P "__annotations__" 170 (.ref 6), k P "__builtins__" 171 (.ref 4), k P "__file__" 173 (.str (s "/claim/cut.py") 172), k P "__cached__" 174 .none, k P "gcd" 370 (.builtin "math.gcd"), k P "isqrt" 373 (.builtin "math.isqrt"), k P "BadValue" 399 (.ref 52), k P "InvalidText" 424 (.ref 72), k P "InvalidFraction" 449 (.ref 91), k P "InvalidNumber" 474 (.ref 110), k P "InvalidTree" 499 (.ref 129), k P "NotAShape" 524 (.ref 148), k P "InvalidEquation" 549 (.ref 167), k P "NoAnswer" 569 (.ref 179), k P "NoRoot" 592 (.ref 199), k P "NoQuotient" 615 (.ref 218), k P "TooMany" 640 (.ref 237), k P "MOST_DEGREE" 642 (.int (5) 641), k P "MOST_TERM" 644 (.int (1000) 643), k P "MOST_LEAVES" 646 (.int (12) 645), k P "MOST_FEW" 648 (.int (5) 647), k P "is_integer" 657 (.ref 246), k P "are_integers" 663 (.ref 251), k P "is_fraction" 672 (.ref 258), k P "is_below" 680 (.ref 265), k P "is_term" 687 (.ref 272), k P "wrong_term" 697 (.ref 279), k P "trimmed" 707 (.ref 286), k P "common_divisor" 716 (.ref 293), k P "primitive" 722 (.ref 298), k P "negative" 728 (.ref 303), k P "derivative" 734 (.ref 308), k P "value_at" 746 (.ref 315), k P "multiplied" 759 (.ref 322), k P "combined" 773 (.ref 329), k P "remainder" 783 (.ref 336), k P "divided" 798 (.ref 343), k P "FIRST_BITS" 802 (.int (64) 801), k P "sturm_chain" 810 (.ref 350), k P "changes" 816 (.ref 355), k P "reach" 822 (.ref 360), k P "roots_up_to" 831 (.ref 367), k P "roots_in_all" 838 (.ref 374), k P "roots_within" 849 (.ref 381), k P "rank_of_last" 857 (.ref 388), k P "stretch_of" 868 (.ref 395), k P "lonely_stretch" 881 (.ref 402), k P "refined" 893 (.ref 409), k P "guessed" 909 (.ref 416), k P "is_least" 918 (.ref 423), k P "factors_of" 928 (.ref 430), k P "least_factor" 936 (.ref 437), k P "divisors" 942 (.ref 442), k P "linear_factor" 953 (.ref 449), k P "quadratic_factor" 966 (.ref 456), k P "middles" 978 (.ref 463), k P "whole_roots" 984 (.ref 468), k P "Shape" 1094 (.ref 546), k P "less" 1103 (.ref 557), k P "check_shape" 1110 (.ref 564), k P "check_equation" 1118 (.ref 571), k P "check_stretch" 1126 (.ref 578), k P "factor_within" 1139 (.ref 585), k P "told_by" 1145 (.ref 590), k P "integer_of" 1153 (.ref 597), k P "text_of" 1159 (.ref 602), k P "number_of" 1169 (.ref 609), k P "root" 1176 (.ref 616), k P "total" 1185 (.ref 623), k P "product" 1194 (.ref 630), k P "quotient" 1206 (.ref 637), k P "is_number" 1214 (.ref 644), k P "check_number" 1222 (.ref 651), k P "lowest" 1228 (.ref 656), k P "folded" 1238 (.ref 663), k P "reciprocal" 1244 (.ref 668), k P "LYING" 1246 (.str (s "lying") 1245), k P "STANDING" 1248 (.str (s "standing") 1247), k P "LIES" 1252 (.str (s "l") 1251), k P "STANDS" 1254 (.str (s "s") 1253), k P "COLUMNS" 1256 (.str (s "[") 1255), k P "ROWS" 1258 (.str (s "(") 1257), k P "CLOSING" 1265 (.ref 669), k P "checked" 1273 (.ref 676), k P "told_node" 1280 (.ref 683), k P "leaves_in" 1287 (.ref 690), k P "node_of" 1299 (.ref 697), k P "bracketed" 1307 (.ref 704), k P "plain_text" 1314 (.ref 711), k P "loose_texts" 1320 (.ref 716), k P "solutions" 1333 (.ref 723), k P "ascending_texts" 1339 (.ref 728), k P "panes_of" 1348 (.ref 735), k P "plain" 1355 (.ref 742), k P "ratio" 1363 (.ref 749), k P "laid" 1373 (.ref 756), k P "shapes_of" 1383 (.ref 763), k P "node_ratio" 1396 (.ref 770), k P "turned" 1404 (.ref 777), k P "laid_node" 1421 (.ref 784), k P "general_ratio" 1435 (.ref 791), k P "_law_well" 1448 (.ref 798), k P "_law_dip" 1458 (.ref 805), k P "_law_of" 1466 (.ref 812), k P "_law_sizes" 1478 (.ref 819), k P "_law_grown" 1484 (.ref 824), k P "_law_said" 1490 (.ref 829), k P "_law_reads" 1502 (.ref 836), k P "_law_bent" 1513 (.ref 843), k P "_law_caught" 1522 (.ref 850), k P "_law_right" 1537 (.ref 857), k P "law" 1543 (.ref 862)] 117), #[]⟩
noncomputable def o40_7 (P : Params) : Obj := ⟨.none, none, (.fields #[(.int (3) 0), (.int (0) 0), (.ref 48), (.int (5) 0), (.int (0) 0), (.ref 61), (.int (10) 0), (.int (0) 0), (.ref 80), (.int (15) 0), (.int (0) 0), (.ref 99), (.int (20) 0), (.int (0) 0), (.ref 118), (.int (25) 0), (.int (0) 0), (.ref 137), (.int (30) 0), (.int (0) 0), (.ref 156), (.int (35) 0), (.int (0) 0), (.ref 175), (.int (37) 0), (.int (0) 0), (.ref 188), (.int (41) 0), (.int (0) 0), (.ref 207), (.int (45) 0), (.int (0) 0), (.ref 226), (.int (55) 0), (.int (0) 0), (.ref 245), (.int (57) 0), (.int (0) 0), (.ref 250), (.int (59) 0), (.int (0) 0), (.ref 257), (.int (64) 0), (.int (0) 0), (.ref 264), (.int (66) 0), (.int (0) 0), (.ref 271), (.int (68) 0), (.int (0) 0), (.ref 278), (.int (75) 0), (.int (0) 0), (.ref 285), (.int (80) 0), (.int (0) 0), (.ref 292), (.int (85) 0), (.int (0) 0), (.ref 297), (.int (88) 0), (.int (0) 0), (.ref 302), (.int (90) 0), (.int (0) 0), (.ref 307), (.int (92) 0), (.int (0) 0), (.ref 314), (.int (98) 0), (.int (0) 0), (.ref 321), (.int (104) 0), (.int (0) 0), (.ref 328), (.int (111) 0), (.int (0) 0), (.ref 335), (.int (117) 0), (.int (0) 0), (.ref 342), (.int (133) 0), (.int (0) 0), (.ref 349), (.int (139) 0), (.int (0) 0), (.ref 354), (.int (143) 0), (.int (0) 0), (.ref 359), (.int (145) 0), (.int (0) 0), (.ref 366), (.int (147) 0), (.int (0) 0), (.ref 373), (.int (149) 0), (.int (0) 0), (.ref 380), (.int (155) 0), (.int (0) 0), (.ref 387), (.int (157) 0), (.int (0) 0), (.ref 394), (.int (161) 0), (.int (0) 0), (.ref 401), (.int (173) 0), (.int (0) 0), (.ref 408), (.int (185) 0), (.int (0) 0), (.ref 415), (.int (198) 0), (.int (0) 0), (.ref 422), (.int (202) 0), (.int (0) 0), (.ref 429), (.int (213) 0), (.int (0) 0), (.ref 436), (.int (220) 0), (.int (0) 0), (.ref 441), (.int (222) 0), (.int (0) 0), (.ref 448), (.int (234) 0), (.int (0) 0), (.ref 455), (.int (244) 0), (.int (0) 0), (.ref 462), (.int (251) 0), (.int (0) 0), (.ref 467), (.int (261) 0), (.int (0) 0), (.ref 474), (.int (308) 0), (.int (0) 0), (.ref 556), (.int (317) 0), (.int (0) 0), (.ref 563), (.int (320) 0), (.int (0) 0), (.ref 570), (.int (326) 0), (.int (0) 0), (.ref 577), (.int (331) 0), (.int (0) 0), (.ref 584), (.int (338) 0), (.int (0) 0), (.ref 589), (.int (349) 0), (.int (0) 0), (.ref 596), (.int (354) 0), (.int (0) 0), (.ref 601), (.int (358) 0), (.int (0) 0), (.ref 608), (.int (363) 0), (.int (0) 0), (.ref 615), (.int (366) 0), (.int (0) 0), (.ref 622), (.int (371) 0), (.int (0) 0), (.ref 629), (.int (376) 0), (.int (0) 0), (.ref 636), (.int (386) 0), (.int (0) 0), (.ref 643), (.int (390) 0), (.int (0) 0), (.ref 650), (.int (393) 0), (.int (0) 0), (.ref 655), (.int (399) 0), (.int (0) 0), (.ref 662), (.int (405) 0), (.int (0) 0), (.ref 667), (.int (425) 0), (.int (0) 0), (.ref 675), (.int (430) 0), (.int (0) 0), (.ref 682), (.int (432) 0), (.int (0) 0), (.ref 689), (.int (434) 0), (.int (0) 0), (.ref 696), (.int (453) 0), (.int (0) 0), (.ref 703), (.int (455) 0), (.int (0) 0), (.ref 710), (.int (459) 0), (.int (0) 0), (.ref 715), (.int (464) 0), (.int (0) 0), (.ref 722), (.int (471) 0), (.int (0) 0), (.ref 727), (.int (475) 0), (.int (0) 0), (.ref 734), (.int (478) 0), (.int (0) 0), (.ref 741), (.int (480) 0), (.int (0) 0), (.ref 748), (.int (483) 0), (.int (0) 0), (.ref 755), (.int (487) 0), (.int (0) 0), (.ref 762), (.int (493) 0), (.int (0) 0), (.ref 769), (.int (504) 0), (.int (0) 0), (.ref 776), (.int (506) 0), (.int (0) 0), (.ref 783), (.int (522) 0), (.int (0) 0), (.ref 790), (.int (536) 0), (.int (0) 0), (.ref 797), (.int (542) 0), (.int (0) 0), (.ref 804), (.int (550) 0), (.int (0) 0), (.ref 811), (.int (552) 0), (.int (0) 0), (.ref 818), (.int (559) 0), (.int (0) 0), (.ref 823), (.int (563) 0), (.int (0) 0), (.ref 828), (.int (567) 0), (.int (0) 0), (.ref 835), (.int (587) 0), (.int (0) 0), (.ref 842), (.int (597) 0), (.int (0) 0), (.ref 849), (.int (603) 0), (.int (0) 0), (.ref 856), (.int (624) 0), (.int (0) 0), (.ref 861)]), #[]⟩
noncomputable def o778 (P : Params) : Obj := ⟨(.type "tuple"), none, (.seq #[] 0), #[]⟩
noncomputable def o779 (P : Params) : Obj := ⟨.none, none, (.fields #[]), #[]⟩
noncomputable def o780 (P : Params) : Obj := ⟨(.type "tuple"), none, (.seq #[(.str (s "shape") 1408), (.str (s "node") 1409), (.str (s "x") 1410), (.str (s "y") 1411), (.str (s "height") 1412), (.str (s "kind") 1413), (.str (s "parts") 1414), (.str (s "panes") 1415), (.str (s "width") 1416), (.str (s "part") 1417), (.str (s "high") 1418)] 0), #[]⟩
noncomputable def o781 (P : Params) : Obj := ⟨(.type "tuple"), none, (.seq #[] 0), #[]⟩
noncomputable def o782 (P : Params) : Obj := ⟨.none, none, (.func (fn (hT 104) (s "laid_node") (s "laid_node") 0 [] .none .none .none .none none .none .none 0)), #[]⟩
noncomputable def o783 (P : Params) : Obj := ⟨(.type "code"), none, (.fields #[(.str (s "laid_node") 1405), (.str (s "laid_node") 1406), (.str (s "/claim/cut.py") 1407), (.int (506) 0), (.int (5) 0), (.int (0) 0), (.int (0) 0), (.int (3) 0), (.ref 778), (.bool true), (.int (374) 0), (.ref 779), .none, (.ref 780), (.ref 781), (.ref 782), (.int (1419) 0), (.int (506) 0), (.str (s "/claim/cut.py") 1420)]), #[]⟩
noncomputable def o784 (P : Params) : Obj := ⟨(.type "function"), none, (.func (fn (hT 104) (s "laid_node") (s "laid_node") 3 [] .none .none .none (.str (s "likepanes.trees") 1340) none (.ref 783) .none 0)), #[]⟩
noncomputable def o785 (P : Params) : Obj := ⟨(.type "tuple"), none, (.seq #[] 0), #[]⟩
noncomputable def o786 (P : Params) : Obj := ⟨.none, none, (.fields #[]), #[]⟩
noncomputable def o787 (P : Params) : Obj := ⟨(.type "tuple"), none, (.seq #[(.str (s "node") 1425), (.str (s "kind") 1426), (.str (s "parts") 1427), (.str (s "top") 1428), (.str (s "bottom") 1429), (.str (s "part") 1430), (.str (s "over") 1431), (.str (s "under") 1432)] 0), #[]⟩
noncomputable def o788 (P : Params) : Obj := ⟨(.type "tuple"), none, (.seq #[] 0), #[]⟩
noncomputable def o789 (P : Params) : Obj := ⟨.none, none, (.func (fn (hT 105) (s "general_ratio") (s "general_ratio") 0 [] .none .none .none .none none .none .none 0)), #[]⟩
noncomputable def o790 (P : Params) : Obj := ⟨(.type "code"), none, (.fields #[(.str (s "general_ratio") 1422), (.str (s "general_ratio") 1423), (.str (s "/claim/cut.py") 1424), (.int (522) 0), (.int (1) 0), (.int (0) 0), (.int (0) 0), (.int (3) 0), (.ref 785), (.bool true), (.int (374) 0), (.ref 786), .none, (.ref 787), (.ref 788), (.ref 789), (.int (1433) 0), (.int (522) 0), (.str (s "/claim/cut.py") 1434)]), #[]⟩
noncomputable def o791 (P : Params) : Obj := ⟨(.type "function"), none, (.func (fn (hT 105) (s "general_ratio") (s "general_ratio") 3 [] .none .none .none (.str (s "likepanes.trees") 1340) none (.ref 790) .none 0)), #[]⟩
noncomputable def o792 (P : Params) : Obj := ⟨(.type "tuple"), none, (.seq #[] 0), #[]⟩
noncomputable def o793 (P : Params) : Obj := ⟨.none, none, (.fields #[]), #[]⟩
noncomputable def o794 (P : Params) : Obj := ⟨(.type "tuple"), none, (.seq #[(.str (s "_law_script") 1441), (.str (s "_law_k") 1442), (.str (s "_law_cell") 1443), (.str (s "_law_mixed") 1444), (.str (s "_law_each") 1445)] 0), #[]⟩
noncomputable def o795 (P : Params) : Obj := ⟨(.type "tuple"), none, (.seq #[] 0), #[]⟩
noncomputable def o796 (P : Params) : Obj := ⟨.none, none, (.func (fn (hT 107) (s "_law_well") (s "_law_well") 0 [] .none .none .none .none none .none .none 0)), #[]⟩
noncomputable def o797 (P : Params) : Obj := ⟨(.type "code"), none, (.fields #[(.str (s "_law_well") 1438), (.str (s "_law_well") 1439), (.str (s "/claim/cut.py") 1440), (.int (536) 0), (.int (2) 0), (.int (0) 0), (.int (0) 0), (.int (3) 0), (.ref 792), (.bool true), (.int (374) 0), (.ref 793), .none, (.ref 794), (.ref 795), (.ref 796), (.int (1446) 0), (.int (536) 0), (.str (s "/claim/cut.py") 1447)]), #[]⟩
noncomputable def o798 (P : Params) : Obj := ⟨(.type "function"), none, (.func (fn (hT 107) (s "_law_well") (s "_law_well") 3 [] .none .none .none (.str (s "law_likepanes_k42_whole_texts_of_trees") 1436) none (.ref 797) .none 0)), #[]⟩
noncomputable def o799 (P : Params) : Obj := ⟨(.type "tuple"), none, (.seq #[] 0), #[]⟩
noncomputable def o800 (P : Params) : Obj := ⟨.none, none, (.fields #[]), #[]⟩
noncomputable def o801 (P : Params) : Obj := ⟨(.type "tuple"), none, (.seq #[(.str (s "_law_well_here") 1452), (.str (s "_law_many") 1453), (.str (s "_law_old") 1454), (.str (s "_law_digit") 1455)] 0), #[]⟩
noncomputable def o802 (P : Params) : Obj := ⟨(.type "tuple"), none, (.seq #[] 0), #[]⟩
noncomputable def o803 (P : Params) : Obj := ⟨.none, none, (.func (fn (hT 108) (s "_law_dip") (s "_law_dip") 0 [] .none .none .none .none none .none .none 0)), #[]⟩
noncomputable def o804 (P : Params) : Obj := ⟨(.type "code"), none, (.fields #[(.str (s "_law_dip") 1449), (.str (s "_law_dip") 1450), (.str (s "/claim/cut.py") 1451), (.int (542) 0), (.int (2) 0), (.int (0) 0), (.int (0) 0), (.int (3) 0), (.ref 799), (.bool true), (.int (374) 0), (.ref 800), .none, (.ref 801), (.ref 802), (.ref 803), (.int (1456) 0), (.int (542) 0), (.str (s "/claim/cut.py") 1457)]), #[]⟩
noncomputable def o805 (P : Params) : Obj := ⟨(.type "function"), none, (.func (fn (hT 108) (s "_law_dip") (s "_law_dip") 3 [] .none .none .none (.str (s "law_likepanes_k42_whole_texts_of_trees") 1436) none (.ref 804) .none 0)), #[]⟩
noncomputable def o806 (P : Params) : Obj := ⟨(.type "tuple"), none, (.seq #[] 0), #[]⟩
noncomputable def o807 (P : Params) : Obj := ⟨.none, none, (.fields #[]), #[]⟩
noncomputable def o808 (P : Params) : Obj := ⟨(.type "tuple"), none, (.seq #[(.str (s "_law_well_here") 1462), (.str (s "_law_things") 1463)] 0), #[]⟩
noncomputable def o809 (P : Params) : Obj := ⟨(.type "tuple"), none, (.seq #[] 0), #[]⟩
noncomputable def o810 (P : Params) : Obj := ⟨.none, none, (.func (fn (hT 109) (s "_law_of") (s "_law_of") 0 [] .none .none .none .none none .none .none 0)), #[]⟩
noncomputable def o811 (P : Params) : Obj := ⟨(.type "code"), none, (.fields #[(.str (s "_law_of") 1459), (.str (s "_law_of") 1460), (.str (s "/claim/cut.py") 1461), (.int (550) 0), (.int (2) 0), (.int (0) 0), (.int (0) 0), (.int (3) 0), (.ref 806), (.bool true), (.int (374) 0), (.ref 807), .none, (.ref 808), (.ref 809), (.ref 810), (.int (1464) 0), (.int (550) 0), (.str (s "/claim/cut.py") 1465)]), #[]⟩
noncomputable def o812 (P : Params) : Obj := ⟨(.type "function"), none, (.func (fn (hT 109) (s "_law_of") (s "_law_of") 3 [] .none .none .none (.str (s "law_likepanes_k42_whole_texts_of_trees") 1436) none (.ref 811) .none 0)), #[]⟩
noncomputable def o813 (P : Params) : Obj := ⟨(.type "tuple"), none, (.seq #[] 0), #[]⟩
noncomputable def o814 (P : Params) : Obj := ⟨.none, none, (.fields #[]), #[]⟩
noncomputable def o815 (P : Params) : Obj := ⟨(.type "tuple"), none, (.seq #[(.str (s "_law_well_here") 1470), (.str (s "_law_many") 1471), (.str (s "_law_found") 1472), (.str (s "_law_left") 1473), (.str (s "_law_turn") 1474), (.str (s "_law_take") 1475)] 0), #[]⟩
noncomputable def o816 (P : Params) : Obj := ⟨(.type "tuple"), none, (.seq #[] 0), #[]⟩
noncomputable def o817 (P : Params) : Obj := ⟨.none, none, (.func (fn (hT 110) (s "_law_sizes") (s "_law_sizes") 0 [] .none .none .none .none none .none .none 0)), #[]⟩
noncomputable def o818 (P : Params) : Obj := ⟨(.type "code"), none, (.fields #[(.str (s "_law_sizes") 1467), (.str (s "_law_sizes") 1468), (.str (s "/claim/cut.py") 1469), (.int (552) 0), (.int (2) 0), (.int (0) 0), (.int (0) 0), (.int (3) 0), (.ref 813), (.bool true), (.int (374) 0), (.ref 814), .none, (.ref 815), (.ref 816), (.ref 817), (.int (1476) 0), (.int (552) 0), (.str (s "/claim/cut.py") 1477)]), #[]⟩
noncomputable def o819 (P : Params) : Obj := ⟨(.type "function"), none, (.func (fn (hT 110) (s "_law_sizes") (s "_law_sizes") 3 [] .none .none .none (.str (s "law_likepanes_k42_whole_texts_of_trees") 1436) none (.ref 818) .none 0)), #[]⟩
noncomputable def o820 (P : Params) : Obj := ⟨(.type "tuple"), none, (.seq #[] 0), #[]⟩
noncomputable def o821 (P : Params) : Obj := ⟨.none, none, (.fields #[]), #[]⟩
noncomputable def o822 (P : Params) : Obj := ⟨.none, none, (.func (fn (hT 111) (s "_law_grown") (s "_law_grown") 0 [] .none .none .none .none none .none .none 0)), #[]⟩
noncomputable def o823 (P : Params) : Obj := ⟨(.type "code"), none, (.fields #[(.str (s "_law_grown") 1479), (.str (s "_law_grown") 1480), (.str (s "/claim/cut.py") 1481), (.int (559) 0), (.int (2) 0), (.int (0) 0), (.int (0) 0), (.int (3) 0), (.ref 820), (.bool true), (.int (374) 0), (.ref 821), .none, .none, .none, (.ref 822), (.int (1482) 0), (.int (559) 0), (.str (s "/claim/cut.py") 1483)]), #[]⟩
noncomputable def o824 (P : Params) : Obj := ⟨(.type "function"), none, (.func (fn (hT 111) (s "_law_grown") (s "_law_grown") 3 [] .none .none .none (.str (s "law_likepanes_k42_whole_texts_of_trees") 1436) none (.ref 823) .none 0)), #[]⟩
noncomputable def o825 (P : Params) : Obj := ⟨(.type "tuple"), none, (.seq #[] 0), #[]⟩
noncomputable def o826 (P : Params) : Obj := ⟨.none, none, (.fields #[]), #[]⟩
noncomputable def o827 (P : Params) : Obj := ⟨.none, none, (.func (fn (hT 112) (s "_law_said") (s "_law_said") 0 [] .none .none .none .none none .none .none 0)), #[]⟩
noncomputable def o828 (P : Params) : Obj := ⟨(.type "code"), none, (.fields #[(.str (s "_law_said") 1485), (.str (s "_law_said") 1486), (.str (s "/claim/cut.py") 1487), (.int (563) 0), (.int (1) 0), (.int (0) 0), (.int (0) 0), (.int (3) 0), (.ref 825), (.bool true), (.int (374) 0), (.ref 826), .none, .none, .none, (.ref 827), (.int (1488) 0), (.int (563) 0), (.str (s "/claim/cut.py") 1489)]), #[]⟩
noncomputable def o829 (P : Params) : Obj := ⟨(.type "function"), none, (.func (fn (hT 112) (s "_law_said") (s "_law_said") 3 [] .none .none .none (.str (s "law_likepanes_k42_whole_texts_of_trees") 1436) none (.ref 828) .none 0)), #[]⟩
noncomputable def o830 (P : Params) : Obj := ⟨(.type "tuple"), none, (.seq #[] 0), #[]⟩
noncomputable def o831 (P : Params) : Obj := ⟨.none, none, (.fields #[]), #[]⟩
noncomputable def o832 (P : Params) : Obj := ⟨(.type "tuple"), none, (.seq #[(.str (s "_law_said_here") 1494), (.str (s "_law_pile") 1495), (.str (s "_law_many") 1496), (.str (s "_law_at") 1497), (.str (s "_law_sign") 1498), (.str (s "_law_before") 1499)] 0), #[]⟩
noncomputable def o833 (P : Params) : Obj := ⟨(.type "tuple"), none, (.seq #[] 0), #[]⟩
noncomputable def o834 (P : Params) : Obj := ⟨.none, none, (.func (fn (hT 113) (s "_law_reads") (s "_law_reads") 0 [] .none .none .none .none none .none .none 0)), #[]⟩
noncomputable def o835 (P : Params) : Obj := ⟨(.type "code"), none, (.fields #[(.str (s "_law_reads") 1491), (.str (s "_law_reads") 1492), (.str (s "/claim/cut.py") 1493), (.int (567) 0), (.int (1) 0), (.int (0) 0), (.int (0) 0), (.int (3) 0), (.ref 830), (.bool true), (.int (374) 0), (.ref 831), .none, (.ref 832), (.ref 833), (.ref 834), (.int (1500) 0), (.int (567) 0), (.str (s "/claim/cut.py") 1501)]), #[]⟩
noncomputable def o836 (P : Params) : Obj := ⟨(.type "function"), none, (.func (fn (hT 113) (s "_law_reads") (s "_law_reads") 3 [] .none .none .none (.str (s "law_likepanes_k42_whole_texts_of_trees") 1436) none (.ref 835) .none 0)), #[]⟩
noncomputable def o837 (P : Params) : Obj := ⟨(.type "tuple"), none, (.seq #[] 0), #[]⟩
noncomputable def o838 (P : Params) : Obj := ⟨.none, none, (.fields #[]), #[]⟩
noncomputable def o839 (P : Params) : Obj := ⟨(.type "tuple"), none, (.seq #[(.str (s "_law_well_here") 1506), (.str (s "_law_said_here") 1507), (.str (s "_law_way") 1508), (.str (s "_law_at") 1509), (.str (s "_law_sign") 1510)] 0), #[]⟩
noncomputable def o840 (P : Params) : Obj := ⟨(.type "tuple"), none, (.seq #[] 0), #[]⟩
noncomputable def o841 (P : Params) : Obj := ⟨.none, none, (.func (fn (hT 114) (s "_law_bent") (s "_law_bent") 0 [] .none .none .none .none none .none .none 0)), #[]⟩
noncomputable def o842 (P : Params) : Obj := ⟨(.type "code"), none, (.fields #[(.str (s "_law_bent") 1503), (.str (s "_law_bent") 1504), (.str (s "/claim/cut.py") 1505), (.int (587) 0), (.int (2) 0), (.int (0) 0), (.int (0) 0), (.int (3) 0), (.ref 837), (.bool true), (.int (374) 0), (.ref 838), .none, (.ref 839), (.ref 840), (.ref 841), (.int (1511) 0), (.int (587) 0), (.str (s "/claim/cut.py") 1512)]), #[]⟩
noncomputable def o843 (P : Params) : Obj := ⟨(.type "function"), none, (.func (fn (hT 114) (s "_law_bent") (s "_law_bent") 3 [] .none .none .none (.str (s "law_likepanes_k42_whole_texts_of_trees") 1436) none (.ref 842) .none 0)), #[]⟩
noncomputable def o844 (P : Params) : Obj := ⟨(.type "tuple"), none, (.seq #[] 0), #[]⟩
noncomputable def o845 (P : Params) : Obj := ⟨.none, none, (.fields #[]), #[]⟩
noncomputable def o846 (P : Params) : Obj := ⟨(.type "tuple"), none, (.seq #[(.str (s "_law_act_here") 1517), (.str (s "_law_back") 1518), (.str (s "e") 1519)] 0), #[]⟩
noncomputable def o847 (P : Params) : Obj := ⟨(.type "tuple"), none, (.seq #[] 0), #[]⟩
noncomputable def o848 (P : Params) : Obj := ⟨.none, none, (.func (fn (hT 115) (s "_law_caught") (s "_law_caught") 0 [] .none .none .none .none none .none .none 0)), #[]⟩
noncomputable def o849 (P : Params) : Obj := ⟨(.type "code"), none, (.fields #[(.str (s "_law_caught") 1514), (.str (s "_law_caught") 1515), (.str (s "/claim/cut.py") 1516), (.int (597) 0), (.int (1) 0), (.int (0) 0), (.int (0) 0), (.int (3) 0), (.ref 844), (.bool true), (.int (374) 0), (.ref 845), .none, (.ref 846), (.ref 847), (.ref 848), (.int (1520) 0), (.int (597) 0), (.str (s "/claim/cut.py") 1521)]), #[]⟩
noncomputable def o850 (P : Params) : Obj := ⟨(.type "function"), none, (.func (fn (hT 115) (s "_law_caught") (s "_law_caught") 3 [] .none .none .none (.str (s "law_likepanes_k42_whole_texts_of_trees") 1436) none (.ref 849) .none 0)), #[]⟩
noncomputable def o851 (P : Params) : Obj := ⟨(.type "tuple"), none, (.seq #[] 0), #[]⟩
noncomputable def o852 (P : Params) : Obj := ⟨.none, none, (.fields #[]), #[]⟩
noncomputable def o853 (P : Params) : Obj := ⟨(.type "tuple"), none, (.seq #[(.str (s "_law_well_here") 1526), (.str (s "_law_turn") 1527), (.str (s "_law_said_here") 1528), (.str (s "_law_again") 1529), (.str (s "_law_odd") 1530), (.str (s "_law_many") 1531), (.str (s "_law_came") 1532)] 0), #[]⟩
noncomputable def o854 (P : Params) : Obj := ⟨(.type "tuple"), none, (.seq #[(.str (s "_law_shape_here") 1533), (.str (s "_law_thing") 1534)] 0), #[]⟩
noncomputable def o855 (P : Params) : Obj := ⟨.none, none, (.func (fn (hT 116) (s "_law_right") (s "_law_right") 0 [] .none .none .none .none none .none .none 0)), #[]⟩
noncomputable def o856 (P : Params) : Obj := ⟨(.type "code"), none, (.fields #[(.str (s "_law_right") 1523), (.str (s "_law_right") 1524), (.str (s "/claim/cut.py") 1525), (.int (603) 0), (.int (1) 0), (.int (0) 0), (.int (0) 0), (.int (3) 0), (.ref 851), (.bool true), (.int (374) 0), (.ref 852), .none, (.ref 853), (.ref 854), (.ref 855), (.int (1535) 0), (.int (603) 0), (.str (s "/claim/cut.py") 1536)]), #[]⟩
noncomputable def o857 (P : Params) : Obj := ⟨(.type "function"), none, (.func (fn (hT 116) (s "_law_right") (s "_law_right") 3 [] .none .none .none (.str (s "law_likepanes_k42_whole_texts_of_trees") 1436) none (.ref 856) .none 0)), #[]⟩
noncomputable def o858 (P : Params) : Obj := ⟨(.type "tuple"), none, (.seq #[] 0), #[]⟩
noncomputable def o859 (P : Params) : Obj := ⟨.none, none, (.fields #[]), #[]⟩
noncomputable def o860 (P : Params) : Obj := ⟨.none, none, (.func (fn (hT 117) (s "law") (s "law") 0 [] .none .none .none .none none .none .none 0)), #[]⟩
noncomputable def o861 (P : Params) : Obj := ⟨(.type "code"), none, (.fields #[(.str (s "law") 1538), (.str (s "law") 1539), (.str (s "/claim/cut.py") 1540), (.int (624) 0), (.int (1) 0), (.int (0) 0), (.int (0) 0), (.int (3) 0), (.ref 858), (.bool true), (.int (374) 0), (.ref 859), .none, .none, .none, (.ref 860), (.int (1541) 0), (.int (624) 0), (.str (s "/claim/cut.py") 1542)]), #[]⟩
noncomputable def o862 (P : Params) : Obj := ⟨(.type "function"), none, (.func (fn (hT 117) (s "law") (s "law") 3 [] .none .none .none (.str (s "law_likepanes_k42_whole_texts_of_trees") 1436) none (.ref 861) .none 0)), #[]⟩
noncomputable def t7 (P : Params) : BT := (n (o0 P) (n (o1 P) (n (o3_7 P) (n (o7 P) (n (o15 P) (n (o31 P) (n (o63 P) (n (o127 P) (n (o255 P) (n (o511 P) z z) (n (o767 P) z z)) (n (o383 P) (n (o639 P) z z) z)) (n (o191 P) (n (o319 P) (n (o575 P) z z) (n (o831 P) z z)) (n (o447 P) (n (o703 P) z z) z))) (n (o95 P) (n (o159 P) (n (o287 P) (n (o543 P) z z) (n (o799 P) z z)) (n (o415 P) (n (o671 P) z z) z)) (n (o223 P) (n (o351 P) (n (o607 P) z z) z) (n (o479 P) (n (o735 P) z z) z)))) (n (o47 P) (n (o79 P) (n (o143 P) (n (o271 P) (n (o527 P) z z) (n (o783 P) z z)) (n (o399 P) (n (o655 P) z z) z)) (n (o207 P) (n (o335 P) (n (o591 P) z z) (n (o847 P) z z)) (n (o463 P) (n (o719 P) z z) z))) (n (o111 P) (n (o175 P) (n (o303 P) (n (o559 P) z z) (n (o815 P) z z)) (n (o431 P) (n (o687 P) z z) z)) (n (o239 P) (n (o367 P) (n (o623 P) z z) z) (n (o495 P) (n (o751 P) z z) z))))) (n (o23 P) (n (o39 P) (n (o71 P) (n (o135 P) (n (o263 P) (n (o519 P) z z) (n (o775 P) z z)) (n (o391 P) (n (o647 P) z z) z)) (n (o199 P) (n (o327 P) (n (o583 P) z z) (n (o839 P) z z)) (n (o455 P) (n (o711 P) z z) z))) (n (o103 P) (n (o167 P) (n (o295 P) (n (o551 P) z z) (n (o807 P) z z)) (n (o423 P) (n (o679 P) z z) z)) (n (o231 P) (n (o359 P) (n (o615 P) z z) z) (n (o487 P) (n (o743 P) z z) z)))) (n (o55 P) (n (o87 P) (n (o151 P) (n (o279 P) (n (o535 P) z z) (n (o791 P) z z)) (n (o407 P) (n (o663 P) z z) z)) (n (o215 P) (n (o343 P) (n (o599 P) z z) (n (o855 P) z z)) (n (o471 P) (n (o727 P) z z) z))) (n (o119 P) (n (o183 P) (n (o311 P) (n (o567 P) z z) (n (o823 P) z z)) (n (o439 P) (n (o695 P) z z) z)) (n (o247 P) (n (o375 P) (n (o631 P) z z) z) (n (o503 P) (n (o759 P) z z) z)))))) (n (o11 P) (n (o19 P) (n (o35 P) (n (o67 P) (n (o131 P) (n (o259 P) (n (o515 P) z z) (n (o771 P) z z)) (n (o387 P) (n (o643 P) z z) z)) (n (o195 P) (n (o323 P) (n (o579 P) z z) (n (o835 P) z z)) (n (o451 P) (n (o707 P) z z) z))) (n (o99 P) (n (o163 P) (n (o291 P) (n (o547 P) z z) (n (o803 P) z z)) (n (o419 P) (n (o675 P) z z) z)) (n (o227 P) (n (o355 P) (n (o611 P) z z) z) (n (o483 P) (n (o739 P) z z) z)))) (n (o51 P) (n (o83 P) (n (o147 P) (n (o275 P) (n (o531 P) z z) (n (o787 P) z z)) (n (o403 P) (n (o659 P) z z) z)) (n (o211 P) (n (o339 P) (n (o595 P) z z) (n (o851 P) z z)) (n (o467 P) (n (o723 P) z z) z))) (n (o115 P) (n (o179_3 P) (n (o307 P) (n (o563 P) z z) (n (o819 P) z z)) (n (o435 P) (n (o691 P) z z) z)) (n (o243 P) (n (o371 P) (n (o627 P) z z) z) (n (o499 P) (n (o755 P) z z) z))))) (n (o27 P) (n (o43 P) (n (o75 P) (n (o139 P) (n (o267 P) (n (o523 P) z z) (n (o779 P) z z)) (n (o395 P) (n (o651 P) z z) z)) (n (o203 P) (n (o331 P) (n (o587 P) z z) (n (o843 P) z z)) (n (o459 P) (n (o715 P) z z) z))) (n (o107 P) (n (o171 P) (n (o299 P) (n (o555 P) z z) (n (o811 P) z z)) (n (o427 P) (n (o683 P) z z) z)) (n (o235 P) (n (o363 P) (n (o619 P) z z) z) (n (o491 P) (n (o747 P) z z) z)))) (n (o59 P) (n (o91 P) (n (o155 P) (n (o283 P) (n (o539 P) z z) (n (o795 P) z z)) (n (o411 P) (n (o667 P) z z) z)) (n (o219 P) (n (o347 P) (n (o603 P) z z) (n (o859 P) z z)) (n (o475 P) (n (o731 P) z z) z))) (n (o123 P) (n (o187 P) (n (o315 P) (n (o571 P) z z) (n (o827 P) z z)) (n (o443 P) (n (o699 P) z z) z)) (n (o251 P) (n (o379 P) (n (o635 P) z z) z) (n (o507 P) (n (o763 P) z z) z))))))) (n (o5 P) (n (o9 P) (n (o17 P) (n (o33 P) (n (o65 P) (n (o129 P) (n (o257 P) (n (o513 P) z z) (n (o769 P) z z)) (n (o385 P) (n (o641 P) z z) z)) (n (o193 P) (n (o321 P) (n (o577 P) z z) (n (o833 P) z z)) (n (o449 P) (n (o705 P) z z) z))) (n (o97 P) (n (o161 P) (n (o289 P) (n (o545 P) z z) (n (o801 P) z z)) (n (o417 P) (n (o673 P) z z) z)) (n (o225 P) (n (o353 P) (n (o609 P) z z) z) (n (o481 P) (n (o737 P) z z) z)))) (n (o49 P) (n (o81 P) (n (o145 P) (n (o273 P) (n (o529 P) z z) (n (o785 P) z z)) (n (o401 P) (n (o657 P) z z) z)) (n (o209 P) (n (o337 P) (n (o593 P) z z) (n (o849 P) z z)) (n (o465 P) (n (o721 P) z z) z))) (n (o113 P) (n (o177 P) (n (o305 P) (n (o561 P) z z) (n (o817 P) z z)) (n (o433 P) (n (o689 P) z z) z)) (n (o241 P) (n (o369 P) (n (o625 P) z z) z) (n (o497 P) (n (o753 P) z z) z))))) (n (o25 P) (n (o41 P) (n (o73 P) (n (o137 P) (n (o265 P) (n (o521 P) z z) (n (o777 P) z z)) (n (o393 P) (n (o649 P) z z) z)) (n (o201 P) (n (o329 P) (n (o585 P) z z) (n (o841 P) z z)) (n (o457 P) (n (o713 P) z z) z))) (n (o105 P) (n (o169 P) (n (o297 P) (n (o553 P) z z) (n (o809 P) z z)) (n (o425 P) (n (o681 P) z z) z)) (n (o233 P) (n (o361 P) (n (o617 P) z z) z) (n (o489 P) (n (o745 P) z z) z)))) (n (o57 P) (n (o89 P) (n (o153 P) (n (o281 P) (n (o537 P) z z) (n (o793 P) z z)) (n (o409 P) (n (o665 P) z z) z)) (n (o217 P) (n (o345 P) (n (o601 P) z z) (n (o857 P) z z)) (n (o473 P) (n (o729 P) z z) z))) (n (o121 P) (n (o185 P) (n (o313 P) (n (o569 P) z z) (n (o825 P) z z)) (n (o441 P) (n (o697 P) z z) z)) (n (o249 P) (n (o377 P) (n (o633 P) z z) z) (n (o505 P) (n (o761 P) z z) z)))))) (n (o13 P) (n (o21 P) (n (o37 P) (n (o69 P) (n (o133 P) (n (o261 P) (n (o517 P) z z) (n (o773 P) z z)) (n (o389 P) (n (o645 P) z z) z)) (n (o197 P) (n (o325 P) (n (o581 P) z z) (n (o837 P) z z)) (n (o453 P) (n (o709 P) z z) z))) (n (o101 P) (n (o165 P) (n (o293 P) (n (o549 P) z z) (n (o805 P) z z)) (n (o421 P) (n (o677 P) z z) z)) (n (o229 P) (n (o357 P) (n (o613 P) z z) z) (n (o485 P) (n (o741 P) z z) z)))) (n (o53 P) (n (o85 P) (n (o149 P) (n (o277 P) (n (o533 P) z z) (n (o789 P) z z)) (n (o405 P) (n (o661 P) z z) z)) (n (o213 P) (n (o341 P) (n (o597 P) z z) (n (o853 P) z z)) (n (o469 P) (n (o725 P) z z) z))) (n (o117 P) (n (o181 P) (n (o309 P) (n (o565 P) z z) (n (o821 P) z z)) (n (o437 P) (n (o693 P) z z) z)) (n (o245 P) (n (o373 P) (n (o629 P) z z) z) (n (o501 P) (n (o757 P) z z) z))))) (n (o29 P) (n (o45 P) (n (o77 P) (n (o141 P) (n (o269 P) (n (o525 P) z z) (n (o781 P) z z)) (n (o397 P) (n (o653 P) z z) z)) (n (o205 P) (n (o333 P) (n (o589 P) z z) (n (o845 P) z z)) (n (o461 P) (n (o717 P) z z) z))) (n (o109 P) (n (o173 P) (n (o301 P) (n (o557 P) z z) (n (o813 P) z z)) (n (o429 P) (n (o685 P) z z) z)) (n (o237 P) (n (o365 P) (n (o621 P) z z) z) (n (o493 P) (n (o749 P) z z) z)))) (n (o61 P) (n (o93 P) (n (o157 P) (n (o285 P) (n (o541 P) z z) (n (o797 P) z z)) (n (o413 P) (n (o669 P) z z) z)) (n (o221 P) (n (o349 P) (n (o605 P) z z) (n (o861 P) z z)) (n (o477 P) (n (o733 P) z z) z))) (n (o125 P) (n (o189 P) (n (o317 P) (n (o573 P) z z) (n (o829 P) z z)) (n (o445 P) (n (o701 P) z z) z)) (n (o253 P) (n (o381 P) (n (o637 P) z z) z) (n (o509 P) (n (o765 P) z z) z)))))))) (n (o2_2 P) (n (o4 P) (n (o8 P) (n (o16 P) (n (o32 P) (n (o64 P) (n (o128 P) (n (o256 P) (n (o512 P) z z) (n (o768 P) z z)) (n (o384 P) (n (o640 P) z z) z)) (n (o192 P) (n (o320 P) (n (o576 P) z z) (n (o832 P) z z)) (n (o448 P) (n (o704 P) z z) z))) (n (o96 P) (n (o160 P) (n (o288 P) (n (o544 P) z z) (n (o800 P) z z)) (n (o416 P) (n (o672 P) z z) z)) (n (o224 P) (n (o352 P) (n (o608 P) z z) z) (n (o480 P) (n (o736 P) z z) z)))) (n (o48 P) (n (o80 P) (n (o144 P) (n (o272 P) (n (o528 P) z z) (n (o784 P) z z)) (n (o400 P) (n (o656 P) z z) z)) (n (o208 P) (n (o336 P) (n (o592 P) z z) (n (o848 P) z z)) (n (o464 P) (n (o720 P) z z) z))) (n (o112 P) (n (o176 P) (n (o304 P) (n (o560 P) z z) (n (o816 P) z z)) (n (o432 P) (n (o688 P) z z) z)) (n (o240 P) (n (o368 P) (n (o624 P) z z) z) (n (o496 P) (n (o752 P) z z) z))))) (n (o24 P) (n (o40_7 P) (n (o72 P) (n (o136 P) (n (o264 P) (n (o520 P) z z) (n (o776 P) z z)) (n (o392 P) (n (o648 P) z z) z)) (n (o200 P) (n (o328 P) (n (o584 P) z z) (n (o840 P) z z)) (n (o456 P) (n (o712 P) z z) z))) (n (o104 P) (n (o168 P) (n (o296 P) (n (o552 P) z z) (n (o808 P) z z)) (n (o424 P) (n (o680 P) z z) z)) (n (o232 P) (n (o360 P) (n (o616 P) z z) z) (n (o488 P) (n (o744 P) z z) z)))) (n (o56 P) (n (o88 P) (n (o152 P) (n (o280 P) (n (o536 P) z z) (n (o792 P) z z)) (n (o408 P) (n (o664 P) z z) z)) (n (o216 P) (n (o344 P) (n (o600 P) z z) (n (o856 P) z z)) (n (o472 P) (n (o728 P) z z) z))) (n (o120 P) (n (o184 P) (n (o312 P) (n (o568 P) z z) (n (o824 P) z z)) (n (o440 P) (n (o696 P) z z) z)) (n (o248 P) (n (o376 P) (n (o632 P) z z) z) (n (o504 P) (n (o760 P) z z) z)))))) (n (o12_0 P) (n (o20 P) (n (o36 P) (n (o68 P) (n (o132 P) (n (o260 P) (n (o516 P) z z) (n (o772 P) z z)) (n (o388 P) (n (o644 P) z z) z)) (n (o196 P) (n (o324 P) (n (o580 P) z z) (n (o836 P) z z)) (n (o452 P) (n (o708 P) z z) z))) (n (o100 P) (n (o164 P) (n (o292 P) (n (o548 P) z z) (n (o804 P) z z)) (n (o420 P) (n (o676 P) z z) z)) (n (o228 P) (n (o356 P) (n (o612 P) z z) z) (n (o484 P) (n (o740 P) z z) z)))) (n (o52_2 P) (n (o84 P) (n (o148 P) (n (o276 P) (n (o532 P) z z) (n (o788 P) z z)) (n (o404 P) (n (o660 P) z z) z)) (n (o212 P) (n (o340 P) (n (o596 P) z z) (n (o852 P) z z)) (n (o468 P) (n (o724 P) z z) z))) (n (o116 P) (n (o180 P) (n (o308 P) (n (o564 P) z z) (n (o820 P) z z)) (n (o436 P) (n (o692 P) z z) z)) (n (o244 P) (n (o372 P) (n (o628 P) z z) z) (n (o500 P) (n (o756 P) z z) z))))) (n (o28 P) (n (o44 P) (n (o76 P) (n (o140 P) (n (o268 P) (n (o524 P) z z) (n (o780 P) z z)) (n (o396 P) (n (o652 P) z z) z)) (n (o204 P) (n (o332 P) (n (o588 P) z z) (n (o844 P) z z)) (n (o460 P) (n (o716 P) z z) z))) (n (o108 P) (n (o172 P) (n (o300 P) (n (o556 P) z z) (n (o812 P) z z)) (n (o428 P) (n (o684 P) z z) z)) (n (o236 P) (n (o364 P) (n (o620 P) z z) z) (n (o492 P) (n (o748 P) z z) z)))) (n (o60 P) (n (o92 P) (n (o156 P) (n (o284 P) (n (o540 P) z z) (n (o796 P) z z)) (n (o412 P) (n (o668 P) z z) z)) (n (o220 P) (n (o348 P) (n (o604 P) z z) (n (o860 P) z z)) (n (o476 P) (n (o732 P) z z) z))) (n (o124 P) (n (o188 P) (n (o316 P) (n (o572 P) z z) (n (o828 P) z z)) (n (o444 P) (n (o700 P) z z) z)) (n (o252 P) (n (o380 P) (n (o636 P) z z) z) (n (o508 P) (n (o764 P) z z) z))))))) (n (o6 P) (n (o10 P) (n (o18 P) (n (o34 P) (n (o66 P) (n (o130 P) (n (o258 P) (n (o514 P) z z) (n (o770 P) z z)) (n (o386 P) (n (o642 P) z z) z)) (n (o194 P) (n (o322 P) (n (o578 P) z z) (n (o834 P) z z)) (n (o450 P) (n (o706 P) z z) z))) (n (o98 P) (n (o162 P) (n (o290 P) (n (o546 P) z z) (n (o802 P) z z)) (n (o418 P) (n (o674 P) z z) z)) (n (o226 P) (n (o354 P) (n (o610 P) z z) z) (n (o482 P) (n (o738 P) z z) z)))) (n (o50 P) (n (o82 P) (n (o146 P) (n (o274 P) (n (o530 P) z z) (n (o786 P) z z)) (n (o402 P) (n (o658 P) z z) z)) (n (o210 P) (n (o338 P) (n (o594 P) z z) (n (o850 P) z z)) (n (o466 P) (n (o722 P) z z) z))) (n (o114 P) (n (o178 P) (n (o306 P) (n (o562 P) z z) (n (o818 P) z z)) (n (o434 P) (n (o690 P) z z) z)) (n (o242 P) (n (o370 P) (n (o626 P) z z) z) (n (o498 P) (n (o754 P) z z) z))))) (n (o26 P) (n (o42 P) (n (o74 P) (n (o138 P) (n (o266 P) (n (o522 P) z z) (n (o778 P) z z)) (n (o394 P) (n (o650 P) z z) z)) (n (o202 P) (n (o330 P) (n (o586 P) z z) (n (o842 P) z z)) (n (o458 P) (n (o714 P) z z) z))) (n (o106 P) (n (o170 P) (n (o298 P) (n (o554 P) z z) (n (o810 P) z z)) (n (o426 P) (n (o682 P) z z) z)) (n (o234 P) (n (o362 P) (n (o618 P) z z) z) (n (o490 P) (n (o746 P) z z) z)))) (n (o58 P) (n (o90 P) (n (o154 P) (n (o282 P) (n (o538 P) z z) (n (o794 P) z z)) (n (o410 P) (n (o666 P) z z) z)) (n (o218 P) (n (o346 P) (n (o602 P) z z) (n (o858 P) z z)) (n (o474 P) (n (o730 P) z z) z))) (n (o122 P) (n (o186 P) (n (o314 P) (n (o570 P) z z) (n (o826 P) z z)) (n (o442 P) (n (o698 P) z z) z)) (n (o250 P) (n (o378 P) (n (o634 P) z z) z) (n (o506 P) (n (o762 P) z z) z)))))) (n (o14 P) (n (o22 P) (n (o38 P) (n (o70 P) (n (o134 P) (n (o262 P) (n (o518 P) z z) (n (o774 P) z z)) (n (o390 P) (n (o646 P) z z) z)) (n (o198 P) (n (o326 P) (n (o582 P) z z) (n (o838 P) z z)) (n (o454 P) (n (o710 P) z z) z))) (n (o102 P) (n (o166 P) (n (o294 P) (n (o550 P) z z) (n (o806 P) z z)) (n (o422 P) (n (o678 P) z z) z)) (n (o230 P) (n (o358 P) (n (o614 P) z z) z) (n (o486 P) (n (o742 P) z z) z)))) (n (o54 P) (n (o86 P) (n (o150 P) (n (o278 P) (n (o534 P) z z) (n (o790 P) z z)) (n (o406 P) (n (o662 P) z z) z)) (n (o214 P) (n (o342 P) (n (o598 P) z z) (n (o854 P) z z)) (n (o470 P) (n (o726 P) z z) z))) (n (o118 P) (n (o182 P) (n (o310 P) (n (o566 P) z z) (n (o822 P) z z)) (n (o438 P) (n (o694 P) z z) z)) (n (o246 P) (n (o374 P) (n (o630 P) z z) z) (n (o502 P) (n (o758 P) z z) z))))) (n (o30 P) (n (o46 P) (n (o78 P) (n (o142 P) (n (o270 P) (n (o526 P) z z) (n (o782 P) z z)) (n (o398 P) (n (o654 P) z z) z)) (n (o206 P) (n (o334 P) (n (o590 P) z z) (n (o846 P) z z)) (n (o462 P) (n (o718 P) z z) z))) (n (o110 P) (n (o174 P) (n (o302 P) (n (o558 P) z z) (n (o814 P) z z)) (n (o430 P) (n (o686 P) z z) z)) (n (o238 P) (n (o366 P) (n (o622 P) z z) z) (n (o494 P) (n (o750 P) z z) z)))) (n (o62 P) (n (o94 P) (n (o158 P) (n (o286 P) (n (o542 P) z z) (n (o798 P) z z)) (n (o414 P) (n (o670 P) z z) z)) (n (o222 P) (n (o350 P) (n (o606 P) z z) (n (o862 P) z z)) (n (o478 P) (n (o734 P) z z) z))) (n (o126 P) (n (o190 P) (n (o318 P) (n (o574 P) z z) (n (o830 P) z z)) (n (o446 P) (n (o702 P) z z) z)) (n (o254 P) (n (o382 P) (n (o638 P) z z) z) (n (o510 P) (n (o766 P) z z) z)))))))))
noncomputable def X7 (w : World) (os : OsState) : SharedT := ⟨t7 w.params, 863, {}, #[], {}, 1544, os⟩
noncomputable def tf (P : Params) : BT := (n (o0 P) (n (o1 P) (n (o3_7 P) (n (o7 P) (n (o15 P) (n (o31 P) (n (o63 P) (n (o127 P) (n (o255 P) (n (o511 P) z z) (n (o767 P) z z)) (n (o383 P) (n (o639 P) z z) z)) (n (o191 P) (n (o319 P) (n (o575 P) z z) (n (o831 P) z z)) (n (o447 P) (n (o703 P) z z) z))) (n (o95 P) (n (o159 P) (n (o287 P) (n (o543 P) z z) (n (o799 P) z z)) (n (o415 P) (n (o671 P) z z) z)) (n (o223 P) (n (o351 P) (n (o607 P) z z) z) (n (o479 P) (n (o735 P) z z) z)))) (n (o47 P) (n (o79 P) (n (o143 P) (n (o271 P) (n (o527 P) z z) (n (o783 P) z z)) (n (o399 P) (n (o655 P) z z) z)) (n (o207 P) (n (o335 P) (n (o591 P) z z) (n (o847 P) z z)) (n (o463 P) (n (o719 P) z z) z))) (n (o111 P) (n (o175 P) (n (o303 P) (n (o559 P) z z) (n (o815 P) z z)) (n (o431 P) (n (o687 P) z z) z)) (n (o239 P) (n (o367 P) (n (o623 P) z z) z) (n (o495 P) (n (o751 P) z z) z))))) (n (o23 P) (n (o39 P) (n (o71 P) (n (o135 P) (n (o263 P) (n (o519 P) z z) (n (o775 P) z z)) (n (o391 P) (n (o647 P) z z) z)) (n (o199 P) (n (o327 P) (n (o583 P) z z) (n (o839 P) z z)) (n (o455 P) (n (o711 P) z z) z))) (n (o103 P) (n (o167 P) (n (o295 P) (n (o551 P) z z) (n (o807 P) z z)) (n (o423 P) (n (o679 P) z z) z)) (n (o231 P) (n (o359 P) (n (o615 P) z z) z) (n (o487 P) (n (o743 P) z z) z)))) (n (o55 P) (n (o87 P) (n (o151 P) (n (o279 P) (n (o535 P) z z) (n (o791 P) z z)) (n (o407 P) (n (o663 P) z z) z)) (n (o215 P) (n (o343 P) (n (o599 P) z z) (n (o855 P) z z)) (n (o471 P) (n (o727 P) z z) z))) (n (o119 P) (n (o183 P) (n (o311 P) (n (o567 P) z z) (n (o823 P) z z)) (n (o439 P) (n (o695 P) z z) z)) (n (o247 P) (n (o375 P) (n (o631 P) z z) z) (n (o503 P) (n (o759 P) z z) z)))))) (n (o11 P) (n (o19 P) (n (o35 P) (n (o67 P) (n (o131 P) (n (o259 P) (n (o515 P) z z) (n (o771 P) z z)) (n (o387 P) (n (o643 P) z z) z)) (n (o195 P) (n (o323 P) (n (o579 P) z z) (n (o835 P) z z)) (n (o451 P) (n (o707 P) z z) z))) (n (o99 P) (n (o163 P) (n (o291 P) (n (o547 P) z z) (n (o803 P) z z)) (n (o419 P) (n (o675 P) z z) z)) (n (o227 P) (n (o355 P) (n (o611 P) z z) z) (n (o483 P) (n (o739 P) z z) z)))) (n (o51 P) (n (o83 P) (n (o147 P) (n (o275 P) (n (o531 P) z z) (n (o787 P) z z)) (n (o403 P) (n (o659 P) z z) z)) (n (o211 P) (n (o339 P) (n (o595 P) z z) (n (o851 P) z z)) (n (o467 P) (n (o723 P) z z) z))) (n (o115 P) (n (o179_3 P) (n (o307 P) (n (o563 P) z z) (n (o819 P) z z)) (n (o435 P) (n (o691 P) z z) z)) (n (o243 P) (n (o371 P) (n (o627 P) z z) z) (n (o499 P) (n (o755 P) z z) z))))) (n (o27 P) (n (o43 P) (n (o75 P) (n (o139 P) (n (o267 P) (n (o523 P) z z) (n (o779 P) z z)) (n (o395 P) (n (o651 P) z z) z)) (n (o203 P) (n (o331 P) (n (o587 P) z z) (n (o843 P) z z)) (n (o459 P) (n (o715 P) z z) z))) (n (o107 P) (n (o171 P) (n (o299 P) (n (o555 P) z z) (n (o811 P) z z)) (n (o427 P) (n (o683 P) z z) z)) (n (o235 P) (n (o363 P) (n (o619 P) z z) z) (n (o491 P) (n (o747 P) z z) z)))) (n (o59 P) (n (o91 P) (n (o155 P) (n (o283 P) (n (o539 P) z z) (n (o795 P) z z)) (n (o411 P) (n (o667 P) z z) z)) (n (o219 P) (n (o347 P) (n (o603 P) z z) (n (o859 P) z z)) (n (o475 P) (n (o731 P) z z) z))) (n (o123 P) (n (o187 P) (n (o315 P) (n (o571 P) z z) (n (o827 P) z z)) (n (o443 P) (n (o699 P) z z) z)) (n (o251 P) (n (o379 P) (n (o635 P) z z) z) (n (o507 P) (n (o763 P) z z) z))))))) (n (o5 P) (n (o9 P) (n (o17 P) (n (o33 P) (n (o65 P) (n (o129 P) (n (o257 P) (n (o513 P) z z) (n (o769 P) z z)) (n (o385 P) (n (o641 P) z z) z)) (n (o193 P) (n (o321 P) (n (o577 P) z z) (n (o833 P) z z)) (n (o449 P) (n (o705 P) z z) z))) (n (o97 P) (n (o161 P) (n (o289 P) (n (o545 P) z z) (n (o801 P) z z)) (n (o417 P) (n (o673 P) z z) z)) (n (o225 P) (n (o353 P) (n (o609 P) z z) z) (n (o481 P) (n (o737 P) z z) z)))) (n (o49 P) (n (o81 P) (n (o145 P) (n (o273 P) (n (o529 P) z z) (n (o785 P) z z)) (n (o401 P) (n (o657 P) z z) z)) (n (o209 P) (n (o337 P) (n (o593 P) z z) (n (o849 P) z z)) (n (o465 P) (n (o721 P) z z) z))) (n (o113 P) (n (o177 P) (n (o305 P) (n (o561 P) z z) (n (o817 P) z z)) (n (o433 P) (n (o689 P) z z) z)) (n (o241 P) (n (o369 P) (n (o625 P) z z) z) (n (o497 P) (n (o753 P) z z) z))))) (n (o25 P) (n (o41 P) (n (o73 P) (n (o137 P) (n (o265 P) (n (o521 P) z z) (n (o777 P) z z)) (n (o393 P) (n (o649 P) z z) z)) (n (o201 P) (n (o329 P) (n (o585 P) z z) (n (o841 P) z z)) (n (o457 P) (n (o713 P) z z) z))) (n (o105 P) (n (o169 P) (n (o297 P) (n (o553 P) z z) (n (o809 P) z z)) (n (o425 P) (n (o681 P) z z) z)) (n (o233 P) (n (o361 P) (n (o617 P) z z) z) (n (o489 P) (n (o745 P) z z) z)))) (n (o57 P) (n (o89 P) (n (o153 P) (n (o281 P) (n (o537 P) z z) (n (o793 P) z z)) (n (o409 P) (n (o665 P) z z) z)) (n (o217 P) (n (o345 P) (n (o601 P) z z) (n (o857 P) z z)) (n (o473 P) (n (o729 P) z z) z))) (n (o121 P) (n (o185 P) (n (o313 P) (n (o569 P) z z) (n (o825 P) z z)) (n (o441 P) (n (o697 P) z z) z)) (n (o249 P) (n (o377 P) (n (o633 P) z z) z) (n (o505 P) (n (o761 P) z z) z)))))) (n (o13 P) (n (o21 P) (n (o37 P) (n (o69 P) (n (o133 P) (n (o261 P) (n (o517 P) z z) (n (o773 P) z z)) (n (o389 P) (n (o645 P) z z) z)) (n (o197 P) (n (o325 P) (n (o581 P) z z) (n (o837 P) z z)) (n (o453 P) (n (o709 P) z z) z))) (n (o101 P) (n (o165 P) (n (o293 P) (n (o549 P) z z) (n (o805 P) z z)) (n (o421 P) (n (o677 P) z z) z)) (n (o229 P) (n (o357 P) (n (o613 P) z z) z) (n (o485 P) (n (o741 P) z z) z)))) (n (o53 P) (n (o85 P) (n (o149 P) (n (o277 P) (n (o533 P) z z) (n (o789 P) z z)) (n (o405 P) (n (o661 P) z z) z)) (n (o213 P) (n (o341 P) (n (o597 P) z z) (n (o853 P) z z)) (n (o469 P) (n (o725 P) z z) z))) (n (o117 P) (n (o181 P) (n (o309 P) (n (o565 P) z z) (n (o821 P) z z)) (n (o437 P) (n (o693 P) z z) z)) (n (o245 P) (n (o373 P) (n (o629 P) z z) z) (n (o501 P) (n (o757 P) z z) z))))) (n (o29 P) (n (o45 P) (n (o77 P) (n (o141 P) (n (o269 P) (n (o525 P) z z) (n (o781 P) z z)) (n (o397 P) (n (o653 P) z z) z)) (n (o205 P) (n (o333 P) (n (o589 P) z z) (n (o845 P) z z)) (n (o461 P) (n (o717 P) z z) z))) (n (o109 P) (n (o173 P) (n (o301 P) (n (o557 P) z z) (n (o813 P) z z)) (n (o429 P) (n (o685 P) z z) z)) (n (o237 P) (n (o365 P) (n (o621 P) z z) z) (n (o493 P) (n (o749 P) z z) z)))) (n (o61 P) (n (o93 P) (n (o157 P) (n (o285 P) (n (o541 P) z z) (n (o797 P) z z)) (n (o413 P) (n (o669 P) z z) z)) (n (o221 P) (n (o349 P) (n (o605 P) z z) (n (o861 P) z z)) (n (o477 P) (n (o733 P) z z) z))) (n (o125 P) (n (o189 P) (n (o317 P) (n (o573 P) z z) (n (o829 P) z z)) (n (o445 P) (n (o701 P) z z) z)) (n (o253 P) (n (o381 P) (n (o637 P) z z) z) (n (o509 P) (n (o765 P) z z) z)))))))) (n (o2_2 P) (n (o4 P) (n (o8 P) (n (o16 P) (n (o32 P) (n (o64 P) (n (o128 P) (n (o256 P) (n (o512 P) z z) (n (o768 P) z z)) (n (o384 P) (n (o640 P) z z) z)) (n (o192 P) (n (o320 P) (n (o576 P) z z) (n (o832 P) z z)) (n (o448 P) (n (o704 P) z z) z))) (n (o96 P) (n (o160 P) (n (o288 P) (n (o544 P) z z) (n (o800 P) z z)) (n (o416 P) (n (o672 P) z z) z)) (n (o224 P) (n (o352 P) (n (o608 P) z z) z) (n (o480 P) (n (o736 P) z z) z)))) (n (o48 P) (n (o80 P) (n (o144 P) (n (o272 P) (n (o528 P) z z) (n (o784 P) z z)) (n (o400 P) (n (o656 P) z z) z)) (n (o208 P) (n (o336 P) (n (o592 P) z z) (n (o848 P) z z)) (n (o464 P) (n (o720 P) z z) z))) (n (o112 P) (n (o176 P) (n (o304 P) (n (o560 P) z z) (n (o816 P) z z)) (n (o432 P) (n (o688 P) z z) z)) (n (o240 P) (n (o368 P) (n (o624 P) z z) z) (n (o496 P) (n (o752 P) z z) z))))) (n (o24 P) (n (o40_7 P) (n (o72 P) (n (o136 P) (n (o264 P) (n (o520 P) z z) (n (o776 P) z z)) (n (o392 P) (n (o648 P) z z) z)) (n (o200 P) (n (o328 P) (n (o584 P) z z) (n (o840 P) z z)) (n (o456 P) (n (o712 P) z z) z))) (n (o104 P) (n (o168 P) (n (o296 P) (n (o552 P) z z) (n (o808 P) z z)) (n (o424 P) (n (o680 P) z z) z)) (n (o232 P) (n (o360 P) (n (o616 P) z z) z) (n (o488 P) (n (o744 P) z z) z)))) (n (o56 P) (n (o88 P) (n (o152 P) (n (o280 P) (n (o536 P) z z) (n (o792 P) z z)) (n (o408 P) (n (o664 P) z z) z)) (n (o216 P) (n (o344 P) (n (o600 P) z z) (n (o856 P) z z)) (n (o472 P) (n (o728 P) z z) z))) (n (o120 P) (n (o184 P) (n (o312 P) (n (o568 P) z z) (n (o824 P) z z)) (n (o440 P) (n (o696 P) z z) z)) (n (o248 P) (n (o376 P) (n (o632 P) z z) z) (n (o504 P) (n (o760 P) z z) z)))))) (n (o12_0 P) (n (o20 P) (n (o36 P) (n (o68 P) (n (o132 P) (n (o260 P) (n (o516 P) z z) (n (o772 P) z z)) (n (o388 P) (n (o644 P) z z) z)) (n (o196 P) (n (o324 P) (n (o580 P) z z) (n (o836 P) z z)) (n (o452 P) (n (o708 P) z z) z))) (n (o100 P) (n (o164 P) (n (o292 P) (n (o548 P) z z) (n (o804 P) z z)) (n (o420 P) (n (o676 P) z z) z)) (n (o228 P) (n (o356 P) (n (o612 P) z z) z) (n (o484 P) (n (o740 P) z z) z)))) (n (o52_2 P) (n (o84 P) (n (o148 P) (n (o276 P) (n (o532 P) z z) (n (o788 P) z z)) (n (o404 P) (n (o660 P) z z) z)) (n (o212 P) (n (o340 P) (n (o596 P) z z) (n (o852 P) z z)) (n (o468 P) (n (o724 P) z z) z))) (n (o116 P) (n (o180 P) (n (o308 P) (n (o564 P) z z) (n (o820 P) z z)) (n (o436 P) (n (o692 P) z z) z)) (n (o244 P) (n (o372 P) (n (o628 P) z z) z) (n (o500 P) (n (o756 P) z z) z))))) (n (o28 P) (n (o44 P) (n (o76 P) (n (o140 P) (n (o268 P) (n (o524 P) z z) (n (o780 P) z z)) (n (o396 P) (n (o652 P) z z) z)) (n (o204 P) (n (o332 P) (n (o588 P) z z) (n (o844 P) z z)) (n (o460 P) (n (o716 P) z z) z))) (n (o108 P) (n (o172 P) (n (o300 P) (n (o556 P) z z) (n (o812 P) z z)) (n (o428 P) (n (o684 P) z z) z)) (n (o236 P) (n (o364 P) (n (o620 P) z z) z) (n (o492 P) (n (o748 P) z z) z)))) (n (o60 P) (n (o92 P) (n (o156 P) (n (o284 P) (n (o540 P) z z) (n (o796 P) z z)) (n (o412 P) (n (o668 P) z z) z)) (n (o220 P) (n (o348 P) (n (o604 P) z z) (n (o860 P) z z)) (n (o476 P) (n (o732 P) z z) z))) (n (o124 P) (n (o188 P) (n (o316 P) (n (o572 P) z z) (n (o828 P) z z)) (n (o444 P) (n (o700 P) z z) z)) (n (o252 P) (n (o380 P) (n (o636 P) z z) z) (n (o508 P) (n (o764 P) z z) z))))))) (n (o6 P) (n (o10 P) (n (o18 P) (n (o34 P) (n (o66 P) (n (o130 P) (n (o258 P) (n (o514 P) z z) (n (o770 P) z z)) (n (o386 P) (n (o642 P) z z) z)) (n (o194 P) (n (o322 P) (n (o578 P) z z) (n (o834 P) z z)) (n (o450 P) (n (o706 P) z z) z))) (n (o98 P) (n (o162 P) (n (o290 P) (n (o546 P) z z) (n (o802 P) z z)) (n (o418 P) (n (o674 P) z z) z)) (n (o226 P) (n (o354 P) (n (o610 P) z z) z) (n (o482 P) (n (o738 P) z z) z)))) (n (o50 P) (n (o82 P) (n (o146 P) (n (o274 P) (n (o530 P) z z) (n (o786 P) z z)) (n (o402 P) (n (o658 P) z z) z)) (n (o210 P) (n (o338 P) (n (o594 P) z z) (n (o850 P) z z)) (n (o466 P) (n (o722 P) z z) z))) (n (o114 P) (n (o178 P) (n (o306 P) (n (o562 P) z z) (n (o818 P) z z)) (n (o434 P) (n (o690 P) z z) z)) (n (o242 P) (n (o370 P) (n (o626 P) z z) z) (n (o498 P) (n (o754 P) z z) z))))) (n (o26 P) (n (o42 P) (n (o74 P) (n (o138 P) (n (o266 P) (n (o522 P) z z) (n (o778 P) z z)) (n (o394 P) (n (o650 P) z z) z)) (n (o202 P) (n (o330 P) (n (o586 P) z z) (n (o842 P) z z)) (n (o458 P) (n (o714 P) z z) z))) (n (o106 P) (n (o170 P) (n (o298 P) (n (o554 P) z z) (n (o810 P) z z)) (n (o426 P) (n (o682 P) z z) z)) (n (o234 P) (n (o362 P) (n (o618 P) z z) z) (n (o490 P) (n (o746 P) z z) z)))) (n (o58 P) (n (o90 P) (n (o154 P) (n (o282 P) (n (o538 P) z z) (n (o794 P) z z)) (n (o410 P) (n (o666 P) z z) z)) (n (o218 P) (n (o346 P) (n (o602 P) z z) (n (o858 P) z z)) (n (o474 P) (n (o730 P) z z) z))) (n (o122 P) (n (o186 P) (n (o314 P) (n (o570 P) z z) (n (o826 P) z z)) (n (o442 P) (n (o698 P) z z) z)) (n (o250 P) (n (o378 P) (n (o634 P) z z) z) (n (o506 P) (n (o762 P) z z) z)))))) (n (o14 P) (n (o22 P) (n (o38 P) (n (o70 P) (n (o134 P) (n (o262 P) (n (o518 P) z z) (n (o774 P) z z)) (n (o390 P) (n (o646 P) z z) z)) (n (o198 P) (n (o326 P) (n (o582 P) z z) (n (o838 P) z z)) (n (o454 P) (n (o710 P) z z) z))) (n (o102 P) (n (o166 P) (n (o294 P) (n (o550 P) z z) (n (o806 P) z z)) (n (o422 P) (n (o678 P) z z) z)) (n (o230 P) (n (o358 P) (n (o614 P) z z) z) (n (o486 P) (n (o742 P) z z) z)))) (n (o54 P) (n (o86 P) (n (o150 P) (n (o278 P) (n (o534 P) z z) (n (o790 P) z z)) (n (o406 P) (n (o662 P) z z) z)) (n (o214 P) (n (o342 P) (n (o598 P) z z) (n (o854 P) z z)) (n (o470 P) (n (o726 P) z z) z))) (n (o118 P) (n (o182 P) (n (o310 P) (n (o566 P) z z) (n (o822 P) z z)) (n (o438 P) (n (o694 P) z z) z)) (n (o246 P) (n (o374 P) (n (o630 P) z z) z) (n (o502 P) (n (o758 P) z z) z))))) (n (o30 P) (n (o46 P) (n (o78 P) (n (o142 P) (n (o270 P) (n (o526 P) z z) (n (o782 P) z z)) (n (o398 P) (n (o654 P) z z) z)) (n (o206 P) (n (o334 P) (n (o590 P) z z) (n (o846 P) z z)) (n (o462 P) (n (o718 P) z z) z))) (n (o110 P) (n (o174 P) (n (o302 P) (n (o558 P) z z) (n (o814 P) z z)) (n (o430 P) (n (o686 P) z z) z)) (n (o238 P) (n (o366 P) (n (o622 P) z z) z) (n (o494 P) (n (o750 P) z z) z)))) (n (o62 P) (n (o94 P) (n (o158 P) (n (o286 P) (n (o542 P) z z) (n (o798 P) z z)) (n (o414 P) (n (o670 P) z z) z)) (n (o222 P) (n (o350 P) (n (o606 P) z z) (n (o862 P) z z)) (n (o478 P) (n (o734 P) z z) z))) (n (o126 P) (n (o190 P) (n (o318 P) (n (o574 P) z z) (n (o830 P) z z)) (n (o446 P) (n (o702 P) z z) z)) (n (o254 P) (n (o382 P) (n (o638 P) z z) z) (n (o510 P) (n (o766 P) z z) z)))))))))
noncomputable def Xf (w : World) (os : OsState) : SharedT := ⟨tf w.params, 863, {}, #[], {}, 1544, os⟩
noncomputable def lf (P : Params) : List Obj := [o0 P, o1 P, o2_2 P, o3_7 P, o4 P, o5 P, o6 P, o7 P, o8 P, o9 P, o10 P, o11 P, o12_0 P, o13 P, o14 P, o15 P, o16 P, o17 P, o18 P, o19 P, o20 P, o21 P, o22 P, o23 P, o24 P, o25 P, o26 P, o27 P, o28 P, o29 P, o30 P, o31 P, o32 P, o33 P, o34 P, o35 P, o36 P, o37 P, o38 P, o39 P, o40_7 P, o41 P, o42 P, o43 P, o44 P, o45 P, o46 P, o47 P, o48 P, o49 P, o50 P, o51 P, o52_2 P, o53 P, o54 P, o55 P, o56 P, o57 P, o58 P, o59 P, o60 P, o61 P, o62 P, o63 P, o64 P, o65 P, o66 P, o67 P, o68 P, o69 P, o70 P, o71 P, o72 P, o73 P, o74 P, o75 P, o76 P, o77 P, o78 P, o79 P, o80 P, o81 P, o82 P, o83 P, o84 P, o85 P, o86 P, o87 P, o88 P, o89 P, o90 P, o91 P, o92 P, o93 P, o94 P, o95 P, o96 P, o97 P, o98 P, o99 P, o100 P, o101 P, o102 P, o103 P, o104 P, o105 P, o106 P, o107 P, o108 P, o109 P, o110 P, o111 P, o112 P, o113 P, o114 P, o115 P, o116 P, o117 P, o118 P, o119 P, o120 P, o121 P, o122 P, o123 P, o124 P, o125 P, o126 P, o127 P, o128 P, o129 P, o130 P, o131 P, o132 P, o133 P, o134 P, o135 P, o136 P, o137 P, o138 P, o139 P, o140 P, o141 P, o142 P, o143 P, o144 P, o145 P, o146 P, o147 P, o148 P, o149 P, o150 P, o151 P, o152 P, o153 P, o154 P, o155 P, o156 P, o157 P, o158 P, o159 P, o160 P, o161 P, o162 P, o163 P, o164 P, o165 P, o166 P, o167 P, o168 P, o169 P, o170 P, o171 P, o172 P, o173 P, o174 P, o175 P, o176 P, o177 P, o178 P, o179_3 P, o180 P, o181 P, o182 P, o183 P, o184 P, o185 P, o186 P, o187 P, o188 P, o189 P, o190 P, o191 P, o192 P, o193 P, o194 P, o195 P, o196 P, o197 P, o198 P, o199 P, o200 P, o201 P, o202 P, o203 P, o204 P, o205 P, o206 P, o207 P, o208 P, o209 P, o210 P, o211 P, o212 P, o213 P, o214 P, o215 P, o216 P, o217 P, o218 P, o219 P, o220 P, o221 P, o222 P, o223 P, o224 P, o225 P, o226 P, o227 P, o228 P, o229 P, o230 P, o231 P, o232 P, o233 P, o234 P, o235 P, o236 P, o237 P, o238 P, o239 P, o240 P, o241 P, o242 P, o243 P, o244 P, o245 P, o246 P, o247 P, o248 P, o249 P, o250 P, o251 P, o252 P, o253 P, o254 P, o255 P, o256 P, o257 P, o258 P, o259 P, o260 P, o261 P, o262 P, o263 P, o264 P, o265 P, o266 P, o267 P, o268 P, o269 P, o270 P, o271 P, o272 P, o273 P, o274 P, o275 P, o276 P, o277 P, o278 P, o279 P, o280 P, o281 P, o282 P, o283 P, o284 P, o285 P, o286 P, o287 P, o288 P, o289 P, o290 P, o291 P, o292 P, o293 P, o294 P, o295 P, o296 P, o297 P, o298 P, o299 P, o300 P, o301 P, o302 P, o303 P, o304 P, o305 P, o306 P, o307 P, o308 P, o309 P, o310 P, o311 P, o312 P, o313 P, o314 P, o315 P, o316 P, o317 P, o318 P, o319 P, o320 P, o321 P, o322 P, o323 P, o324 P, o325 P, o326 P, o327 P, o328 P, o329 P, o330 P, o331 P, o332 P, o333 P, o334 P, o335 P, o336 P, o337 P, o338 P, o339 P, o340 P, o341 P, o342 P, o343 P, o344 P, o345 P, o346 P, o347 P, o348 P, o349 P, o350 P, o351 P, o352 P, o353 P, o354 P, o355 P, o356 P, o357 P, o358 P, o359 P, o360 P, o361 P, o362 P, o363 P, o364 P, o365 P, o366 P, o367 P, o368 P, o369 P, o370 P, o371 P, o372 P, o373 P, o374 P, o375 P, o376 P, o377 P, o378 P, o379 P, o380 P, o381 P, o382 P, o383 P, o384 P, o385 P, o386 P, o387 P, o388 P, o389 P, o390 P, o391 P, o392 P, o393 P, o394 P, o395 P, o396 P, o397 P, o398 P, o399 P, o400 P, o401 P, o402 P, o403 P, o404 P, o405 P, o406 P, o407 P, o408 P, o409 P, o410 P, o411 P, o412 P, o413 P, o414 P, o415 P, o416 P, o417 P, o418 P, o419 P, o420 P, o421 P, o422 P, o423 P, o424 P, o425 P, o426 P, o427 P, o428 P, o429 P, o430 P, o431 P, o432 P, o433 P, o434 P, o435 P, o436 P, o437 P, o438 P, o439 P, o440 P, o441 P, o442 P, o443 P, o444 P, o445 P, o446 P, o447 P, o448 P, o449 P, o450 P, o451 P, o452 P, o453 P, o454 P, o455 P, o456 P, o457 P, o458 P, o459 P, o460 P, o461 P, o462 P, o463 P, o464 P, o465 P, o466 P, o467 P, o468 P, o469 P, o470 P, o471 P, o472 P, o473 P, o474 P, o475 P, o476 P, o477 P, o478 P, o479 P, o480 P, o481 P, o482 P, o483 P, o484 P, o485 P, o486 P, o487 P, o488 P, o489 P, o490 P, o491 P, o492 P, o493 P, o494 P, o495 P, o496 P, o497 P, o498 P, o499 P, o500 P, o501 P, o502 P, o503 P, o504 P, o505 P, o506 P, o507 P, o508 P, o509 P, o510 P, o511 P, o512 P, o513 P, o514 P, o515 P, o516 P, o517 P, o518 P, o519 P, o520 P, o521 P, o522 P, o523 P, o524 P, o525 P, o526 P, o527 P, o528 P, o529 P, o530 P, o531 P, o532 P, o533 P, o534 P, o535 P, o536 P, o537 P, o538 P, o539 P, o540 P, o541 P, o542 P, o543 P, o544 P, o545 P, o546 P, o547 P, o548 P, o549 P, o550 P, o551 P, o552 P, o553 P, o554 P, o555 P, o556 P, o557 P, o558 P, o559 P, o560 P, o561 P, o562 P, o563 P, o564 P, o565 P, o566 P, o567 P, o568 P, o569 P, o570 P, o571 P, o572 P, o573 P, o574 P, o575 P, o576 P, o577 P, o578 P, o579 P, o580 P, o581 P, o582 P, o583 P, o584 P, o585 P, o586 P, o587 P, o588 P, o589 P, o590 P, o591 P, o592 P, o593 P, o594 P, o595 P, o596 P, o597 P, o598 P, o599 P, o600 P, o601 P, o602 P, o603 P, o604 P, o605 P, o606 P, o607 P, o608 P, o609 P, o610 P, o611 P, o612 P, o613 P, o614 P, o615 P, o616 P, o617 P, o618 P, o619 P, o620 P, o621 P, o622 P, o623 P, o624 P, o625 P, o626 P, o627 P, o628 P, o629 P, o630 P, o631 P, o632 P, o633 P, o634 P, o635 P, o636 P, o637 P, o638 P, o639 P, o640 P, o641 P, o642 P, o643 P, o644 P, o645 P, o646 P, o647 P, o648 P, o649 P, o650 P, o651 P, o652 P, o653 P, o654 P, o655 P, o656 P, o657 P, o658 P, o659 P, o660 P, o661 P, o662 P, o663 P, o664 P, o665 P, o666 P, o667 P, o668 P, o669 P, o670 P, o671 P, o672 P, o673 P, o674 P, o675 P, o676 P, o677 P, o678 P, o679 P, o680 P, o681 P, o682 P, o683 P, o684 P, o685 P, o686 P, o687 P, o688 P, o689 P, o690 P, o691 P, o692 P, o693 P, o694 P, o695 P, o696 P, o697 P, o698 P, o699 P, o700 P, o701 P, o702 P, o703 P, o704 P, o705 P, o706 P, o707 P, o708 P, o709 P, o710 P, o711 P, o712 P, o713 P, o714 P, o715 P, o716 P, o717 P, o718 P, o719 P, o720 P, o721 P, o722 P, o723 P, o724 P, o725 P, o726 P, o727 P, o728 P, o729 P, o730 P, o731 P, o732 P, o733 P, o734 P, o735 P, o736 P, o737 P, o738 P, o739 P, o740 P, o741 P, o742 P, o743 P, o744 P, o745 P, o746 P, o747 P, o748 P, o749 P, o750 P, o751 P, o752 P, o753 P, o754 P, o755 P, o756 P, o757 P, o758 P, o759 P, o760 P, o761 P, o762 P, o763 P, o764 P, o765 P, o766 P, o767 P, o768 P, o769 P, o770 P, o771 P, o772 P, o773 P, o774 P, o775 P, o776 P, o777 P, o778 P, o779 P, o780 P, o781 P, o782 P, o783 P, o784 P, o785 P, o786 P, o787 P, o788 P, o789 P, o790 P, o791 P, o792 P, o793 P, o794 P, o795 P, o796 P, o797 P, o798 P, o799 P, o800 P, o801 P, o802 P, o803 P, o804 P, o805 P, o806 P, o807 P, o808 P, o809 P, o810 P, o811 P, o812 P, o813 P, o814 P, o815 P, o816 P, o817 P, o818 P, o819 P, o820 P, o821 P, o822 P, o823 P, o824 P, o825 P, o826 P, o827 P, o828 P, o829 P, o830 P, o831 P, o832 P, o833 P, o834 P, o835 P, o836 P, o837 P, o838 P, o839 P, o840 P, o841 P, o842 P, o843 P, o844 P, o845 P, o846 P, o847 P, o848 P, o849 P, o850 P, o851 P, o852 P, o853 P, o854 P, o855 P, o856 P, o857 P, o858 P, o859 P, o860 P, o861 P, o862 P]
noncomputable def Yf (w : World) (os : OsState) : Shared := ⟨⟨⟨lf w.params⟩, {}⟩, #[], {}, 1544, os⟩
noncomputable def K (P : Params) : Frag := [(2, o2_2 P), (3, o3_7 P), (43, o43 P), (50, o50 P), (51, o51 P), (52, o52_2 P), (53, o53 P), (56, o56 P), (63, o63 P), (65, o65 P), (66, o66 P), (68, o68 P), (69, o69 P), (70, o70 P), (71, o71 P), (72, o72 P), (75, o75 P), (82, o82 P), (84, o84 P), (85, o85 P), (87, o87 P), (88, o88 P), (89, o89 P), (90, o90 P), (91, o91 P), (94, o94 P), (101, o101 P), (103, o103 P), (104, o104 P), (106, o106 P), (107, o107 P), (108, o108 P), (109, o109 P), (110, o110 P), (113, o113 P), (120, o120 P), (122, o122 P), (123, o123 P), (125, o125 P), (126, o126 P), (127, o127 P), (128, o128 P), (129, o129 P), (132, o132 P), (139, o139 P), (141, o141 P), (142, o142 P), (144, o144 P), (145, o145 P), (146, o146 P), (147, o147 P), (148, o148 P), (151, o151 P), (158, o158 P), (160, o160 P), (161, o161 P), (163, o163 P), (164, o164 P), (165, o165 P), (166, o166 P), (167, o167 P), (170, o170 P), (177, o177 P), (178, o178 P), (179, o179_3 P), (180, o180 P), (183, o183 P), (190, o190 P), (192, o192 P), (193, o193 P), (195, o195 P), (196, o196 P), (197, o197 P), (198, o198 P), (199, o199 P), (202, o202 P), (209, o209 P), (211, o211 P), (212, o212 P), (214, o214 P), (215, o215 P), (216, o216 P), (217, o217 P), (218, o218 P), (221, o221 P), (228, o228 P), (230, o230 P), (231, o231 P), (233, o233 P), (234, o234 P), (235, o235 P), (236, o236 P), (237, o237 P), (240, o240 P), (242, o242 P), (243, o243 P), (245, o245 P), (246, o246 P), (247, o247 P), (250, o250 P), (251, o251 P), (252, o252 P), (254, o254 P), (255, o255 P), (257, o257 P), (258, o258 P), (259, o259 P), (261, o261 P), (262, o262 P), (264, o264 P), (265, o265 P), (266, o266 P), (268, o268 P), (269, o269 P), (271, o271 P), (272, o272 P), (273, o273 P), (275, o275 P), (276, o276 P), (278, o278 P), (279, o279 P), (280, o280 P), (282, o282 P), (283, o283 P), (285, o285 P), (286, o286 P), (287, o287 P), (289, o289 P), (290, o290 P), (292, o292 P), (293, o293 P), (294, o294 P), (297, o297 P), (298, o298 P), (299, o299 P), (302, o302 P), (303, o303 P), (304, o304 P), (307, o307 P), (308, o308 P), (309, o309 P), (311, o311 P), (312, o312 P), (314, o314 P), (315, o315 P), (316, o316 P), (318, o318 P), (319, o319 P), (321, o321 P), (322, o322 P), (323, o323 P), (325, o325 P), (326, o326 P), (328, o328 P), (329, o329 P), (330, o330 P), (332, o332 P), (333, o333 P), (335, o335 P), (336, o336 P), (337, o337 P), (339, o339 P), (340, o340 P), (342, o342 P), (343, o343 P), (344, o344 P), (346, o346 P), (347, o347 P), (349, o349 P), (350, o350 P), (351, o351 P), (354, o354 P), (355, o355 P), (356, o356 P), (359, o359 P), (360, o360 P), (361, o361 P), (363, o363 P), (364, o364 P), (366, o366 P), (367, o367 P), (368, o368 P), (370, o370 P), (371, o371 P), (373, o373 P), (374, o374 P), (375, o375 P), (377, o377 P), (378, o378 P), (380, o380 P), (381, o381 P), (382, o382 P), (384, o384 P), (385, o385 P), (387, o387 P), (388, o388 P), (389, o389 P), (391, o391 P), (392, o392 P), (394, o394 P), (395, o395 P), (396, o396 P), (398, o398 P), (399, o399 P), (401, o401 P), (402, o402 P), (403, o403 P), (405, o405 P), (406, o406 P), (408, o408 P), (409, o409 P), (410, o410 P), (412, o412 P), (413, o413 P), (415, o415 P), (416, o416 P), (417, o417 P), (419, o419 P), (420, o420 P), (422, o422 P), (423, o423 P), (424, o424 P), (426, o426 P), (427, o427 P), (429, o429 P), (430, o430 P), (431, o431 P), (433, o433 P), (434, o434 P), (436, o436 P), (437, o437 P), (438, o438 P), (441, o441 P), (442, o442 P), (443, o443 P), (445, o445 P), (446, o446 P), (448, o448 P), (449, o449 P), (450, o450 P), (452, o452 P), (453, o453 P), (455, o455 P), (456, o456 P), (457, o457 P), (459, o459 P), (460, o460 P), (462, o462 P), (463, o463 P), (464, o464 P), (467, o467 P), (468, o468 P), (476, o476 P), (478, o478 P), (479, o479 P), (481, o481 P), (482, o482 P), (483, o483 P), (486, o486 P), (487, o487 P), (488, o488 P), (489, o489 P), (490, o490 P), (491, o491 P), (493, o493 P), (494, o494 P), (496, o496 P), (497, o497 P), (498, o498 P), (499, o499 P), (501, o501 P), (502, o502 P), (504, o504 P), (505, o505 P), (506, o506 P), (507, o507 P), (509, o509 P), (510, o510 P), (512, o512 P), (513, o513 P), (514, o514 P), (515, o515 P), (517, o517 P), (518, o518 P), (520, o520 P), (521, o521 P), (522, o522 P), (523, o523 P), (525, o525 P), (526, o526 P), (528, o528 P), (529, o529 P), (530, o530 P), (532, o532 P), (533, o533 P), (535, o535 P), (536, o536 P), (537, o537 P), (539, o539 P), (540, o540 P), (542, o542 P), (543, o543 P), (544, o544 P), (545, o545 P), (546, o546 P), (547, o547 P), (548, o548 P), (551, o551 P), (553, o553 P), (554, o554 P), (556, o556 P), (557, o557 P), (558, o558 P), (560, o560 P), (561, o561 P), (563, o563 P), (564, o564 P), (565, o565 P), (567, o567 P), (568, o568 P), (570, o570 P), (571, o571 P), (572, o572 P), (574, o574 P), (575, o575 P), (577, o577 P), (578, o578 P), (579, o579 P), (581, o581 P), (582, o582 P), (584, o584 P), (585, o585 P), (586, o586 P), (589, o589 P), (590, o590 P), (591, o591 P), (593, o593 P), (594, o594 P), (596, o596 P), (597, o597 P), (598, o598 P), (601, o601 P), (602, o602 P), (603, o603 P), (605, o605 P), (606, o606 P), (608, o608 P), (609, o609 P), (610, o610 P), (612, o612 P), (613, o613 P), (615, o615 P), (616, o616 P), (617, o617 P), (619, o619 P), (620, o620 P), (622, o622 P), (623, o623 P), (624, o624 P), (626, o626 P), (627, o627 P), (629, o629 P), (630, o630 P), (631, o631 P), (633, o633 P), (634, o634 P), (636, o636 P), (637, o637 P), (638, o638 P), (640, o640 P), (641, o641 P), (643, o643 P), (644, o644 P), (645, o645 P), (647, o647 P), (648, o648 P), (650, o650 P), (651, o651 P), (652, o652 P), (655, o655 P), (656, o656 P), (657, o657 P), (659, o659 P), (660, o660 P), (662, o662 P), (663, o663 P), (664, o664 P), (667, o667 P), (668, o668 P), (669, o669 P), (670, o670 P), (672, o672 P), (673, o673 P), (675, o675 P), (676, o676 P), (677, o677 P), (679, o679 P), (680, o680 P), (682, o682 P), (683, o683 P), (684, o684 P), (686, o686 P), (687, o687 P), (689, o689 P), (690, o690 P), (691, o691 P), (693, o693 P), (694, o694 P), (696, o696 P), (697, o697 P), (698, o698 P), (700, o700 P), (701, o701 P), (703, o703 P), (704, o704 P), (705, o705 P), (707, o707 P), (708, o708 P), (710, o710 P), (711, o711 P), (712, o712 P), (715, o715 P), (716, o716 P), (717, o717 P), (719, o719 P), (720, o720 P), (722, o722 P), (723, o723 P), (724, o724 P), (727, o727 P), (728, o728 P), (729, o729 P), (731, o731 P), (732, o732 P), (734, o734 P), (735, o735 P), (736, o736 P), (738, o738 P), (739, o739 P), (741, o741 P), (742, o742 P), (743, o743 P), (745, o745 P), (746, o746 P), (748, o748 P), (749, o749 P), (750, o750 P), (752, o752 P), (753, o753 P), (755, o755 P), (756, o756 P), (757, o757 P), (759, o759 P), (760, o760 P), (762, o762 P), (763, o763 P), (764, o764 P), (766, o766 P), (767, o767 P), (769, o769 P), (770, o770 P), (771, o771 P), (773, o773 P), (774, o774 P), (776, o776 P), (777, o777 P), (778, o778 P), (780, o780 P), (781, o781 P), (783, o783 P), (784, o784 P), (785, o785 P), (787, o787 P), (788, o788 P), (790, o790 P), (791, o791 P), (792, o792 P), (794, o794 P), (795, o795 P), (797, o797 P), (798, o798 P), (799, o799 P), (801, o801 P), (802, o802 P), (804, o804 P), (805, o805 P), (806, o806 P), (808, o808 P), (809, o809 P), (811, o811 P), (812, o812 P), (813, o813 P), (815, o815 P), (816, o816 P), (818, o818 P), (819, o819 P), (820, o820 P), (823, o823 P), (824, o824 P), (825, o825 P), (828, o828 P), (829, o829 P), (830, o830 P), (832, o832 P), (833, o833 P), (835, o835 P), (836, o836 P), (837, o837 P), (839, o839 P), (840, o840 P), (842, o842 P), (843, o843 P), (844, o844 P), (846, o846 P), (847, o847 P), (849, o849 P), (850, o850 P), (851, o851 P), (853, o853 P), (854, o854 P), (856, o856 P), (857, o857 P), (858, o858 P), (861, o861 P), (862, o862 P)]
noncomputable def as : List Addr := [2, 3, 43, 50, 51, 52, 53, 56, 63, 65, 66, 68, 69, 70, 71, 72, 75, 82, 84, 85, 87, 88, 89, 90, 91, 94, 101, 103, 104, 106, 107, 108, 109, 110, 113, 120, 122, 123, 125, 126, 127, 128, 129, 132, 139, 141, 142, 144, 145, 146, 147, 148, 151, 158, 160, 161, 163, 164, 165, 166, 167, 170, 177, 178, 179, 180, 183, 190, 192, 193, 195, 196, 197, 198, 199, 202, 209, 211, 212, 214, 215, 216, 217, 218, 221, 228, 230, 231, 233, 234, 235, 236, 237, 240, 242, 243, 245, 246, 247, 250, 251, 252, 254, 255, 257, 258, 259, 261, 262, 264, 265, 266, 268, 269, 271, 272, 273, 275, 276, 278, 279, 280, 282, 283, 285, 286, 287, 289, 290, 292, 293, 294, 297, 298, 299, 302, 303, 304, 307, 308, 309, 311, 312, 314, 315, 316, 318, 319, 321, 322, 323, 325, 326, 328, 329, 330, 332, 333, 335, 336, 337, 339, 340, 342, 343, 344, 346, 347, 349, 350, 351, 354, 355, 356, 359, 360, 361, 363, 364, 366, 367, 368, 370, 371, 373, 374, 375, 377, 378, 380, 381, 382, 384, 385, 387, 388, 389, 391, 392, 394, 395, 396, 398, 399, 401, 402, 403, 405, 406, 408, 409, 410, 412, 413, 415, 416, 417, 419, 420, 422, 423, 424, 426, 427, 429, 430, 431, 433, 434, 436, 437, 438, 441, 442, 443, 445, 446, 448, 449, 450, 452, 453, 455, 456, 457, 459, 460, 462, 463, 464, 467, 468, 476, 478, 479, 481, 482, 483, 486, 487, 488, 489, 490, 491, 493, 494, 496, 497, 498, 499, 501, 502, 504, 505, 506, 507, 509, 510, 512, 513, 514, 515, 517, 518, 520, 521, 522, 523, 525, 526, 528, 529, 530, 532, 533, 535, 536, 537, 539, 540, 542, 543, 544, 545, 546, 547, 548, 551, 553, 554, 556, 557, 558, 560, 561, 563, 564, 565, 567, 568, 570, 571, 572, 574, 575, 577, 578, 579, 581, 582, 584, 585, 586, 589, 590, 591, 593, 594, 596, 597, 598, 601, 602, 603, 605, 606, 608, 609, 610, 612, 613, 615, 616, 617, 619, 620, 622, 623, 624, 626, 627, 629, 630, 631, 633, 634, 636, 637, 638, 640, 641, 643, 644, 645, 647, 648, 650, 651, 652, 655, 656, 657, 659, 660, 662, 663, 664, 667, 668, 669, 670, 672, 673, 675, 676, 677, 679, 680, 682, 683, 684, 686, 687, 689, 690, 691, 693, 694, 696, 697, 698, 700, 701, 703, 704, 705, 707, 708, 710, 711, 712, 715, 716, 717, 719, 720, 722, 723, 724, 727, 728, 729, 731, 732, 734, 735, 736, 738, 739, 741, 742, 743, 745, 746, 748, 749, 750, 752, 753, 755, 756, 757, 759, 760, 762, 763, 764, 766, 767, 769, 770, 771, 773, 774, 776, 777, 778, 780, 781, 783, 784, 785, 787, 788, 790, 791, 792, 794, 795, 797, 798, 799, 801, 802, 804, 805, 806, 808, 809, 811, 812, 813, 815, 816, 818, 819, 820, 823, 824, 825, 828, 829, 830, 832, 833, 835, 836, 837, 839, 840, 842, 843, 844, 846, 847, 849, 850, 851, 853, 854, 856, 857, 858, 861, 862]

/-! ### the run -/
noncomputable def q : Program := view T ([0, 2, 3, 4, 5, 6, 7, 8, 9, 10, 11, 12, 13, 14, 15, 16, 18, 19, 20, 21, 22, 23, 25, 26, 27, 28, 29, 30, 31, 32, 33, 34, 36, 37, 38, 39, 40, 41, 42, 43] ++ [44, 45, 46, 47, 49, 50, 51, 52, 53, 54, 55, 56, 58, 59, 60, 61, 62, 63, 64, 65, 66, 68, 69, 70, 71, 72, 73, 74, 75, 76, 77, 78, 79, 81, 82, 83, 84, 85, 86, 87] ++ [88, 89, 90, 91, 92, 94, 95, 97, 98, 99, 100, 101, 102, 103, 104, 105, 107, 108, 109, 110, 111, 112, 113, 114, 115, 116, 117])
noncomputable def loose : List PySem.Str := [s "Shape", s "CLOSING"]
theorem ek : ∀ P, as = (K P).map (·.1) := fun _ => by kernel_rfl
noncomputable abbrev hk : Hook := kHook K as ek
noncomputable def ob (s : SharedT) : hk.α := as.map (HeadRun.getT s)
theorem ob_eq (s : SharedT) : ob s = hk.obs s.abs := List.map_congr_left fun a _ => HeadRun.getT_eq s a
noncomputable def ann : Option Value := (some (.ref 6))
noncomputable def B : List Stmt := behindTheImports T
noncomputable def E : Env := { scope := T.main.scope, locals := mainNs, globals := mainNs, cells := [], code := (.ref 41), frame := some 42 }
noncomputable abbrev C : Code := .body B E
noncomputable abbrev F : List Frame := [topFrame ⟨0, 0, 0, 0⟩]
noncomputable def os0 : OsState := (start (opening T)).1.os
noncomputable abbrev Xt (s : Shared) : Bool := xlAt q [] s && recOk R.toRowW.records s
theorem e_imp (w : World) : HeadRun.impF (stQ (opening T) w) 1121 (HeadRun.startT (opening T)) (start (opening T)).2 = some (Xi w os0) := by kernel_rfl
theorem a_i (w : World) (os : OsState) : (Xi w os).abs = Yi w os := by kernel_rfl
theorem a_0 (w : World) (os : OsState) : (X0 w os).abs = Y0 w os := by kernel_rfl
theorem e_fence (w : World) : HeadRun.fenceQ T (Yi w os0) = some (Y0 w os0) := by kernel_rfl
theorem e_ns (w : World) (os : OsState) : ((Y0 w os).heap.isNs mainGlobals && (Y0 w os).gens.size == 0) = true := by kernel_rfl
theorem e_ann (w : World) (os : OsState) : (Y0 w os).heap.nsMap mainGlobals "__annotations__" = ann := by kernel_rfl
theorem e_pre (w : World) (os : OsState) : goK (stQ T w) (okQ 39 ann) 12 (X0 w os) (topStub T) = some (Xa w os, ⟨HeadRun.denQ HeadRun.tabQ C, C, ⟨0, 0, 0, 0⟩, F⟩) := by kernel_rfl
theorem e_block (w : World) (os : OsState) : segF (stQ T w) (okQ 39 ann) 1 (Xa w os) ⟨(blockQ B E).wrap (fun _ => doneF .next) deadEnd id id, C, ⟨0, 0, 0, 0⟩, F⟩ = some (.next, Xb w os, C, ⟨0, 0, 0, 0⟩) := by kernel_rfl
noncomputable def L1 : List Stmt := [hT 1, hT 2, hT 3, hT 4, hT 5]
noncomputable abbrev S1 (w : World) (os : OsState) : Prop := segF (stQ T w) (okQ 39 ann) 931 (Xb w os) ⟨(execsQ L1 E).wrap doneF deadEnd id id, C, ⟨0, 0, 0, 0⟩, F⟩ = some (.next, X1 w os, C, ⟨15, 0, 19, 26⟩)
theorem e1 (w : World) (os : OsState) : S1 w os := by kernel_rfl
noncomputable def L2 : List Stmt := [hT 6, hT 7, hT 8, hT 9]
noncomputable abbrev S2 (w : World) (os : OsState) : Prop := segF (stQ T w) (okQ 39 ann) 932 (X1 w os) ⟨(execsQ L2 E).wrap doneF deadEnd id id, C, ⟨15, 0, 19, 26⟩, F⟩ = some (.next, X2 w os, C, ⟨35, 0, 36, 8⟩)
theorem e2 (w : World) (os : OsState) : S2 w os := by kernel_rfl
noncomputable def L3 : List Stmt := [hT 10, hT 11, hT 12, hT 13, hT 14, hT 15, hT 16, hT 17, hT 18, hT 19, hT 20, hT 21, hT 22, hT 23, hT 24, hT 25]
noncomputable abbrev S3 (w : World) (os : OsState) : Prop := segF (stQ T w) (okQ 39 ann) 993 (X2 w os) ⟨(execsQ L3 E).wrap doneF deadEnd id id, C, ⟨35, 0, 36, 8⟩, F⟩ = some (.next, X3 w os, C, ⟨75, 0, 79, 30⟩)
theorem e3 (w : World) (os : OsState) : S3 w os := by kernel_rfl
noncomputable def L4 : List Stmt := [hT 26, hT 27, hT 28, hT 29, hT 30, hT 31, hT 32, hT 33, hT 34, hT 35, hT 36, hT 37, hT 38, hT 39, hT 40, hT 41, hT 42, hT 43, hT 44, hT 45, hT 46, hT 47, hT 48, hT 49, hT 50, hT 51, hT 52, hT 53, hT 54, hT 55, hT 56, hT 57]
noncomputable abbrev S4 (w : World) (os : OsState) : Prop := segF (stQ T w) (okQ 39 ann) 910 (X3 w os) ⟨(execsQ L4 E).wrap doneF deadEnd id id, C, ⟨75, 0, 79, 30⟩, F⟩ = some (.next, X4 w os, C, ⟨260, 0, 260, 8⟩)
theorem e4 (w : World) (os : OsState) : S4 w os := by kernel_rfl
noncomputable def L5 : List Stmt := [hT 58, hT 59, hT 60, hT 61, hT 62, hT 63]
noncomputable abbrev S5 (w : World) (os : OsState) : Prop := segF (stQ T w) (okQ 39 ann) 1000 (X4 w os) ⟨(execsQ L5 E).wrap doneF deadEnd id id, C, ⟨260, 0, 260, 8⟩, F⟩ = some (.next, X5 w os, C, ⟨331, 0, 337, 39⟩)
theorem e5 (w : World) (os : OsState) : S5 w os := by kernel_rfl
noncomputable def L6 : List Stmt := [hT 64, hT 65, hT 66, hT 67, hT 68, hT 69, hT 70, hT 71, hT 72, hT 73, hT 74, hT 75, hT 76, hT 77, hT 78, hT 79, hT 80, hT 81, hT 82, hT 83, hT 84, hT 85, hT 86, hT 87, hT 88, hT 89, hT 90, hT 91, hT 92, hT 93, hT 94, hT 95, hT 96, hT 97, hT 98, hT 99, hT 100, hT 101, hT 102, hT 103]
noncomputable abbrev S6 (w : World) (os : OsState) : Prop := segF (stQ T w) (okQ 39 ann) 995 (X5 w os) ⟨(execsQ L6 E).wrap doneF deadEnd id id, C, ⟨331, 0, 337, 39⟩, F⟩ = some (.next, X6 w os, C, ⟨504, 0, 505, 60⟩)
theorem e6_f (w : World) (os : OsState) : S6 (w.withFollow "special-get-raises" false) os := by kernel_rfl
theorem e6_t (w : World) (os : OsState) : S6 (w.withFollow "special-get-raises" true) os := by kernel_rfl
theorem e6 (w : World) (os : OsState) : S6 w os := byRow2 "special-get-raises" (P := fun w => ∀ os, S6 w os) e6_f e6_t w os
noncomputable def L7 : List Stmt := [hT 104, hT 105, hT 106, hT 107, hT 108, hT 109, hT 110, hT 111, hT 112, hT 113, hT 114, hT 115, hT 116, hT 117]
noncomputable abbrev S7 (w : World) (os : OsState) : Prop := segF (stQ T w) (okQ 39 ann) 427 (X6 w os) ⟨(execsQ L7 E).wrap doneF deadEnd id id, C, ⟨504, 0, 505, 60⟩, F⟩ = some (.next, X7 w os, C, ⟨624, 0, 625, 114⟩)
theorem e7 (w : World) (os : OsState) : S7 w os := by kernel_rfl
theorem e_fin (w : World) (os : OsState) : HeadRun.goF (stQ T w) 39 ann 2 (X7 w os) ⟨doneF .next, C, ⟨624, 0, 625, 114⟩, F⟩ = some (Xf w os) := by kernel_rfl
theorem e_body : B = (L1 ++ (L2 ++ (L3 ++ (L4 ++ (L5 ++ (L6 ++ (L7 ++ []))))))) := by kernel_rfl
theorem a_f (w : World) (os : OsState) : (Xf w os).abs = Yf w os := by kernel_rfl
theorem l_stat (w : World) (os : OsState) : staticsQ (importedModules T.main.body) (Y0 w os).heap (Yf w os).heap = true := by kernel_rfl
theorem l_names (w : World) (os : OsState) : namesQ T (Yf w os).heap = true := by kernel_rfl
theorem l_gens (w : World) (os : OsState) : gensDone (Yf w os) = true := by kernel_rfl
theorem l_laid (w : World) (os : OsState) : laidQ (Y0 w os).heap (Yf w os).heap = true := by kernel_rfl
theorem c1 (w : World) (os : OsState) : seen ((recsOf q).map (·.name)) (ownsOf q) [] { (Yf w os) with gens := #[] } = expectedOf q := by
  rw [PySem.W.Fast.te5160383126252970620, PySem.W.Fast.te3399658132070893891, PySem.W.Fast.te5991557255702980513, PySem.W.Fast.te17202137643295693207]
  kernel_rfl
theorem c2 (w : World) (os : OsState) : (Yf w os).heap.bltView = bltViewBooted := by
  rw [PySem.W.Fast.te3886120067097387239]
  kernel_rfl
theorem c3 (w : World) (os : OsState) : (Yf w os).heap.keysOk (looseW q loose) ((recsOf q).map (·.name)) ((litsOf q).map (·.1)) ((clssOf q (looseW q loose)).map (·.name)) = true := by
  rw [PySem.W.Fast.te10880121769531294198, PySem.W.Fast.te821141287760084731, PySem.W.Fast.te3399658132070893891, PySem.W.Fast.te7409074990110511671, PySem.W.Fast.te13664370479719496447]
  kernel_rfl
theorem c4 (w : World) (os : OsState) : (Yf w os).heap.accountedOkI (importedModules T.main.body) = true := by
  rw [PySem.W.Fast.te14722251495701143533]
  kernel_rfl
theorem c5 (w : World) (os : OsState) : tablesOk q (Yf w os).heap = true := by
  rw [PySem.W.Fast.te10994771534591457954]
  kernel_rfl
theorem c6 (w : World) (os : OsState) : Xt (Yf w os) = true := by kernel_rfl
theorem c7 (w : World) (os : OsState) : tabsOk q (Yf w os) = true := by
  rw [PySem.W.Fast.te479339242167458305]
  kernel_rfl
theorem c8 (w : World) (os : OsState) : pinSeenD q (drecsOf q) (Yf w os) = pinGoodD (drecsOf q) := by
  rw [PySem.W.Fast.te16090120013241838585, PySem.W.Fast.te3247288618530077131, PySem.W.Fast.te15722437165473765228]
  kernel_rfl
theorem c9 (w : World) (os : OsState) : plainSeenE q (looseW q loose) (Yf w os) = plainGoodE q (looseW q loose) := by
  rw [PySem.W.Fast.te2386780881361962483, PySem.W.Fast.te821141287760084731, PySem.W.Fast.te11434641657110253636]
  kernel_rfl
theorem c10 (w : World) (os : OsState) : plainSeenD q loose (Yf w os) = plainGoodD q loose := by
  rw [PySem.W.Fast.te11698064438423848299, PySem.W.Fast.te6545441873122501937]
  kernel_rfl
theorem c11 (w : World) (os : OsState) : wideSeen q (Yf w os) = wideGood q := by
  rw [PySem.W.Fast.te7317090234206586261, PySem.W.Fast.te9017663842625078692]
  kernel_rfl
theorem c12 (w : World) (os : OsState) : clsSeenW q loose (Yf w os) = clsGoodW q loose := by
  rw [PySem.W.Fast.te7369524293546568484, PySem.W.Fast.te17432349009858465958]
  kernel_rfl
theorem c13 (w : World) (os : OsState) : ((Yf w os).heap.isNs mainGlobals && (Yf w os).heap.isNs builtinsNs) = true := by kernel_rfl
theorem l_seen (w : World) (os : OsState) : openSeen q loose (importedModules T.main.body) Xt true (Yf w os) = openGood q loose := seen_ok (c1 w os) (c2 w os) (c3 w os) (c4 w os) (c5 w os) (c6 w os) (c7 w os) (c8 w os) (c9 w os) (c10 w os) (c11 w os) (c12 w os) (c13 w os) rfl
theorem l_ob (w : World) (os : OsState) : ob (Xf w os) = hk.val w := by kernel_rfl
theorem r_fin (w : World) (os : OsState) : topRun treeTable T w 39 ann 2 (X7 w os).abs (restOf [] E C ⟨624, 0, 625, 114⟩ F) = some (Xf w os).abs := fin_ok (e_fin w os)
theorem r7 (w : World) (os : OsState) : topRun treeTable T w 39 ann (427 + 2) (X6 w os).abs (restOf (L7 ++ []) E C ⟨504, 0, 505, 60⟩ F) = some (Xf w os).abs := some_ok (rest := []) (e7 w os) (r_fin w os)
theorem r6 (w : World) (os : OsState) : topRun treeTable T w 39 ann (995 + 429) (X5 w os).abs (restOf (L6 ++ (L7 ++ [])) E C ⟨331, 0, 337, 39⟩ F) = some (Xf w os).abs := some_ok (rest := (L7 ++ [])) (e6 w os) (r7 w os)
theorem r5 (w : World) (os : OsState) : topRun treeTable T w 39 ann (1000 + 1424) (X4 w os).abs (restOf (L5 ++ (L6 ++ (L7 ++ []))) E C ⟨260, 0, 260, 8⟩ F) = some (Xf w os).abs := some_ok (rest := (L6 ++ (L7 ++ []))) (e5 w os) (r6 w os)
theorem r4 (w : World) (os : OsState) : topRun treeTable T w 39 ann (910 + 2424) (X3 w os).abs (restOf (L4 ++ (L5 ++ (L6 ++ (L7 ++ [])))) E C ⟨75, 0, 79, 30⟩ F) = some (Xf w os).abs := some_ok (rest := (L5 ++ (L6 ++ (L7 ++ [])))) (e4 w os) (r5 w os)
theorem r3 (w : World) (os : OsState) : topRun treeTable T w 39 ann (993 + 3334) (X2 w os).abs (restOf (L3 ++ (L4 ++ (L5 ++ (L6 ++ (L7 ++ []))))) E C ⟨35, 0, 36, 8⟩ F) = some (Xf w os).abs := some_ok (rest := (L4 ++ (L5 ++ (L6 ++ (L7 ++ []))))) (e3 w os) (r4 w os)
theorem r2 (w : World) (os : OsState) : topRun treeTable T w 39 ann (932 + 4327) (X1 w os).abs (restOf (L2 ++ (L3 ++ (L4 ++ (L5 ++ (L6 ++ (L7 ++ [])))))) E C ⟨15, 0, 19, 26⟩ F) = some (Xf w os).abs := some_ok (rest := (L3 ++ (L4 ++ (L5 ++ (L6 ++ (L7 ++ [])))))) (e2 w os) (r3 w os)
theorem r1 (w : World) (os : OsState) : topRun treeTable T w 39 ann (931 + 5259) (Xb w os).abs (restOf (L1 ++ (L2 ++ (L3 ++ (L4 ++ (L5 ++ (L6 ++ (L7 ++ []))))))) E C ⟨0, 0, 0, 0⟩ F) = some (Xf w os).abs := some_ok (rest := (L2 ++ (L3 ++ (L4 ++ (L5 ++ (L6 ++ (L7 ++ []))))))) (e1 w os) (r2 w os)
theorem r_block (w : World) (os : OsState) : topRun treeTable T w 39 ann (1 + 6190) (Xa w os).abs ⟨denote treeTable (.body B E), C, ⟨0, 0, 0, 0⟩, F⟩ = some (Xf w os).abs := block_ok (e_block w os) (by rw [show restOf B E C ⟨0, 0, 0, 0⟩ F = restOf (L1 ++ (L2 ++ (L3 ++ (L4 ++ (L5 ++ (L6 ++ (L7 ++ []))))))) E C ⟨0, 0, 0, 0⟩ F from congrArg (fun b => restOf b E C ⟨0, 0, 0, 0⟩ F) e_body]; exact r1 w os)
theorem r_all (w : World) (os : OsState) : topRun treeTable T w 39 ann (12 + 6191) (X0 w os).abs (topStub T) = some (Xf w os).abs := pre_ok (e_pre w os) (r_block w os)
theorem left_T : LeftO T q loose Xt hk.obs hk.val 13188 true := left_cut fun w => ⟨X0 w os0, Y0 w os0, Yf w os0, ann, open_ok (imp_mono 12067 _ _ _ _ (e_imp w)) (a_i w os0) (e_fence w) (a_0 w os0), a_0 w os0, e_ns w os0, e_ann w os0,
  (topRun_mono 6985 _ _ _ _ (r_all w os0)).trans (congrArg some (a_f w os0)), l_stat w os0, l_names w os0, l_gens w os0, l_laid w os0, l_seen w os0, by rw [← a_f w os0]; exact (ob_eq _).symm.trans (l_ob w os0)⟩
theorem left : LeftO R.prog q loose Xt hk.obs hk.val 13188 true := by
  rw [pT]
  exact left_T
noncomputable abbrev d : DefRec := HeadRun.topDef R.prog 117
theorem hd (said : R.wellSaid = true) (hw : R.toRowW.promised) (hc : WalkO q loose (XL q []) hk.says R.toRowW d [] (fun f vs => PySem.call f vs)) : R.Holds :=
  holds_open (r := R) (q := q) (loose := loose) (XP := XL q []) (YP := hk.says) (d := d) (kwd := []) left hk.of hk.keeps (fun s z => xl_of s (Bool.and_eq_true_iff.mp z).1) XL.keeps (by kernel_rfl) (by kernel_rfl) (by rfl) (fun s z => recFacts_of (Bool.and_eq_true_iff.mp z).2) (by rfl) said (by decide +kernel) ⟨rfl, rfl, rfl, rfl, rfl, by decide +kernel⟩ hw hc
end Hd

/-! Own exceptions over a built-in one by way of an own base class: stored into, made (by place, by keyword). -/
namespace Xk
open PySem PySem.W PySem.Calls PyProof.Rows PySem.HandSPX Builtin Builtin.ObjectAttr

/-- what a built-in base gives -/
structure Bse (B newId initId : String) (tl : List Value) : Prop where
  F : ExcBaseFacts B newId initId tl
  pass : ∀ self : Value, refuseLoop self "__setattr__" tl = pure ()
  obj : tl.contains (.type "object") = true
abbrev tlV : List Value := [.type "ValueError", .type "Exception", .type "BaseException", .type "object"]
abbrev tlL : List Value := [.type "LookupError", .type "Exception", .type "BaseException", .type "object"]
abbrev tlA : List Value := [.type "ArithmeticError", .type "Exception", .type "BaseException", .type "object"]
theorem bseV : Bse "ValueError" "ValueError.__new__" "ValueError.__init__" tlV := ⟨F.excBase_ValueError, F.store_ValueError.passes, by decide +kernel⟩
theorem bseL : Bse "LookupError" "LookupError.__new__" "LookupError.__init__" tlL := ⟨F.excBase_LookupError, F.store_LookupError.passes, by decide +kernel⟩
theorem bseA : Bse "ArithmeticError" "ArithmeticError.__new__" "ArithmeticError.__init__" tlA := ⟨F.excBase_ArithmeticError, F.store_ArithmeticError.passes, by decide +kernel⟩

theorem has_tl (Bc : Addr) (tl : List Value) (Y : String) :
    (Value.ref Bc :: tl).contains (.type Y) = tl.contains (.type Y) := by
  rw [List.contains_cons]; rfl
theorem pass2 {tl : List Value} (self : Value) (C Bc : Addr) (h : refuseLoop self "__setattr__" tl = pure ()) :
    refuseLoop self "__setattr__" (.ref C :: .ref Bc :: tl) = pure () := by
  rw [refuseLoop_ref, refuseLoop_ref]; exact h

section
variable {prog : Program} {w : World} {A : Around} {E : Value → Shared → Prop} {R : Result → Shared → Prop}
variable {hp : Heap} {g : Array GenState} {d : Drawn} {t : Nat} {os : OsState}
variable {K : W.Frag} {name : Str} {tk : Tok} {v : Value} {x C Bc : Addr} {fv : Array Value} {cd : ClassData} {tl : List Value}

/-- the first store: the dict is laid -/
theorem st_new (X : K.In hp) (hx : hp.get? x = some { cls := .ref C, data := .fields fv })
    (hcd : W.clsIn K C = some cd) (hm : cd.mro = .ref C :: .ref Bc :: tl) (ps : ∀ self : Value, refuseLoop self "__setattr__" tl = pure ())
    (ob : tl.contains (.type "object") = true) (hh : cd.hasDict = true) (ha : W.findIn K (.ref C) name = some none)
    (hq : ∀ h' tk' dx, (∀ b o, b ≠ x → hp.get? b = some o → h'.get? b = some o) → hp.objs.size ≤ dx → dx ≠ x →
      h'.get? x = some { cls := .ref C, dict := some dx, data := .fields fv } →
      h'.Ns1 dx (fun y => if y = name then some v else none) → R (.ok (.ret .none)) ⟨h', g, d, tk', os⟩) :
    codeAny (model prog w) A (.call (.builtin "object.__setattr__") ⟨[.ref x, .str name tk, v], []⟩) R ⟨hp, g, d, t, os⟩ := by
  have J : W.InstAt hp x { cls := .ref C, data := .fields fv } C none := ⟨hx, rfl, rfl, trivial⟩
  have SF := F.store_object
  have nex : cd.mro.isEmpty = false := by rw [hm]; rfl
  have hob : cd.mro.contains (.type "object") = true := by
    rw [hm, List.contains_cons, has_tl, ob, Bool.or_true]
  have nxs : x ≠ hp.objs.size := Nat.ne_of_lt (Heap.lt_size hx)
  have sub : W.Looks (model prog w) hp (isInstance (.ref x) (.type "object")) true :=
    J.type.andThen (W.looks_mroIn X (by
      unfold W.mroIn
      rw [hcd, Option.bind_some, if_neg (by rw [nex]; decide), hob]))
  refine codeAny_call_builtin SF.slot.plain SF.entry
    (@W.check_slot (model prog w) _ _ ⟨hp, g, d, t, os⟩ "object.__setattr__" "object" "__setattr__" (.ref x)
      [.str name tk, v] [] _ SF.kind SF.split sub (SF.args (.ref x) (.str name tk) v) ?_)
  have lm : W.Looks (model prog w) hp (mroOf (.ref C)) cd.mro := (W.looks_clsIn X hcd).andThen .now
  have ln : W.Looks (model prog w) hp (storeTaker? none) none := .now
  have lc : W.Looks (model prog w) hp (classData C) cd := W.looks_clsIn X hcd
  rw [W.osa_eq, refuse_eq]
  refine wpAny_bind (wpAny_bind (J.type.at (wpAny_bind (lm.at ?_))))
  rw [hm, pass2 _ _ _ (ps _)]
  refine wpAny_pure (wpAny_bind (J.type.at (wpAny_bind ((W.looks_findIn X ha).at (wpAny_bind (ln.at ?_))))))
  show wpAny _ _ (storeInOwnDict (.ref x) (.ref C) (.str name tk) name v false) _ _ _
  obtain ⟨c1, c2, c3, c4, c5, c6, c7, c8, c9, c10, c11⟩ := cd
  dsimp only at hh
  subst hh
  unfold storeInOwnDict ownDictForStores
  repeat (first | with_reducible refine store_in_new ?_ ?_
                | with_reducible refine wpAny_loadPart_at hx ?_
                | with_reducible refine lc.at ?_
                | wp_step)
  · exact ⟨_, #[], _, (Heap.get?_update_ne _ _ _ _ nxs.symm).trans (Heap.get?_push_at rfl rfl), rfl,
      fun e he => absurd he (by simp), fun _ => rfl⟩
  · intro h' tk' hn' hs
    have hx1 : (hp.push { cls := .type "dict", data := .dict #[] }).get? x = some { cls := .ref C, data := .fields fv } :=
      Heap.get?_push_of_some _ hx
    refine hq h' tk' hp.objs.size (fun b o hb ho => ?_) (Nat.le_refl _) nxs.symm ?_ hn'
    · refine (hs.2 b (Nat.ne_of_lt (Heap.lt_size ho))).trans ?_
      exact (Heap.get?_update_ne _ _ _ _ hb).trans (Heap.get?_push_of_some _ ho)
    · exact (hs.2 x nxs).trans (Heap.get?_update_self _ hx1 rfl)

/-- a further store -/
theorem st_old {dx : Addr} {m0 : Str → Option Value} {nl : List Str} (X : K.In hp)
    (hx : hp.get? x = some { cls := .ref C, dict := some dx, data := .fields fv }) (hns : hp.Ns1 dx m0) (hw : Within m0 nl) (hz : nl.length ≤ 1000)
    (hcd : W.clsIn K C = some cd) (hm : cd.mro = .ref C :: .ref Bc :: tl) (ps : ∀ self : Value, refuseLoop self "__setattr__" tl = pure ())
    (ob : tl.contains (.type "object") = true) (hh : cd.hasDict = true) (ha : W.findIn K (.ref C) name = some none)
    (hq : ∀ h' tk', (∀ b o, b ≠ dx → hp.get? b = some o → h'.get? b = some o) →
      h'.Ns1 dx (fun y => if y = name then some v else m0 y) → R (.ok (.ret .none)) ⟨h', g, d, tk', os⟩) :
    codeAny (model prog w) A (.call (.builtin "object.__setattr__") ⟨[.ref x, .str name tk, v], []⟩) R ⟨hp, g, d, t, os⟩ := by
  obtain ⟨oD, eD, pD, hoD, hdD, _⟩ := hns.count hw
  have J : W.InstAt hp x { cls := .ref C, dict := some dx, data := .fields fv } C (some oD) := ⟨hx, rfl, rfl, hoD⟩
  have SF := F.store_object
  have nex : cd.mro.isEmpty = false := by rw [hm]; rfl
  have hob : cd.mro.contains (.type "object") = true := by
    rw [hm, List.contains_cons, has_tl, ob, Bool.or_true]
  have sub : W.Looks (model prog w) hp (isInstance (.ref x) (.type "object")) true :=
    J.type.andThen (W.looks_mroIn X (by
      unfold W.mroIn
      rw [hcd, Option.bind_some, if_neg (by rw [nex]; decide), hob]))
  refine codeAny_call_builtin SF.slot.plain SF.entry
    (@W.check_slot (model prog w) _ _ ⟨hp, g, d, t, os⟩ "object.__setattr__" "object" "__setattr__" (.ref x)
      [.str name tk, v] [] _ SF.kind SF.split sub (SF.args (.ref x) (.str name tk) v) ?_)
  have lm : W.Looks (model prog w) hp (mroOf (.ref C)) cd.mro := (W.looks_clsIn X hcd).andThen .now
  have ln : W.Looks (model prog w) hp (storeTaker? none) none := .now
  have lc : W.Looks (model prog w) hp (classData C) cd := W.looks_clsIn X hcd
  rw [W.osa_eq, refuse_eq]
  refine wpAny_bind (wpAny_bind (J.type.at (wpAny_bind (lm.at ?_))))
  rw [hm, pass2 _ _ _ (ps _)]
  refine wpAny_pure (wpAny_bind (J.type.at (wpAny_bind ((W.looks_findIn X ha).at (wpAny_bind (ln.at ?_))))))
  show wpAny _ _ (storeInOwnDict (.ref x) (.ref C) (.str name tk) name v false) _ _ _
  obtain ⟨c1, c2, c3, c4, c5, c6, c7, c8, c9, c10, c11⟩ := cd
  dsimp only at hh
  subst hh
  unfold storeInOwnDict ownDictForStores
  repeat (first | with_reducible refine PySem.OEX.store_in_old hns hw hz ?_
                | with_reducible refine wpAny_loadPart_at hx ?_
                | with_reducible refine lc.at ?_
                | wp_step)
  intro h' tk' hn' hs
  exact hq h' tk' (fun b o hb ho => (hs.2 b hb).trans ho) hn'
end

/-! ### type.__call__ with keywords -/
section
variable {M : Model} {A : Around} {E : Value → Shared → Prop} {h : Heap} {g : Array GenState} {d : Drawn} {t : Nat} {os : OsState}
variable {nm q : Str} {C N : Addr} {bs bm bmB : List Value} {hdct : Bool} {sn : List Str} {sub : List Value} {ab : Bool} {col : Option Bool} {dd : Option Addr} {k0 k1 k2 k3 k5 : Option Value} {B newId initId : String}
variable {kw : List (Str × Value)}

theorem chk_tc {rest : List Value} {Q : Unit → Shared → Prop}
    (hC : h.get? C = some (excClassObj nm q C N bs bm hdct sn sub ab col dd k0 k1 k2 k3 k5 newId))
    (hq : Q () ⟨h, g, d, t, os⟩) : wpAny M A (checkBuiltinCall "type.__call__" ⟨.ref C :: rest, kw⟩) Q E ⟨h, g, d, t, os⟩ := by
  have f3 := tc_sub
  have hT : (⟨h, g, d, t, os⟩ : Shared).TypeIs (.ref C) "type" := ⟨_, hC, rfl⟩
  simp only [checkBuiltinCall, tc_kind, tc_split]
  repeat (any_goals (first | assumption
                           | with_reducible refine wpAny_loadPart_at hC ?_
                           | with_reducible refine wpAny_onRaise ?_
                           | with_reducible refine wpAny_map ?_
                           | wp_step))

theorem chk_new (F : ExcBaseFacts B newId initId bmB) (hT : ∀ X : String, bm.contains (.type X) = bmB.contains (.type X)) {rest : List Value} {Q : Unit → Shared → Prop}
    (hC : h.get? C = some (excClassObj nm q C N bs bm hdct sn sub ab col dd k0 k1 k2 k3 k5 newId)) (hq : Q () ⟨h, g, d, t, os⟩) :
    wpAny M A (checkBuiltinCall newId ⟨.ref C :: rest, kw⟩) Q E ⟨h, g, d, t, os⟩ := by
  have hcont : (Value.ref C :: bm).contains (.type B) = true := by
    rw [List.contains_cons, hT, F.hasB, Bool.or_true]
  have hstar := F.noStar
  simp only [checkBuiltinCall, F.newKind, F.newSplit, F.newRow]
  repeat (first | refine wpAny_loadPart_at hC ?_
                | (refine wpAny_isSubtype_exc hC ?_; rw [hcont])
                | refine wpAny_staticBase_exc hC ?_
                | refine wpAny_madeBy_exc hC ?_
                | simp only [bne_self_eq_false, Bool.false_eq_true, if_false]
                | wp_step)
  exact hq
end

section
variable {prog : Program} {w : World} {A : Around} {E : Value → Shared → Prop} {R : Result → Shared → Prop} {h : Heap} {g : Array GenState} {d : Drawn} {t : Nat} {os : OsState}
variable {nm q : Str} {C N : Addr} {bs bm bmB : List Value} {hdct : Bool} {sn : List Str} {sub : List Value} {ab : Bool} {col : Option Bool} {dd : Option Addr} {k0 k1 k2 k3 k5 : Option Value} {B newId initId : String}
variable {kw : List (Str × Value)}

theorem new_kw (F : ExcBaseFacts B newId initId bmB) (hT : ∀ X : String, bm.contains (.type X) = bmB.contains (.type X)) {rest : List Value}
    (hC : h.get? C = some (excClassObj nm q C N bs bm hdct sn sub ab col dd k0 k1 k2 k3 k5 newId))
    (hq : R (.ok (.ret (.ref (h.objs.size + 1)))) ⟨(h.push (W.kdv_tup rest)).push (excO C h.objs.size), g, d, t, os⟩)
    (hrest : rest.length ≤ sizeLine) :
    codeAny (model prog w) A (.builtin newId ⟨.ref C :: rest, kw⟩) R ⟨h, g, d, t, os⟩ := by
  have hends := F.ends
  have hB : (Value.ref C :: bm).contains (.type B) = true := by
    rw [List.contains_cons, hT, F.hasB, Bool.or_true]
  have hA : (Value.ref C :: bm).contains (.type "AttributeError") = false := by
    rw [List.contains_cons, hT, F.noAttr]; rfl
  have hN : (Value.ref C :: bm).contains (.type "NameError") = false := by
    rw [List.contains_cons, hT, F.noName]; rfl
  refine codeAny_builtinAt F.entry ?_
  unfold Builtin.«BaseException.__new__»
  refine PySem.wpAt_bind ?_
  show PySem.wpAt _ _ _ (stack >>= _) _ _ _
  refine PySem.wpAt_bind (PySem.wpAt_stack fun p below => PySem.wpAt_of_wpAny ?_)
  wp_walk
  refine PySem.wpAt_of_wpAny ?_
  rw [F.owner]
  repeat (first | with_reducible refine wpAny_madeHere_exc F.canon hC ?_
                | with_reducible refine wpAny_loadPart_at hC ?_
                | (with_reducible refine wpAny_isSubtype_exc hC ?_; first | rw [hB] | rw [hA] | rw [hN])
                | wp_step)
  show R _ _
  rw [Heap.size_push]
  exact hq

theorem tc_kw (F : ExcBaseFacts B newId initId bmB) (hT : ∀ X : String, bm.contains (.type X) = bmB.contains (.type X)) {rest : List Value} {fI : Addr} {Q : Fin → Shared → Prop}
    (hC : h.get? C = some (excClassObj nm q C N bs bm hdct sn sub ab col dd k0 k1 k2 k3 k5 newId))
    (hi : W.Looks (model prog w) h (typeLookup (.ref C) "__init__") (some (.ref fI)))
    (hb : ∀ self, W.Looks (model prog w) h (bindSpecial (.ref fI) self) (.ref fI, [self])) (hrest : rest.length ≤ sizeLine)
    (hq : codeAny (model prog w) A (.call (.ref fI) ⟨.ref (h.objs.size + 1) :: rest, kw⟩)
      (fun r s' => match r with | .ok (.ret v) => v = .none ∧ Q (.done (.ret (.ref (h.objs.size + 1)))) s' | .ok _ => False | .error e => E e s')
      ⟨(h.push (W.kdv_tup rest)).push (excO C h.objs.size), g, d, t, os⟩) :
    wpAny (model prog w) A (Builtin.«type.__call__» ⟨.ref C :: rest, kw⟩) Q E ⟨h, g, d, t, os⟩ := by
  repeat (first | with_reducible refine wpAny_loadPart_at hC ?_
                | with_reducible refine wpAny_madeBy_exc hC ?_
                | wp_step)
  refine codeAny_call_builtin_code (Code.quiet_builtin _ F.quiet) (chk_new F hT hC ?_)
  refine new_kw F hT hC ?_ hrest
  show wpAny _ _ _ _ _ _
  have k : ∀ b o, h.get? b = some o → ((h.push (W.kdv_tup rest)).push (excO C h.objs.size)).get? b = some o :=
    fun b o e => Heap.get?_push_of_some _ (Heap.get?_push_of_some _ e)
  have hC1 := k _ _ hC
  have hget : ((h.push (W.kdv_tup rest)).push (excO C h.objs.size)).get? (h.objs.size + 1) = some (excO C h.objs.size) := by heap_get
  have hcC : (Value.ref C :: bm).contains (.ref C) = true := by simp
  have i1 := hi.keeps k
  have b1 := (hb (.ref (h.objs.size + 1))).keeps k
  unfold isInstance
  repeat (first | with_reducible refine wpAny_loadPart_at hget ?_
                | (with_reducible refine wpAny_isSubtype_exc hC1 ?_; rw [hcC])
                | wp_step)
  show wpAny _ _ (typeLookup (.ref C) _) _ _ _
  refine i1.at ?_
  refine wpAny_holding (wpAny_bind (b1.at ?_))
  refine wpAny_bind (wpAny_call (codeAny_mono hq fun r s' z => ?_))
  rcases r with e | (v | _ | _ | _) <;> first | exact z | exact z.elim | skip
  obtain ⟨rfl, z⟩ := z
  first
    | exact wpAny_pure (wpAny_pure z)
    | (wp_walk; exact z)

/-- C(.., k = v): the exception, then its own __init__ -/
theorem call_kw (F : ExcBaseFacts B newId initId bmB) (hT : ∀ X : String, bm.contains (.type X) = bmB.contains (.type X)) {rest : List Value} {fI : Addr}
    (hC : h.get? C = some (excClassObj nm q C N bs bm hdct sn sub ab col dd k0 k1 k2 k3 k5 newId))
    (hi : W.Looks (model prog w) h (typeLookup (.ref C) "__init__") (some (.ref fI)))
    (hb : ∀ self, W.Looks (model prog w) h (bindSpecial (.ref fI) self) (.ref fI, [self])) (hrest : rest.length ≤ sizeLine)
    (hq : codeAny (model prog w) (A.under (.builtin "type.__call__" ⟨.ref C :: rest, kw⟩)) (.call (.ref fI) ⟨.ref (h.objs.size + 1) :: rest, kw⟩)
      (W.InitBack (h.objs.size + 1) R) ⟨(h.push (W.kdv_tup rest)).push (excO C h.objs.size), g, d, t, os⟩) :
    codeAny (model prog w) A (.call (.ref C) ⟨rest, kw⟩) R ⟨h, g, d, t, os⟩ := by
  have f1 := tc_lookup
  have f2 := tc_bind (.ref C)
  have hTy : (⟨h, g, d, t, os⟩ : Shared).TypeIs (.ref C) "type" := ⟨_, hC, rfl⟩
  refine codeAny_of_tree ?_
  show wpAny _ _ (callAny (.ref C) _) _ _ _
  repeat (any_goals (first | assumption
                           | with_reducible refine wpAny_loadPart_at hC ?_
                           | wp_step))
  refine ⟨rfl, ?_⟩
  refine codeAny_call_builtin_at (Code.quiet_builtin _ (by decide +kernel)) entry_typeCall (chk_tc hC (tc_kw F hT hC hi hb hrest ?_))
  refine codeAny_mono hq fun r s' z => ?_
  rcases r with e | (v | _ | _ | _) <;> exact z
end
end Xk

namespace Xk
open PySem PySem.Spec PyProof.Rows L2

/-- what the written part says of an own exception class C over the own class Bc over a built-in one -/
structure OxC (K : PySem.W.Frag) (C Bc : Addr) (newId : String) (tl : List Value) : Prop where
  cls : ∃ nm q N bs sn sub ab col dd k0 k1 k2 k3 k5,
    K.lookup C = some (excClassObj nm q C N bs (.ref Bc :: tl) true sn sub ab col dd k0 k1 k2 k3 k5 newId)
  sa : PySem.W.findIn K (.ref C) "__setattr__" = some (some (.builtin "object.__setattr__"))
  kC : PySem.W.keepIn K (.ref C) = true
  hg : PySem.W.findIn K (.ref C) "__getattribute__" = some (some (.builtin "BaseException.__getattribute__"))
  hk : PySem.W.findIn K (.ref C) "__getattr__" = some none
  hs : PySem.W.subIn K (.ref C) (.type "BaseException") = some true
  hd : PySem.W.hasDictIn K C = true
  ha : PySem.W.findIn K (.ref C) "__class__" = some (some (.builtin "object.__class__"))
  hn : PySem.W.specialIn K (.builtin "object.__class__") "__get__" = some (some (.builtin "getset_descriptor.__get__"))
  ht : PySem.W.takesIn K (.builtin "object.__class__") = some true
  hm : PySem.W.mroIn K C (.type "object") = some true

section
variable {X : Cx} {pins : List (Addr × Obj)} {σ : L2.St} {H : Hp} {s : Shared} {a C Bc dx : Addr} {f : Str} {y : V} {u : Value}
variable {fs : List (Str × V)} {Q : Unit → Shared → Prop} {E : Value → Shared → Prop} {A : Around} {Bn newId initId : String} {tl : List Value}

theorem OxC.cd {K : PySem.W.Frag} (T : OxC K C Bc newId tl) : ∃ cd : ClassData, PySem.W.clsIn K C = some cd ∧ cd.mro = .ref C :: .ref Bc :: tl ∧ cd.hasDict = true := by
  obtain ⟨nm, q, N, bs, sn, sub, ab, col, dd, k0, k1, k2, k3, k5, hC⟩ := T.cls
  refine ⟨{ name := nm, bases := bs, mro := .ref C :: .ref Bc :: tl, ns := N, qualname := q, hasDict := true, slotNames := sn, subclasses := sub, abstract := ab, collection := col, hasDel := false }, ?_, rfl, rfl⟩
  unfold PySem.W.clsIn
  rw [hC] <;> rfl

theorem ox_new (T : OxC X.K C Bc newId tl) (B : Bse Bn newId initId tl) (I : Inv X pins σ H s) (e : H a = some (exo a C none))
    (hno : PySem.W.findIn X.K (.ref C) f = some none) (ry : RelV y u)
    (h : ∀ dx s', H dx = none → dx ≠ a → Inv X pins σ (upd (upd H dx (exd dx [(f, y)])) a (exo a C (some dx))) s' → Q () s') :
    wpAny (model X.prog X.w) A (setAttr (.ref a) f u) Q E s := by
  obtain ⟨cd, hcl, hmr, hhd⟩ := T.cd
  obtain ⟨t1, ho⟩ := exo_at I.hok e
  obtain ⟨hp, g, d, t, os⟩ := s
  refine PySem.W.set_plain I.kIn (ox := { cls := .ref C, dict := none, data := .fields #[.ref t1, .none, .none, .none, .bool false, .none] })
    (od := none) ⟨ho, rfl, rfl, trivial⟩ T.sa ?_
  refine st_new I.kIn ho hcl hmr B.pass B.obj hhd hno (fun h' tk' dx k dn dne hx hn => ?_)
  have hnd : H dx = none := I.hok.fresh dn
  have nd : ∀ {b : Addr} {o : Obj}, hp.get? b = some o → b ≠ dx := fun {b o} q =>
    Nat.ne_of_lt (Nat.lt_of_lt_of_le (Heap.lt_size q) dn)
  have na : ∀ {b : Addr}, H b = none → b ≠ a := fun {b} n z => by
    rw [z, e] at n
    cases n
  have U : Un X.fs [] H (upd (upd H dx (exd dx [(f, y)])) a (exo a C (some dx))) hp h' := {
    keep := fun b o q n _ _ => k b o (na n) q
    slot := fun b o q n _ _ => ⟨o.slots, k b o (na n) q⟩
    free := fun b o q n _ => by rw [upd_ne (na n), upd_ne (nd q)]; exact n
    there := fun b o q _ => by
      by_cases hb : b = a
      · exact ⟨_, by rw [hb]; exact hx⟩
      · exact ⟨o, k b o hb q⟩
    tups := fun b xs q => by rw [upd_ne (at_ne e q exo_tup), upd_ne (ne_of_none q hnd)]; exact q
    frzs := fun b o v q => by rw [upd_ne (at_ne e q exo_frz), upd_ne (ne_of_none q hnd)]; exact q
    tbls := fun b ps q => ⟨#[], by rw [upd_ne (at_ne e q exo_tbl), upd_ne (ne_of_none q hnd), q]; simp⟩ }
  refine h dx _ hnd dne (I.un (t' := tk') U fun b o q => ?_)
  by_cases hb : b = a
  · subst hb
    rw [upd_same] at q
    cases q
    exact exo_ok hx
  · rw [upd_ne hb] at q
    by_cases hd : b = dx
    · subst hd
      rw [upd_same] at q
      cases q
      exact exd_ok hn (relO_put (fs := []) ry fun g => True.intro)
    · rw [upd_ne hd] at q
      refine (I.hok b o q).stay (fun c v hc z => k c v ?_ z) (fun c hc => ?_) (fun c xs hc => ?_)
      · rcases hc with hc | hc
        · rw [hc]
          exact hb
        · exact at_ne e hc exo_own
      · rw [upd_ne (at_ne e hc exo_own), upd_ne (ne_of_none hc hnd)]
        exact hc
      · rw [upd_ne (at_ne e hc exo_tup), upd_ne (ne_of_none hc hnd)]
        exact hc

theorem ox_old (T : OxC X.K C Bc newId tl) (B : Bse Bn newId initId tl) (I : Inv X pins σ H s) (e : H a = some (exo a C (some dx)))
    (ed : H dx = some (exd dx fs)) (hl : fs.length ≤ 900) (hno : PySem.W.findIn X.K (.ref C) f = some none) (ry : RelV y u)
    (h : ∀ s', Inv X pins σ (upd H dx (exd dx ((f, y) :: fs))) s' → Q () s') :
    wpAny (model X.prog X.w) A (setAttr (.ref a) f u) Q E s := by
  obtain ⟨cd, hcl, hmr, hhd⟩ := T.cd
  obtain ⟨t1, ho⟩ := exo_at I.hok e
  obtain ⟨mA, hns, rel⟩ := exd_at I.hok ed
  have hw := within_of rel
  obtain ⟨hp, g, d, t, os⟩ := s
  obtain ⟨oD, _, _, hoD, _, _⟩ := hns.count hw
  refine PySem.W.set_plain I.kIn (ox := { cls := .ref C, dict := some dx, data := .fields #[.ref t1, .none, .none, .none, .bool false, .none] })
    (od := some oD) ⟨ho, rfl, rfl, hoD⟩ T.sa ?_
  refine st_old I.kIn ho hns hw (by rw [List.length_map]; omega) hcl hmr B.pass B.obj hhd hno (fun h' tk' k hn => ?_)
  have hd : ∃ o, h'.get? dx = some o := by
    obtain ⟨o, _, _, e', _⟩ := hn
    exact ⟨o, e'⟩
  refine h _ (I.write (t' := tk') (x := dx) (e := dx) (o := exd dx ((f, y) :: fs)) ?_ (.inl rfl) k hd (exd_ok hn (relO_put ry rel)))
  rw [ed]
  exact True.intro

theorem ox_init {us : List Value} {Q : Value → Shared → Prop} (T : OxC X.K C Bc newId tl) (B : Bse Bn newId initId tl) (I : Inv X pins σ H s)
    (e : H a = some (exo a C none)) (hl : us.length ≤ sizeLine) (h : ∀ s', Inv X pins σ H s' → Q .none s') :
    wpAny (model X.prog X.w) A (call (.builtin initId) (.ref a :: us)) Q E s := by
  obtain ⟨nm, q, N, bs, sn, sub, ab, col, dd, k0, k1, k2, k3, k5, hC⟩ := T.cls
  obtain ⟨t1, ho⟩ := exo_at I.hok e
  obtain ⟨hp, g, d, t, os⟩ := s
  refine wpAny_call (PySem.HandSPX.init_base B.F (fun Y => has_tl Bc tl Y) (I.kIn _ _ hC) ho hl fun h' t2 k hx => ?_)
  have J := I.write (t' := t) (x := a) (e := a) (o := exo a C none) (by rw [e]; exact True.intro) (.inl rfl) k ⟨_, hx⟩ (exo_ok hx)
  have eu : upd H a (exo a C none) = H := by
    funext b
    by_cases hb : b = a
    · rw [hb, upd_same, e]
    · rw [upd_ne hb]
  rw [eu] at J
  exact h _ J
end

/-! ### readings and rules -/
/-- what the written part says of the own base class Bc: Bc.__init__ is the built-in one -/
structure BoC (K : PySem.W.Frag) (Bc : Addr) (initId : String) : Prop where
  rd : PySem.W.readsIn K Bc (.type "type") = true
  ga : PySem.W.specialIn K (.ref Bc) "__getattribute__" = some (some (.builtin "type.__getattribute__"))
  at_ : PySem.W.findCls K (.ref Bc) (.type "type") "__init__" = some (.val (.builtin initId))

def tBin (K : PySem.W.Frag) (Bc : Addr) (newId : String) (tl : List Value) (ta : TA) : TE := fun σ H Q => ta σ H fun vs H1 =>
  ∃ (a C : Addr) (ws : List V), vs = .ref a :: ws ∧ ws.length ≤ 1000 ∧ OxC K C Bc newId tl ∧ H1 a = some (exo a C none) ∧ Q .non H1
def tOx (K : PySem.W.Frag) (Bc : Addr) (newId : String) (tl : List Value) (f : Str) (to te : TE) : TS := fun D σ H => te σ H fun y H1 => to σ H1 fun x H2 =>
  ∃ a C : Addr, x = .ref a ∧ OxC K C Bc newId tl ∧ PySem.W.findIn K (.ref C) f = some none ∧
  ((H2 a = some (exo a C none) ∧ ∀ dx, H2 dx = none → dx ≠ a → D.nx σ (upd (upd H2 dx (exd dx [(f, y)])) a (exo a C (some dx)))) ∨
    ∃ (dx : Addr) (fs : List (Str × V)), H2 a = some (exo a C (some dx)) ∧ H2 dx = some (exd dx fs) ∧ fs.length ≤ 900 ∧ D.nx σ (upd H2 dx (exd dx ((f, y) :: fs))))

section
variable {X : Cx} {o e : Expr} {es : List Expr} {to te : TE} {ta : TA} {f b : Str} {p p' p1 p2 pos : Pos} {Bc : Addr} {Bn newId initId : String} {tl : List Value}
/-- Base.__init__(self, ..) -/
theorem pe_bin {pl : Sem Bool} (R : BoC X.K Bc initId) (B : Bse Bn newId initId tl) (hg : Gl X b) (hm : X.mg b = some (.ref Bc)) (ha : PA X (e :: es) ta)
    (hh : PySem.W.handedIn (.builtin initId) = true)
    (hc : eval (.Call (.Attribute (.Name b p1) "__init__" p2) (e :: es) [] pos) X.env = (do
      let ov ← eval (.Name b p1) X.env
      standAt p2.atName
      let (f, first) ← holding [ov] (getMethod ov "__init__" pl)
      callWith pos f first (backTo pos (starEach (e :: es) X.env)) (backToKw pos (keywordEach [] X.env))) := by rfl)
    (hdb : (b == ("__debug__" : Str)) = false := by decide)
    (he : starEach (e :: es) X.env = (false, eval e X.env) :: starEach es X.env := by rfl) (hpl : (backTo pos (starEach es X.env)).any (·.1) = false := by rfl) :
    PE X (.Call (.Attribute (.Name b p1) "__init__" p2) (e :: es) [] pos) (tBin X.K Bc newId tl ta) := by
  refine ⟨fun pins s σ H Q I h => ?_⟩
  refine PySem.W.methodCall_KW (ld_glob I hg hm ?_ hdb) hc
  refine PySem.W.method_cls I.kIn R.ga (PySem.W.cls_value I.kIn R.rd R.at_ hh ?_)
  show wpAny _ _ (callWith pos (Value.builtin initId) [] (backTo pos (starEach (e :: es) X.env)) []) _ _ _
  refine PyProof.Rows.callWith_method1 (thn (ha.run pos pins _ σ H _ (I.tok _) h) fun us s1 ⟨vs, H1, I1, r1, a, C, ws, ev, hl, T, ea, q⟩ => ?_) he hpl
  subst ev
  cases r1 with
  | @cons _ u0 _ ur ra rw' =>
    obtain rfl : u0 = Value.ref a := ra
    have hlen : ur.length ≤ sizeLine := by
      rw [← Paired.length rw', sizeLine_eq]
      omega
    exact ox_init T B I1 ea hlen fun s' J => ⟨.non, H1, J, rfl, q⟩
/-- self.f = e -/
theorem ps_ox (B : Bse Bn newId initId tl) (ho : PE X o to) (he : PE X e te) (hs : swapsWith e (some (.Attribute o f p')) pos.line X.env = pure false := by rfl) :
    PS X (.Assign [.Attribute o f p'] e pos) (tOx X.K Bc newId tl f to te) := by
  refine ⟨fun pins s σ H D I h => ?_⟩
  refine plainObj_wpAny_Assign_Attribute (thn (he.run pins s σ H _ I h) fun v s1 ⟨y, H1, I1, r1, q1⟩ =>
    thn (ho.run pins s1 σ H1 _ I1 q1) fun u s2 ⟨x, H2, I2, r2, a, C, ex, T, hno, q⟩ => ?_) hs
  subst ex
  obtain rfl : u = Value.ref a := r2
  rcases q with ⟨ea, q⟩ | ⟨dx, fs, ea, ed, hl, q⟩
  · exact ox_new T B I2 ea hno r1 fun dx s' n ne J => ⟨σ, _, J, q dx n ne⟩
  · exact ox_old T B I2 ea ed hl hno r1 fun s' J => ⟨σ, _, J, q⟩
end
end Xk

/-! Own exceptions: made as values, asked by isinstance, their fields read. -/
namespace Xk
section
open PySem PySem.W PySem.Spec PySem.Calls PyProof.Rows
variable {prog : Program} {w : World} {A : Around} {E : Value → Shared → Prop} {s : Shared} {K : Frag} {x D : Addr} {ox : Obj} {od : Option Obj}
theorem bindN {C : Addr} {name : Str} {a g : Value} (hc : (clsIn K C).isSome = true) (ha : findIn K (.ref C) name = some (some a))
    (hg : specialIn K a "__get__" = some (some g)) (ht : takesIn K a = some true) : findObj K C od name = some (.bind g a) := by
  obtain ⟨cd, hc⟩ := Option.isSome_iff_exists.mp hc
  unfold findObj
  rw [hc, Option.bind_some, ha, Option.bind_some]
  simp [hg, ht]
theorem cls_of_exc (hga : findIn K (.ref D) "__getattribute__" = some (some (.builtin "BaseException.__getattribute__")))
    (hgt : findIn K (.ref D) "__getattr__" = some none) (hsub : subIn K (.ref D) (.type "BaseException") = some true)
    (hdct : hasDictIn K D = true) (ha : findIn K (.ref D) "__class__" = some (some (.builtin "object.__class__")))
    (hn : specialIn K (.builtin "object.__class__") "__get__" = some (some (.builtin "getset_descriptor.__get__")))
    (htk : takesIn K (.builtin "object.__class__") = some true) (hm : mroIn K D (.type "object") = some true)
    {Q : Option Value → Shared → Prop} (X : K.In s.heap) (I : InstAt s.heap x ox D od) (h : Q (some (.ref D)) { s with toks := s.toks + 1 }) :
    wpAny (model prog w) A (getAttr? (.ref x) "__class__") Q E s := by
  have hcs : (clsIn K D).isSome = true := by
    obtain ⟨cd, hc, _⟩ := any_some hdct
    rw [hc]; rfl
  have hf : findObj K D od "__class__" = some (.bind (.builtin "getset_descriptor.__get__") (.builtin "object.__class__")) := bindN hcs ha hn htk
  obtain ⟨hp, g, d, t, os⟩ := s
  have L0 := I.type (M := model prog w)
  have L1 := looks_findIn (M := model prog w) X hga
  have L2 := looks_findIn (M := model prog w) X hgt
  have L3 := looks_find (M := model prog w) X I hf
  have sub : Looks (model prog w) hp (isInstance (.ref x) (.type "BaseException")) true := L0.andThen (looks_subIn X hsub)
  have e0 : (false && onTheHeap (Value.builtin "BaseException.__getattribute__")) = false := rfl
  have e2 : (Value.builtin "BaseException.__getattribute__" == Value.builtin "object.__getattribute__") = false := by decide +kernel
  have e1 : (onTheHeap (Value.ref D) && Value.builtin "BaseException.__getattribute__" == Value.builtin "object.__getattribute__") = false := by
    rw [e2]; rfl
  unfold getAttr? getAttrBy? getAttrBy
  refine wpAny_bind (wpAny_mkText (wpAny_bind (wpAny_attempt (wpAny_holding (wpAny_bind (L0.at (wpAny_bind (L1.at ?_))))))))
  show wpAny _ _ (if (onTheHeap (Value.ref D) && Value.builtin "BaseException.__getattribute__" == Value.builtin "object.__getattribute__") = true then _ else _) _ _ _
  rw [e1, if_neg Bool.false_ne_true]
  unfold getAttrByItsOwn hookBefore
  refine wpAny_bind ?_
  rw [if_pos (show onTheHeap (Value.ref D) = true from rfl)]
  refine L2.at ?_
  refine wpAny_bind (wpAny_attempt (wpAny_holding ?_))
  unfold callGetattribute
  rw [e0, if_neg Bool.false_ne_true]
  unfold boundAndCalled
  rw [PySem.F.excAttr_ValueError.ga.bind (.ref x)]
  refine wpAny_bind (wpAny_pure ?_)
  show wpAny _ _ (call (.builtin "BaseException.__getattribute__") [.ref x, .str "__class__" t]) _ _ _
  refine wpAny_call (codeAny_call_builtin PySem.F.excAttr_ValueError.ga.plain PySem.F.entry_bexc_ga ?_)
  refine @check_slot (model prog w) _ _ ⟨hp, g, d, t + 1, os⟩ "BaseException.__getattribute__" "BaseException" "__getattribute__" (.ref x)
    [.str "__class__" t] [] _ (by decide +kernel) (by decide +kernel) sub (PySem.F.args_bexc_ga (.ref x) (.str "__class__" t)) ?_
  unfold Builtin.«object.__getattribute__»
  refine wpAny_bind (wpAny_of_eq (a := ((Value.ref x : Value), [Value.str "__class__" t])) (by first | rfl | (simp only [slotArgs]; rfl)) ?_)
  refine wpAny_bind (wpAny_pure (wpAny_bind (L0.at (wpAny_bind (L3.at ?_)))))
  show wpAny _ _ (holding [Value.builtin "object.__class__"] (call (.builtin "getset_descriptor.__get__") [.builtin "object.__class__", .ref x, .ref D]) >>= ret) _ _ _
  refine wpAny_bind (wpAny_holding (wpAny_call (class_get (s := ⟨hp, g, d, t + 1, os⟩) (ox := ox) (od := od) X I hm ?_)))
  refine wpAny_pure ?_
  show wpAny _ _ (handedOut (.ref D)) _ _ _
  rw [handedOut_of (v := .ref D) rfl]
  first
    | exact wpAny_pure (wpAny_pure h)
    | exact wpAny_pure h
    | exact wpAny_pure (wpAny_bind (wpAny_pure (wpAny_pure h)))
theorem kit_exc (hga : findIn K (.ref D) "__getattribute__" = some (some (.builtin "BaseException.__getattribute__")))
    (hgt : findIn K (.ref D) "__getattr__" = some none) (hsub : subIn K (.ref D) (.type "BaseException") = some true)
    (hdct : hasDictIn K D = true) (ha : findIn K (.ref D) "__class__" = some (some (.builtin "object.__class__")))
    (hn : specialIn K (.builtin "object.__class__") "__get__" = some (some (.builtin "getset_descriptor.__get__")))
    (htk : takesIn K (.builtin "object.__class__") = some true) (hm : mroIn K D (.type "object") = some true) :
    KitX K (.ref x) (.ref D) (fun h => ∃ ox od, InstAt h x ox D od) where
  ty := fun _ _ _ ⟨_, _, I⟩ => I.type
  it := fun _ _ X _ => by
    obtain ⟨cdD, hcD, _⟩ := any_some hdct
    unfold clsIn at hcD
    split at hcD
    · rename_i c' d' cd' sl' ho
      intro A' Q' E' s' k q
      unfold isType loadHead
      exact wpAny_bind (wpAny_loadPart (k _ _ (X _ _ ho)) (wpAny_pure q))
    · cases hcD
  ne := fun h tp dd its n sl X htp => by
    obtain ⟨cdD, hcD, _⟩ := any_some hdct
    refine Bool.eq_false_iff.mpr fun q => ?_
    have e : D = tp := Value.ref.inj (beq_iff_eq.mp q)
    subst e
    unfold clsIn at hcD
    split at hcD
    · rename_i c' d' cd' sl' ho
      have z := (X _ _ ho).symm.trans htp
      cases z
    · cases hcD
  ca := fun X ⟨_, _, I⟩ k => cls_of_exc hga hgt hsub hdct ha hn htk hm X I k
end

open PySem PySem.Spec PyProof.Rows L2
/-- at a: an exception of the class at C with the fields fs -/
def ExAt (H : Hp) (a C : Addr) (fs : List (Str × V)) : Prop :=
  (fs = [] ∧ H a = some (exo a C none)) ∨ ∃ dx, H a = some (exo a C (some dx)) ∧ H dx = some (exd dx fs)
theorem ExAt.same {H H' : Hp} {a C : Addr} {fs : List (Str × V)} (h : ExAt H a C fs) (k : Same H H') : ExAt H' a C fs := by
  rcases h with ⟨e, h⟩ | ⟨dx, h1, h2⟩
  · exact .inl ⟨e, k _ _ h⟩
  · exact .inr ⟨dx, k _ _ h1, k _ _ h2⟩

section
variable {X : Cx} {pins : List (Addr × Obj)} {σ : L2.St} {H : Hp} {s : Shared}
theorem ExAt.inst {a C : Addr} {fs : List (Str × V)} (I : Inv X pins σ H s) (h : ExAt H a C fs) : ∃ ox od, PySem.W.InstAt s.heap a ox C od ∧
    ∀ f v, fs.lookup f = some v → ∃ o u, od = some o ∧ PySem.W.lookIn f o = some (some u) ∧ RelV v u := by
  rcases h with ⟨e, h⟩ | ⟨dx, h1, h2⟩
  · obtain ⟨t1, ho⟩ := exo_at I.hok h
    refine ⟨_, none, ⟨ho, rfl, rfl, trivial⟩, fun f v q => ?_⟩
    rw [e] at q
    cases q
  · obtain ⟨t1, ho⟩ := exo_at I.hok h1
    obtain ⟨mA, hns, hr⟩ := exd_at I.hok h2
    obtain ⟨o, ho2, hl⟩ := lookIn_ns hns
    refine ⟨_, some o, ⟨ho, rfl, rfl, ho2⟩, fun f v q => ?_⟩
    obtain ⟨u, hu, ru⟩ := RelO.some_of (v := v) (o := mA f) (by rw [← q]; exact hr f)
    exact ⟨o, u, rfl, by rw [hl, hu], ru⟩
end

/-- isinstance(e, c) -/
def rIsO (K : PySem.W.Frag) : List V → Hp → VK → Prop := fun xs H Q => ∃ (a C : Addr) (fs : List (Str × V)) (c : V) (cv : Value) (b : Bool) (Bc : Addr) (newId : String) (tl : List Value),
  xs = [.ref a, c] ∧ ExAt H a C fs ∧ OxC K C Bc newId tl ∧ (∀ u, RelV c u → u = cv) ∧ PySem.W.kitOne K (.ref C) cv = some b ∧ Q (.bl b) H
theorem call_isO {X : Cx} : CallR X (.builtin "isinstance") (rIsO X.K) := by
  intro pins s σ H xs us Q I r h
  obtain ⟨a, C, fs, c, cv, b, Bc, newId, tl, rfl, hex, T, hcv, e, q⟩ := h
  cases r with
  | cons rx rr =>
    cases rr with
    | cons rt rr =>
      cases rr
      cases rx
      have ec := hcv _ rt
      subst ec
      obtain ⟨ox, od, J, _⟩ := hex.inst I
      exact PySem.W.kia_one (kit_exc T.hg T.hk T.hs T.hd T.ha T.hn T.ht T.hm) I.kIn ⟨ox, od, J⟩ e (fun z => nomatch z)
        fun tk => ⟨.bl b, H, I.kept (t' := tk) fun _ _ z => z, rfl, q⟩

/-- e.f -/
def tOat (K : PySem.W.Frag) (f : Str) (te : TE) : TE := fun σ H Q => te σ H fun x H1 => ∃ (a C : Addr) (fs : List (Str × V)) (v : V) (Bc : Addr) (newId : String) (tl : List Value),
  x = .ref a ∧ ExAt H1 a C fs ∧ OxC K C Bc newId tl ∧ PySem.W.findIn K (.ref C) f = some none ∧ fs.lookup f = some v ∧ Q v H1
theorem pe_oat {X : Cx} {e : Expr} {te : TE} {pos : Pos} {f : Str} (he : PE X e te) (hb : attributeBase e f X.env (eval e X.env) = eval e X.env := by rfl) :
    PE X (.Attribute e f pos) (tOat X.K f te) := by
  refine ⟨fun pins s σ H Q I h => ?_⟩
  refine attr_of hb (thn (he.run pins s σ H _ I h) fun u s1 hh => ?_)
  obtain ⟨x, H1, I1, rx, a, C, fs, v, Bc, newId, tl, ex, hex, T, hno, hl, q⟩ := hh
  subst ex
  obtain rfl : u = Value.ref a := rx
  obtain ⟨ox, od, J, g⟩ := hex.inst I1
  obtain ⟨o, u, rfl, hu, ru⟩ := g f v hl
  exact PySem.HandSPX.exc_get I1.kIn J T.hg T.hk T.hs (PySem.W.findObj_own T.hd hno rfl hu) (handed_of ru) ⟨v, H1, I1.tok _, ru, q⟩

/-! ### C(.., k = v, ..) as a value -/
def tMkE (C n m : Nat) (sp : Sp) (gV : List V → List V → List V) (t tk : TA) : TE := fun σ H Q => t σ H fun vs H1 => tk σ H1 fun zs H2 =>
  vs.length = n ∧ zs.length = m ∧ vs.length ≤ 1000 ∧ ∀ a, H2 a = none → sp (gV (.ref a :: vs) zs) (upd H2 a (exo a C none)) (fun v H3 => v = .non ∧ Q (.ref a) H3) E0
section
variable {X : Cx} {CX : CXT} {k n : Nat} {f C Bc : Addr} {fd : FuncData} {ps ks : List Str} {sp : Sp} {x : Str} {p pos : Pos} {e : Expr} {es : List Expr} {kws : List Keyword} {t tk : TA}
variable {g : List Value → List Value → List Value} {gV : List V → List V → List V} {Bn newId initId : String} {tl : List Value}
theorem run_mkE {pins : List (Addr × Obj)} {σ : L2.St} {H : Hp} {s : Shared} {Q : VK} {us ws : List Value} {vs zs : List V}
    (T : OxC X.K C Bc newId tl) (B : Bse Bn newId initId tl) (iC : PySem.W.findIn X.K (.ref C) "__init__" = some (some (.ref f)))
    (tI : PySem.W.typeIn X.K (.ref f) = some (.type "function"))
    (F : FnOk X.prog X.w X.K X.mg X.base CX k f fd ps sp) (hr : Room (k + 1) X.A) (hb : KBn X.K fd ps (n + 1) ks g gV) (hx : Passes CX X E0)
    (I : Inv X pins σ H s) (r : Vals vs us) (rz : Vals zs ws) (l1 : vs.length = n) (l2 : zs.length = ks.length) (l3 : vs.length ≤ 1000)
    (h : ∀ a, H a = none → sp (gV (.ref a :: vs) zs) (upd H a (exo a C none)) (fun v H3 => v = .non ∧ Q (.ref a) H3) E0) :
    wpAny (model X.prog X.w) X.A (call (.ref C) us (ks.zip ws)) (EP X pins σ Q) X.xe s := by
  obtain ⟨nm, q, N, bs, sn, sub, ab, col, dd, k0, k1, k2, k3, k5, hC⟩ := T.cls
  obtain ⟨hp, gg, dr, tk0, os⟩ := s
  have hsz : hp.objs.size ≤ hp.objs.size + 1 := Nat.le_succ _
  have hq := h (hp.objs.size + 1) (I.hok.fresh hsz)
  have kk : ∀ b o, hp.get? b = some o → ((hp.push (PySem.W.kdv_tup us)).push (PySem.HandSPX.excO C hp.objs.size)).get? b = some o :=
    fun b o e => Heap.get?_push_of_some _ (Heap.get?_push_of_some _ e)
  have hget : ((hp.push (PySem.W.kdv_tup us)).push (PySem.HandSPX.excO C hp.objs.size)).get? (hp.objs.size + 1) = some (PySem.HandSPX.excO C hp.objs.size) := by heap_get
  have I2 : Inv X pins σ (upd H (hp.objs.size + 1) (exo (hp.objs.size + 1) C none)) ⟨(hp.push (PySem.W.kdv_tup us)).push (PySem.HandSPX.excO C hp.objs.size), gg, dr, tk0, os⟩ :=
    I.laid (t' := tk0) (a := hp.objs.size + 1) (o := exo (hp.objs.size + 1) C none) (h' := (hp.push (PySem.W.kdv_tup us)).push (PySem.HandSPX.excO C hp.objs.size)) kk hsz (exo_ok hget)
  have r1 : Vals (V.ref (hp.objs.size + 1) :: vs) (Value.ref (hp.objs.size + 1) :: us) := .cons rfl r
  have r2 := hb.rel r1 rz
  have n1 : (Value.ref (hp.objs.size + 1) :: us).length = n + 1 := by
    rw [List.length_cons, ← r.length, l1]
  have hus : us.length ≤ sizeLine := by
    rw [← Paired.length r, sizeLine_eq]
    omega
  refine wpAny_call (call_kw B.F (fun Y => has_tl Bc tl Y) (I.kIn _ _ hC) (PySem.W.looks_findIn I.kIn iC) (fun self => PySem.W.bind_fn I.kIn self tI) hus
    (codeAny_mono (F.run _ X.stack _ _ ⟨Value.ref (hp.objs.size + 1) :: us, ks.zip ws⟩ (g (Value.ref (hp.objs.size + 1) :: us) ws) _ _ E0
      (hr.make C us (ks.zip ws)) (I2.env0.make C us (ks.zip ws)) (hb.to _ (Value.ref (hp.objs.size + 1) :: us) ws I2.kIn n1 (rz.length.symm.trans l2)) r2 hq) fun r s' hq' => ?_))
  cases r with
  | error er => exact hx pins σ _ _ er s' I2 hq'
  | ok fl =>
    cases fl with
    | ret u =>
      obtain ⟨v, H', I3, rv, ev, q3⟩ := I2.after hq'
      subst ev
      exact ⟨rv, ⟨V.ref (hp.objs.size + 1), H', I3, rfl, q3⟩⟩
    | next => exact False.elim hq'
    | brk => exact False.elim hq'
    | cont => exact False.elim hq'
/-- C(k = v, ..) and C() -/
theorem pe_mkE0 (T : OxC X.K C Bc newId tl) (B : Bse Bn newId initId tl) (iC : PySem.W.findIn X.K (.ref C) "__init__" = some (some (.ref f)))
    (tI : PySem.W.typeIn X.K (.ref f) = some (.type "function"))
    (F : FnOk X.prog X.w X.K X.mg X.base CX k f fd ps sp) (hr : Room (k + 1) X.A) (hg : Gl X x) (hm : X.mg x = some (.ref C)) (hb : KBn X.K fd ps 1 ks g gV) (hx : Passes CX X E0) (hkw : PK X kws tk)
    (hall : (backToKw pos (keywordEach kws X.env)).all (·.1.isSome) = true := by rfl) (hks : (backToKw pos (keywordEach kws X.env)).filterMap (·.1) = ks := by rfl) (hdb : (x == ("__debug__" : Str)) = false := by decide)
    (hpl : ((backTo pos (starEach [] X.env)).any (·.1) || (backToKw pos (keywordEach kws X.env)).any (·.1.isNone)) = false := by rfl) :
    PE X (.Call (.Name x p) [] kws pos) (tMkE C 0 ks.length sp gV tNil tk) := by
  refine ⟨fun pins s σ H Q I h => ?_⟩
  refine wpAny_Call_Name_kw (ld_glob I hg hm ?_ hdb)
  refine PySem.W.callWith_KW0 (h₀ := X.base) I.ok.mod.kin T.kC hall ?_ hpl
  refine thn (hkw.run pos pins s σ H _ I h) fun ws s2 ⟨zs, H2, I2, rz, l1, l2, l3, q2⟩ => ⟨I2.kIn, ?_⟩
  rw [hks]
  exact run_mkE (us := []) (vs := []) T B iC tI F hr hb hx I2 .nil rz rfl l2 l3 q2
/-- C(e, ..) -/
theorem pe_mkE (T : OxC X.K C Bc newId tl) (B : Bse Bn newId initId tl) (iC : PySem.W.findIn X.K (.ref C) "__init__" = some (some (.ref f)))
    (tI : PySem.W.typeIn X.K (.ref f) = some (.type "function"))
    (F : FnOk X.prog X.w X.K X.mg X.base CX k f fd ps sp) (hr : Room (k + 1) X.A) (hg : Gl X x) (hm : X.mg x = some (.ref C)) (hb : KBn X.K fd ps (n + 1) ks g gV) (hx : Passes CX X E0) (ha : PA X (e :: es) t) (hkw : PK X kws tk)
    (hall : (backToKw pos (keywordEach kws X.env)).all (·.1.isSome) = true := by rfl) (hks : (backToKw pos (keywordEach kws X.env)).filterMap (·.1) = ks := by rfl) (hdb : (x == ("__debug__" : Str)) = false := by decide)
    (he : starEach (e :: es) X.env = (false, eval e X.env) :: starEach es X.env := by rfl)
    (hpl : ((backTo pos (starEach (e :: es) X.env)).any (·.1) || (backToKw pos (keywordEach kws X.env)).any (·.1.isNone)) = false := by rfl) :
    PE X (.Call (.Name x p) (e :: es) kws pos) (tMkE C n ks.length sp gV t tk) := by
  refine ⟨fun pins s σ H Q I h => ?_⟩
  refine wpAny_Call_Name_kw (ld_glob I hg hm ?_ hdb)
  refine PySem.W.callWith_KW (h₀ := X.base) I.ok.mod.kin T.kC hall (thn (ha.run pos pins s σ H _ I h) fun us s1 ⟨vs, H1, I1, r, q⟩ => ?_) hpl he
  refine thn (hkw.run pos pins s1 σ H1 _ I1 q) fun ws s2 ⟨zs, H2, I2, rz, l1, l2, l3, q2⟩ => ⟨I2.kIn, ?_⟩
  rw [hks]
  exact run_mkE T B iC tI F hr hb hx I2 r rz l1 l2 l3 q2
end
end Xk

/-! raise C(e), C an own class over an own class over a built-in one, with its own __init__. -/
namespace Xk
open PySem PySem.Spec PyProof.Rows L2
section
variable {X : Cx} {e : Expr} {es : List Expr} {ta : TA} {p pos : Pos}
theorem pmk_ox {CX : CXT} {x : Str} {C Bc fI : Addr} {k : Nat} {fd : FuncData} {ps : List Str} {sp : Sp} {ds : List Value} {dvs : List V} {Bn newId initId : String} {tl : List Value} (T : OxC X.K C Bc newId tl) (B : Bse Bn newId initId tl)
    (tyC : PySem.W.typeIn X.K (.ref C) = some (.type "type")) (iC : PySem.W.findIn X.K (.ref C) "__init__" = some (some (.ref fI))) (tI : PySem.W.typeIn X.K (.ref fI) = some (.type "function"))
    (F1 : FnOk X.prog X.w X.K X.mg X.base CX k fI fd ps sp) (hr : Room (k + 1) X.A) (hb : Binds X.K fd ps ds) (hd : Vals dvs ds) (hx : Passes CX X (fun _ _ _ => False)) (hg : Gl X x) (hm : X.mg x = some (.ref C)) (ha : PA X (e :: es) ta)
    (hdb : (x == ("__debug__" : Str)) = false := by decide) (he : starEach (e :: es) X.env = (false, eval e X.env) :: starEach es X.env := by rfl) (hpl : (backTo pos (starEach es X.env)).any (·.1) = false := by rfl) :
    PMk X (.Call (.Name x p) (e :: es) [] pos) (tMkO C sp dvs ta) := by
  intro pins s σ H Q I h
  obtain ⟨nm, q, N, bs, sn, sub, ab, col, dd, k0, k1, k2, k3, k5, hC⟩ := T.cls
  refine wpAny_Call_Name_kw (ld_glob I hg hm ?_ hdb)
  refine PySem.W.callWith_K (h₀ := X.base) I.ok.mod.kin T.kC (thn (ha.run pos pins s σ H _ I h) fun us s1 ⟨vs, H1, I1, r1, hz, q1⟩ => ⟨I1.kIn, ?_⟩) he hpl
  show wpAny _ _ (call (.ref C) us) _ _ _
  obtain ⟨hp, g, dr, tk, os⟩ := s1
  have hsz : hp.objs.size ≤ hp.objs.size + 1 := Nat.le_succ _
  have hn : H1 (hp.objs.size + 1) = none := I1.hok.fresh hsz
  have hq := q1 (hp.objs.size + 1) hn
  have kk : ∀ b o, hp.get? b = some o → ((hp.push (PySem.W.kdv_tup us)).push (PySem.HandSPX.excO C hp.objs.size)).get? b = some o := fun b o e => Heap.get?_push_of_some _ (Heap.get?_push_of_some _ e)
  have hget : ((hp.push (PySem.W.kdv_tup us)).push (PySem.HandSPX.excO C hp.objs.size)).get? (hp.objs.size + 1) = some (PySem.HandSPX.excO C hp.objs.size) := by heap_get
  have I2 : Inv X pins σ (upd H1 (hp.objs.size + 1) (exo (hp.objs.size + 1) C none)) ⟨(hp.push (PySem.W.kdv_tup us)).push (PySem.HandSPX.excO C hp.objs.size), g, dr, tk, os⟩ :=
    I1.laid (t' := tk) (a := hp.objs.size + 1) (o := exo (hp.objs.size + 1) C none) (h' := (hp.push (PySem.W.kdv_tup us)).push (PySem.HandSPX.excO C hp.objs.size)) kk hsz (exo_ok hget)
  have r2 : Vals (V.ref (hp.objs.size + 1) :: (vs ++ dvs)) (Value.ref (hp.objs.size + 1) :: (us ++ ds)) := .cons rfl (r1.append hd)
  have hl : (Value.ref (hp.objs.size + 1) :: us ++ ds).length = ps.length := by
    have e := r2.length
    rw [F1.len _ _ _ _ hq] at e
    exact e.symm
  have hus : us.length ≤ sizeLine := by
    rw [← Paired.length r1, sizeLine_eq]
    omega
  refine wpAny_call (PySem.HandSPX.call_own B.F (fun Y => has_tl Bc tl Y) (I1.kIn _ _ hC) (PySem.W.looks_findIn I1.kIn iC) (fun self => PySem.W.bind_fn I1.kIn self tI) hus
    (codeAny_mono (F1.run _ X.stack _ _ ⟨Value.ref (hp.objs.size + 1) :: us, []⟩ (Value.ref (hp.objs.size + 1) :: (us ++ ds)) _ _ (fun _ _ _ => False) (hr.make C us []) (I2.env0.make C us []) (hb _ (Value.ref (hp.objs.size + 1) :: us) I2.kIn hl) r2 hq) fun r s' hq' => ?_))
  cases r with
  | error er => exact hx pins σ _ _ er s' I2 hq'
  | ok fl =>
    cases fl with
    | ret u =>
      obtain ⟨v, H2, os2, bare2, un2, hok2, rv, ev, d, fs, ea, ed, hd1, q2⟩ := hq'
      subst ev
      obtain ⟨h2, g2, d2, t2, os'⟩ := s'
      exact ⟨rv, mk_end (raises_own T.hs tyC) I1 hsz kk un2 hok2 os2 bare2 ea ed hd1 q2⟩
    | next => exact False.elim hq'
    | brk => exact False.elim hq'
    | cont => exact False.elim hq'
end
end Xk

/-! Trees, their texts, the plain ones; no Python. -/
namespace Tq
inductive Tr where
  | leaf (b : Bool)
  | node (b : Bool) (ps : List Tr)
/-- a letter, an opening, a closing sign -/
def lc (b : Bool) : Nat := if b then 108 else 115
def oc (b : Bool) : Nat := if b then 91 else 40
def cc (b : Bool) : Nat := if b then 93 else 41
def jn : List (List Nat) → List Nat
  | [] => []
  | [x] => x
  | x :: y :: r => x ++ 32 :: jn (y :: r)
mutual
def tx : Tr → List Nat
  | .leaf b => [lc b]
  | .node b ps => oc b :: (jn (txs ps) ++ [cc b])
def txs : List Tr → List (List Nat)
  | [] => []
  | t :: r => tx t :: txs r
end
mutual
def lv : Tr → Nat
  | .leaf _ => 1
  | .node _ ps => lvs ps
def lvs : List Tr → Nat
  | [] => 0
  | t :: r => lv t + lvs r
end
mutual
def wf : Tr → Prop
  | .leaf _ => True
  | .node _ ps => 2 ≤ ps.length ∧ wfs ps
def wfs : List Tr → Prop
  | [] => True
  | t :: r => wf t ∧ wfs r
end
def le (a b : List Nat) : Bool := decide (a ≤ b)
def srt (l : List (List Nat)) : List (List Nat) := l.mergeSort le
mutual
/-- the texts that stand for a tree in brackets of a kind -/
def ls : Tr → Bool → List (List Nat)
  | .leaf b, _ => [[lc b]]
  | .node b ps, k => if b = k then lss ps k else [oc b :: (jn (srt (lss ps b)) ++ [cc b])]
def lss : List Tr → Bool → List (List Nat)
  | [], _ => []
  | t :: r, k => ls t k ++ lss r k
end
/-- the plain text -/
def pt : Tr → List Nat
  | .leaf b => [lc b]
  | .node b ps => oc b :: (jn (srt (lss ps b)) ++ [cc b])
def kd : Tr → Option Bool
  | .leaf _ => none
  | .node b _ => some b
mutual
def pl : Tr → Prop
  | .leaf _ => True
  | .node b ps => pls ps b ∧ (txs ps).Pairwise (fun x y => le x y = true)
def pls : List Tr → Bool → Prop
  | [], _ => True
  | t :: r, b => (pl t ∧ kd t ≠ some b) ∧ pls r b
end
/-! ### lists of trees -/
theorem txs_map : ∀ ps : List Tr, txs ps = ps.map tx
  | [] => rfl
  | t :: r => by rw [txs, txs_map r]; rfl
theorem lvs_app : ∀ a b : List Tr, lvs (a ++ b) = lvs a + lvs b
  | [], b => by simp [lvs]
  | t :: r, b => by rw [List.cons_append, lvs, lvs, lvs_app r b]; omega
theorem lss_app (k : Bool) : ∀ a b : List Tr, lss (a ++ b) k = lss a k ++ lss b k
  | [], b => by simp [lss]
  | t :: r, b => by rw [List.cons_append, lss, lss, lss_app k r b, List.append_assoc]
theorem txs_app (a b : List Tr) : txs (a ++ b) = txs a ++ txs b := by simp [txs_map]
theorem wfs_iff : ∀ a : List Tr, wfs a ↔ ∀ t ∈ a, wf t
  | [] => by simp [wfs]
  | t :: r => by rw [wfs, wfs_iff r]; simp
theorem pls_iff (b : Bool) : ∀ a : List Tr, pls a b ↔ ∀ t ∈ a, pl t ∧ kd t ≠ some b
  | [] => by simp [pls]
  | t :: r => by rw [pls, pls_iff b r]; simp
theorem lvs_perm {a b : List Tr} (h : a.Perm b) : lvs a = lvs b := by
  induction h with
  | nil => rfl
  | cons x _ ih => rw [lvs, lvs, ih]
  | swap x y l => rw [lvs, lvs, lvs, lvs]; omega
  | trans _ _ ih1 ih2 => rw [ih1, ih2]
theorem lss_perm {a b : List Tr} (k : Bool) (h : a.Perm b) : (lss a k).Perm (lss b k) := by
  induction h with
  | nil => exact .nil
  | cons x _ ih => rw [lss, lss]; exact ih.append_left _
  | swap x y l =>
    rw [lss, lss, lss, lss, ← List.append_assoc, ← List.append_assoc]
    exact List.perm_append_comm.append_right _
  | trans _ _ ih1 ih2 => exact ih1.trans ih2
theorem lv_pos : ∀ t : Tr, wf t → 1 ≤ lv t := by
  have two : ∀ (n : Nat) (t : Tr), sizeOf t ≤ n → wf t → 1 ≤ lv t := by
    intro n
    induction n with
    | zero =>
      intro t h
      cases t <;> simp at h
    | succ n ih =>
      intro t h w
      cases t with
      | leaf b => rw [lv]; exact Nat.le_refl _
      | node b ps =>
        rw [wf] at w
        match ps, w with
        | t :: r, w =>
          have w1 := w.2
          rw [wfs] at w1
          rw [lv, lvs]
          have hs : sizeOf t ≤ n := by
            simp at h
            omega
          have := ih t hs w1.1
          omega
        | [], w => exact absurd w.1 (by simp)
  exact fun t => two (sizeOf t) t (Nat.le_refl _)
theorem lvs_ge : ∀ ps : List Tr, wfs ps → ps.length ≤ lvs ps
  | [], _ => Nat.zero_le _
  | t :: r, w => by
    rw [wfs] at w
    have h1 := lv_pos t w.1
    have h2 := lvs_ge r w.2
    rw [lvs, List.length_cons]
    omega
theorem lv_part {ps : List Tr} {t : Tr} (w : wfs ps) (h2 : 2 ≤ ps.length) (h : t ∈ ps) : lv t < lvs ps := by
  obtain ⟨a, b, rfl⟩ := List.append_of_mem h
  have w2 := (wfs_iff _).mp w
  have wa := lvs_ge a ((wfs_iff _).mpr fun x hx => w2 x (by simp [hx]))
  have wb := lvs_ge b ((wfs_iff _).mpr fun x hx => w2 x (by simp [hx]))
  rw [lvs_app, lvs]
  simp at h2
  omega
/-! ### sorting -/
theorem le_iff {a b : List Nat} : le a b = true ↔ a ≤ b := by simp [le]
theorem le_tr (a b c : List Nat) (h1 : le a b = true) (h2 : le b c = true) : le a c = true := le_iff.mpr (List.le_trans (le_iff.mp h1) (le_iff.mp h2))
theorem le_tot (a b : List Nat) : (le a b || le b a) = true := by
  rcases List.le_total a b with h | h
  · simp [le_iff.mpr h]
  · simp [le_iff.mpr h]
theorem le_anti {a b : List Nat} (h1 : le a b = true) (h2 : le b a = true) : a = b := List.le_antisymm (le_iff.mp h1) (le_iff.mp h2)
theorem srt_pw (l : List (List Nat)) : (srt l).Pairwise (fun x y => le x y = true) := List.pairwise_mergeSort le_tr le_tot l
theorem srt_perm (l : List (List Nat)) : (srt l).Perm l := List.mergeSort_perm l le
theorem srt_uniq {l m : List (List Nat)} (h : m.Pairwise (fun x y => le x y = true)) (p : m.Perm l) : m = srt l :=
  List.Perm.eq_of_pairwise (fun a b _ _ h1 h2 => le_anti h1 h2) h (srt_pw l) (p.trans (srt_perm l).symm)
theorem srt_of_perm {l m : List (List Nat)} (p : l.Perm m) : srt l = srt m := srt_uniq (srt_pw l) ((srt_perm l).trans p)
/-! ### alike trees -/
theorem ls_other {t : Tr} {k : Bool} (h : kd t ≠ some k) : ls t k = [pt t] := by
  cases t with
  | leaf b => rw [ls, pt]
  | node b ps =>
    rw [ls, if_neg (fun e => h (by rw [kd, e])), pt]
theorem ls_same {k : Bool} {ps : List Tr} : ls (.node k ps) k = lss ps k := by rw [ls, if_pos rfl]
structure Sim (t u : Tr) : Prop where
  kd : Tq.kd t = Tq.kd u
  lv : Tq.lv t = Tq.lv u
  ls : ∀ k, (Tq.ls t k).Perm (Tq.ls u k)
theorem Sim.refl (t : Tr) : Sim t t := ⟨rfl, rfl, fun _ => .refl _⟩
theorem kd_free (t : Tr) : ∃ k, kd t ≠ some k := by
  cases t with
  | leaf b => exact ⟨true, nofun⟩
  | node b ps => exact ⟨!b, by cases b <;> simp [kd]⟩
theorem Sim.pt {t u : Tr} (h : Sim t u) : pt t = pt u := by
  obtain ⟨k, hk⟩ := kd_free t
  have q := h.ls k
  rw [ls_other hk, ls_other (by rw [← h.kd]; exact hk)] at q
  exact List.singleton_perm_singleton.mp q
theorem Sim.nd {b : Bool} {ps qs : List Tr} (h1 : lvs qs = lvs ps) (h2 : (lss qs b).Perm (lss ps b)) : Sim (.node b qs) (.node b ps) := by
  refine ⟨rfl, by rw [Tq.lv, Tq.lv, h1], fun k => ?_⟩
  by_cases e : b = k
  · subst e
    rw [ls_same, ls_same]
    exact h2
  · have hk : ∀ rs, Tq.kd (Tr.node b rs) ≠ some k := fun rs q => e (Option.some.inj q)
    rw [ls_other (hk _), ls_other (hk _), Tq.pt, Tq.pt, srt_of_perm h2]
theorem lss_plain {b : Bool} : ∀ {qs : List Tr}, (∀ t ∈ qs, Tq.pt t = tx t) → pls qs b → lss qs b = txs qs
  | [], _, _ => by rw [lss, txs]
  | t :: r, h, p => by
    rw [pls] at p
    rw [lss, txs, ls_other p.1.2, h t (List.mem_cons_self ..), lss_plain (fun x hx => h x (List.mem_cons_of_mem _ hx)) p.2]
    rfl
theorem pl_pt : ∀ t : Tr, pl t → pt t = tx t := by
  have two : ∀ (n : Nat) (t : Tr), sizeOf t ≤ n → pl t → pt t = tx t := by
    intro n
    induction n with
    | zero =>
      intro t h
      cases t <;> simp at h
    | succ n ih =>
      intro t h p
      cases t with
      | leaf b => rw [pt, tx]
      | node b ps =>
        rw [pl] at p
        have e : lss ps b = txs ps := lss_plain (fun t ht => ih t (by
          have := List.sizeOf_lt_of_mem ht
          simp at h
          omega) (((pls_iff b ps).mp p.1) t ht).1) p.1
        rw [pt, tx, e, ← srt_uniq p.2 (.refl _)]
  exact fun t => two (sizeOf t) t (Nat.le_refl _)
/-- a flattened node's parts, sorted -/
theorem flat_end {b : Bool} {ps qs rs : List Tr} (h1 : lvs qs = lvs ps) (h2 : (lss qs b).Perm (lss ps b)) (h3 : wfs qs) (h4 : pls qs b) (h5 : 2 ≤ qs.length) (p : rs.Perm qs) (hs : (txs rs).Pairwise (fun x y => le x y = true)) :
    Sim (.node b rs) (.node b ps) ∧ wf (.node b rs) ∧ pl (.node b rs) := by
  refine ⟨Sim.nd ((lvs_perm p).trans h1) ((lss_perm b p).trans h2), ?_, ?_⟩
  · rw [wf]
    exact ⟨by rw [p.length_eq]; exact h5, (wfs_iff _).mpr fun t ht => (wfs_iff _).mp h3 t (p.mem_iff.mp ht)⟩
  · rw [pl]
    exact ⟨(pls_iff b _).mpr fun t ht => (pls_iff b _).mp h4 t (p.mem_iff.mp ht), hs⟩
end Tq

/-! Reading a text. -/
namespace Tq
/-- rows (the top one, those below), what is open, whether a tree is wanted -/
structure MS where
  r : List Tr
  rs : List (List Tr)
  op : List Bool
  w : Bool
def stp (m : MS) (c : Nat) : Option MS :=
  if m.w = true ∧ (c = 108 ∨ c = 115) then some ⟨m.r ++ [.leaf (decide (c = 108))], m.rs, m.op, false⟩
  else if m.w = true ∧ (c = 91 ∨ c = 40) then some ⟨[], m.r :: m.rs, decide (c = 91) :: m.op, true⟩
  else match m.op with
    | [] => none
    | b :: op' => if m.w = true then none else if c = 32 then some ⟨m.r, m.rs, m.op, true⟩
      else if c = cc b ∧ 1 < m.r.length then match m.rs with
        | [] => none
        | r' :: rs' => some ⟨r' ++ [.node b m.r], rs', op', false⟩
      else none
def run : MS → List Nat → Option MS
  | m, [] => some m
  | m, c :: l => match stp m c with
    | none => none
    | some m' => run m' l
theorem run_of {m m' : MS} {c : Nat} {l : List Nat} (h : stp m c = some m') : run m (c :: l) = run m' l := by rw [run, h]
theorem stp_leaf (b : Bool) (r : List Tr) (rs : List (List Tr)) (op : List Bool) : stp ⟨r, rs, op, true⟩ (lc b) = some ⟨r ++ [.leaf b], rs, op, false⟩ := by
  cases b <;> simp [stp, lc]
theorem stp_open (b : Bool) (r : List Tr) (rs : List (List Tr)) (op : List Bool) : stp ⟨r, rs, op, true⟩ (oc b) = some ⟨[], r :: rs, b :: op, true⟩ := by
  cases b <;> simp [stp, oc]
theorem stp_space (b : Bool) (r : List Tr) (rs : List (List Tr)) (op : List Bool) : stp ⟨r, rs, b :: op, false⟩ 32 = some ⟨r, rs, b :: op, true⟩ := by
  simp [stp]
theorem stp_close (b : Bool) (r r' : List Tr) (rs : List (List Tr)) (op : List Bool) (h : 1 < r.length) : stp ⟨r, r' :: rs, b :: op, false⟩ (cc b) = some ⟨r' ++ [.node b r], rs, op, false⟩ := by
  cases b <;> simp [stp, cc, h]
theorem run_tx : ∀ (n : Nat) (t : Tr), sizeOf t ≤ n → wf t → ∀ r rs op l, run ⟨r, rs, op, true⟩ (tx t ++ l) = run ⟨r ++ [t], rs, op, false⟩ l := by
  intro n
  induction n with
  | zero =>
    intro t h
    cases t <;> simp at h
  | succ n ih =>
    intro t h w r rs op l
    cases t with
    | leaf b =>
      rw [tx, List.cons_append, List.nil_append, run_of (stp_leaf b r rs op)]
    | node b ps =>
      rw [wf] at w
      have inner : ∀ (qs : List Tr), qs ≠ [] → (∀ t ∈ qs, t ∈ ps) → ∀ acc l, run ⟨acc, r :: rs, b :: op, true⟩ (jn (txs qs) ++ l) = run ⟨acc ++ qs, r :: rs, b :: op, false⟩ l := by
        intro qs
        induction qs with
        | nil => intro h; exact absurd rfl h
        | cons t qs ihq =>
          intro _ hm acc l
          have ht : sizeOf t ≤ n := by
            have := List.sizeOf_lt_of_mem (hm t (List.mem_cons_self ..))
            simp at h
            omega
          have wt : wf t := (wfs_iff _).mp w.2 t (hm t (List.mem_cons_self ..))
          cases qs with
          | nil =>
            rw [txs, txs, jn]
            exact ih t ht wt _ _ _ _
          | cons u qs =>
            have e : jn (txs (t :: u :: qs)) ++ l = tx t ++ (32 :: (jn (txs (u :: qs)) ++ l)) := by
              rw [txs, txs, jn]
              simp
            rw [e, ih t ht wt, run_of (stp_space _ _ _ _), ihq (by simp) (fun x hx => hm x (List.mem_cons_of_mem _ hx))]
            simp
      have e : tx (.node b ps) ++ l = oc b :: (jn (txs ps) ++ (cc b :: l)) := by
        rw [tx]
        simp
      have ne : ps ≠ [] := fun z => by
        rw [z] at w
        exact absurd w.1 (by simp)
      rw [e, run_of (stp_open _ _ _ _), inner ps ne (fun _ h => h) [] (cc b :: l), List.nil_append, run_of (stp_close _ _ _ _ _ w.1)]
theorem run_all (t : Tr) (w : wf t) : run ⟨[], [], [], true⟩ (tx t) = some ⟨[t], [], [], false⟩ := by
  have q := run_tx (sizeOf t) t (Nat.le_refl _) w [] [] [] []
  rw [List.append_nil] at q
  rw [q]
  rfl
/-! ### letters are counted -/
def ct (l : List Nat) : Nat := l.count 108 + l.count 115
theorem ct_app (a b : List Nat) : ct (a ++ b) = ct a + ct b := by
  unfold ct
  rw [List.count_append, List.count_append]
  omega
theorem ct_cons (c : Nat) (l : List Nat) : ct (c :: l) = ct [c] + ct l := ct_app [c] l
theorem ct_jn : ∀ l : List (List Nat), ct (jn l) = (l.map ct).sum
  | [] => rfl
  | [x] => by simp [jn]
  | x :: y :: r => by
    rw [jn, ct_app, ct_cons, ct_jn (y :: r)]
    simp [ct]
theorem ct_tx : ∀ (n : Nat) (t : Tr), sizeOf t ≤ n → ct (tx t) = lv t := by
  intro n
  induction n with
  | zero =>
    intro t h
    cases t <;> simp at h
  | succ n ih =>
    intro t h
    cases t with
    | leaf b => cases b <;> rfl
    | node b ps =>
      have e : ∀ qs : List Tr, (∀ t ∈ qs, t ∈ ps) → ((txs qs).map ct).sum = lvs qs := by
        intro qs
        induction qs with
        | nil => intro _; rfl
        | cons t qs ihq =>
          intro hm
          have ht : sizeOf t ≤ n := by
            have := List.sizeOf_lt_of_mem (hm t (List.mem_cons_self ..))
            simp at h
            omega
          rw [txs, lvs, List.map_cons, List.sum_cons, ih t ht, ihq (fun x hx => hm x (List.mem_cons_of_mem _ hx))]
      rw [tx, lv, ct_cons, ct_app, ct_jn, e ps (fun _ h => h)]
      cases b <;> simp [ct, oc, cc]
theorem ct_lv (t : Tr) : ct (tx t) = lv t := ct_tx _ t (Nat.le_refl _)
/-! ### lengths -/
theorem jn_len : ∀ l : List (List Nat), (jn l).length + 1 = (l.map (fun x => x.length + 1)).sum ∨ l = []
  | [] => .inr rfl
  | [x] => .inl (by simp [jn])
  | x :: y :: r => .inl (by
    rcases jn_len (y :: r) with q | q
    · rw [jn, List.length_append, List.length_cons, List.map_cons, List.sum_cons, ← q]
      omega
    · cases q)
theorem jn_len_le (l : List (List Nat)) : (jn l).length ≤ (l.map (fun x => x.length + 1)).sum := by
  rcases jn_len l with q | q
  · omega
  · rw [q]; exact Nat.zero_le _
theorem sum_perm {l m : List (List Nat)} (h : l.Perm m) : (l.map (fun x => x.length + 1)).sum = (m.map (fun x => x.length + 1)).sum := by
  induction h with
  | nil => rfl
  | cons x _ ih => simp only [List.map_cons, List.sum_cons, ih]
  | swap x y l => simp only [List.map_cons, List.sum_cons]; omega
  | trans _ _ a b => rw [a, b]
/-- what is long at most 6 times as long as it has leaves, less 5 -/
theorem len_tx : ∀ (n : Nat) (t : Tr), sizeOf t ≤ n → wf t → (tx t).length + 3 ≤ 4 * lv t := by
  intro n
  induction n with
  | zero =>
    intro t h
    cases t <;> simp at h
  | succ n ih =>
    intro t h w
    cases t with
    | leaf b => rw [tx, lv]; exact Nat.le_refl _
    | node b ps =>
      rw [wf] at w
      have e : ∀ qs : List Tr, (∀ t ∈ qs, t ∈ ps) → ((txs qs).map (fun x => x.length + 1)).sum + 2 * qs.length ≤ 4 * lvs qs := by
        intro qs
        induction qs with
        | nil => intro _; exact Nat.zero_le _
        | cons t qs ihq =>
          intro hm
          have ht : sizeOf t ≤ n := by
            have := List.sizeOf_lt_of_mem (hm t (List.mem_cons_self ..))
            simp at h
            omega
          have q1 := ih t ht ((wfs_iff _).mp w.2 t (hm t (List.mem_cons_self ..)))
          have q2 := ihq (fun x hx => hm x (List.mem_cons_of_mem _ hx))
          rw [txs, lvs, List.map_cons, List.sum_cons, List.length_cons]
          omega
      have q := e ps (fun _ h => h)
      have j := jn_len (txs ps)
      rw [tx, lv, List.length_cons, List.length_append, List.length_singleton]
      have := w.1
      rcases j with j | j
      · omega
      · rw [j]
        have : (jn []).length = 0 := rfl
        have := lvs_ge ps w.2
        omega
theorem len_lv (t : Tr) (w : wf t) : (tx t).length + 3 ≤ 4 * lv t := len_tx _ t (Nat.le_refl _) w
end Tq

/-! Texts as lists of signs. -/
namespace Tq
open PySem PySem.Spec PyProof.Rows L2 SX Builtin Builtin.Str
theorem jn_join : ∀ l : List (List Nat), jn l = TL.joinL [32] l
  | [] => rfl
  | [x] => by simp [jn, TL.joinL]
  | x :: y :: r => by
    rw [jn, jn_join (y :: r)]
    simp [TL.joinL]
theorem join_jn (l : List (List Nat)) : Txt.join (S [32]) (l.map S) = S (jn l) := by rw [join_S, jn_join]
theorem occ_cnt (a : List Nat) (c : Nat) : ∀ (m i : Nat) (st : Array Nat × Nat), i + m = a.length + 1 → st.2 ≤ i → st.1.size ≤ i →
    (forIn (List.range' i m) st (StrLaws.occBody (S a) (S [c]) (S a).length ((S a).length + 1))).run.fst.size = st.1.size + (a.drop i).count c
  | 0, i, st, h, _, _ => by
    have e : a.drop i = [] := List.drop_eq_nil_of_le (by omega)
    rw [e]
    simp
  | m + 1, i, st, h, h1, h2 => by
    rw [List.range'_succ, List.forIn_cons]
    have hl : (S a).length = a.length := S_len a
    have key := StrLaws.subAt_one (S a) c i
    have e1 : (S a).cps.toList = a := rfl
    rw [e1] at key
    unfold StrLaws.occBody
    by_cases q : a[i]? = some c
    · obtain ⟨k1, k2⟩ := key.mpr q
      have hi : i < a.length := by
        rw [List.getElem?_eq_some_iff] at q
        exact q.1
      rw [if_pos ⟨⟨⟨by omega, h1⟩, k1⟩, k2⟩]
      have r := occ_cnt a c m (i + 1) (st.1.push i, i + (S [c]).length) (by omega) (by show i + 1 ≤ i + 1; omega) (by rw [Array.size_push]; omega)
      have d : a.drop i = c :: a.drop (i + 1) := by
        rw [List.drop_eq_getElem_cons hi]
        rw [List.getElem?_eq_getElem hi] at q
        rw [Option.some.inj q]
      rw [d, List.count_cons_self]
      refine Eq.trans r ?_
      rw [Array.size_push]
      omega
    · rw [if_neg (fun z => q (key.mp ⟨z.1.2, z.2⟩))]
      have r := occ_cnt a c m (i + 1) (st.1, st.2) (by omega) (by show st.2 ≤ i + 1; omega) (by show st.1.size ≤ i + 1; omega)
      have d : (a.drop i).count c = (a.drop (i + 1)).count c := by
        by_cases hi : i < a.length
        · rw [List.drop_eq_getElem_cons hi, List.count_cons_of_ne]
          intro z
          rw [List.getElem?_eq_getElem hi] at q
          exact q (by rw [z])
        · rw [List.drop_eq_nil_of_le (by omega), List.drop_eq_nil_of_le (by omega)]
      rw [d]
      exact r
theorem count_S (a : List Nat) (c : Nat) : Txt.count (S a) (S [c]) = ((a.count c : Nat) : Int) := by
  unfold Txt.count
  rw [StrLaws.occ_eq, Array.length_toList]
  have q := occ_cnt a c (a.length + 1) 0 (#[], 0) (by omega) (Nat.le_refl _) (Nat.zero_le _)
  have hl : (S a).length = a.length := S_len a
  have e : (S a).length + 1 - 0 = a.length + 1 := by omega
  rw [e]
  rw [q]
  simp
/-! ### sorted texts, sorted pairs -/
theorem dle_str : PySem.W.dataLe false (fun b : List Nat => PyData.str (S b)) = le := by
  rw [PySem.W.dataLe_str]
  rfl
def encP (b : List Nat × Nat) : PyData := .tuple [.str (S b.1), .int (b.2 : Nat)]
theorem dle_pair {b c : List Nat × Nat} (h : PySem.W.dataLe false encP b c = true) : le b.1 c.1 = true := by
  rw [PySem.W.dataLe_eq] at h
  have h2 : (!PySem.W.dataLt (encP c) (encP b)) = true := h
  unfold encP at h2
  rw [PySem.W.dataLt_pair (by simp [PySem.W.alike]) (by simp [PySem.W.alike])] at h2
  by_cases e : PyData.eqv (.str (S c.1)) (.str (S b.1)) = true
  · have e2 : S c.1 = S b.1 := by simpa [PyData.eqv] using e
    rw [S_inj e2]
    exact le_iff.mpr (List.le_refl _)
  · rw [if_neg e] at h2
    have h3 : PySem.W.dataLt (.str (S c.1)) (.str (S b.1)) = false := by simpa using h2
    have h4 := congrFun (congrFun dle_str b.1) c.1
    rw [PySem.W.dataLe_eq] at h4
    have h5 : (!PySem.W.dataLt (.str (S c.1)) (.str (S b.1))) = le b.1 c.1 := h4
    rw [h3] at h5
    exact h5.symm
theorem dle_sorted (l : List (List Nat × Nat)) : ((l.mergeSort (PySem.W.dataLe false encP)).map Prod.fst).Pairwise (fun x y => le x y = true) := by
  have T := PySem.W.sortLe_total (PyProof.Rows.listOrd PyProof.Rows.itemOrd) false fun b => PySem.W.keyToks (encP b)
  refine List.pairwise_map.mpr (List.Pairwise.imp (fun {b c} h => dle_pair h) (List.pairwise_mergeSort T.trans (fun a b => Bool.or_eq_true_iff.mpr (T.total a b)) l))
end Tq

/-! The defs' promises in one form; rules of its own. -/
namespace Zq
open PySem PySem.Spec PyProof.Rows L2 SX Tq
theorem pss_nv {X : Cx} {e : List Stmt} : PSs X e (fun _ _ _ => False) := ⟨fun _ _ _ _ _ _ h => False.elim h⟩
theorem same_new {H : Hp} {p : Addr} {o : HO} (hp : H p = none) : Same H (upd H p o) := fun b u e => by
  rw [upd_ne (ne_of_none e hp)]
  exact e
def top (i : Nat) : Stmt := PySem.Challenge.pw_likepanes_k42_whole_texts_of_trees.main.body.getD i (.Pass ⟨0, 0, 0, 0⟩)
/-- called with args a, where ask holds -/
def Prx {α : Type} (args : α → List V) (ask : α → Hp → VK → Prop) : Sp := fun vs H Q _ => ∃ a, vs = args a ∧ ask a H Q
/-- a def of the module that keeps a promise, as it is called by its name -/
structure Cal (P : Program) (w : World) (K : PySem.W.Frag) (mg : Str → Option Value) (base : Heap) (k : Nat) (x : Str) (ps : List Str) (sp : Sp) : Prop where
  ex : ∃ f fd, FnOk P w K mg base L2.CX0 k f fd ps sp ∧ Binds K fd ps [] ∧ mg x = some (.ref f) ∧ PySem.W.keepIn K (.ref f) = true ∧ ∃ oc od osl, K.lookup f = some ⟨oc, od, .func fd, osl⟩
/-- the def st stands under its name -/
structure Df (K : PySem.W.Frag) (mg : Str → Option Value) (x : Str) (st : Stmt) : Prop where
  ex : ∃ f fd, Fun K x x st f fd ∧ mg x = some (.ref f)
section
variable {X : Cx} {k j : Nat} {ps : List Str} {sp : Sp} {x : Str} {p pos : Pos} {e : Expr} {es : List Expr} {t : TA}
theorem pe_cl (C : Cal X.prog X.w X.K X.mg X.base k x ps sp) (hr : Room j X.A) (hkj : k ≤ j) (ha : PA X (e :: es) t) (hg : Gl X x := by rfl) (hdb : (x == ("__debug__" : Str)) = false := by decide)
    (he : starEach (e :: es) X.env = (false, eval e X.env) :: starEach es X.env := by rfl) (hpl : (backTo pos (starEach es X.env)).any (·.1) = false := by rfl) :
    PE X (.Call (.Name x p) (e :: es) [] pos) (tCall sp [] L2.E0 t) := by
  obtain ⟨f, fd, F, b, m, kp, _⟩ := C.ex
  exact pe_call F (hr.mono hkj) hg m kp b .nil L2.pass0 ha hdb he hpl
end
theorem mkC {P : Program} {w : World} {K : PySem.W.Frag} {mg : Str → Option Value} {base : Heap} {α : Type} {args : α → List V} {ask : α → Hp → VK → Prop} {N ps : List Str} {x : Str} {st : Stmt} {k : Nat}
    (D : Df K mg x st) (S : FnScope N ps (defScope st))
    (hb : ∀ (kV doc pm : Value) (an : Option Addr) (cdv ct : Value) (us : List Value), us.length = ps.length → bindArgs (PySem.W.fnOf x x (defArgs st) (defBody st) (defScope st) .none kV doc pm an cdv ct) ⟨us, []⟩ = pure (ps.zip us))
    (hl : ∀ a : α, (args a).length = ps.length)
    (h : ∀ (f : Addr) (cdv : Value) (A : Around) (outer : List Env) (s : Shared) (H : Hp) (a : α) (Q : VK) (E : XK), Room k (A.deeper (envOfC x (defScope st) s.heap.objs.size f cdv)) → ask a H Q →
      ∃ t, PSs (cxOf L2.CX0 P w K mg base N x (defScope st) f cdv A outer s H E).nox (defBody st) t ∧ t { nx := fun _ H' => Q .non H', rt := Q } (L2.start N (args a)) H) :
    Cal P w K mg base (k + 1) x ps (Prx args ask) := by
  obtain ⟨f, fd, F, m⟩ := D.ex
  have lk : ∃ oc od osl, K.lookup f = some ⟨oc, od, .func fd, osl⟩ := by
    obtain ⟨oc, od, kV, doc, pm, an, cdv, ct, osl, _, lk, _⟩ := F.ex
    exact ⟨oc, od, osl, lk⟩
  refine ⟨f, fd, F.ok S (fun vs H Q E h => ?_) (fun cdv A outer s H vs Q E hr hp => ?_), F.binds hb, m, F.kp, lk⟩
  · obtain ⟨a, rfl, _⟩ := h
    exact hl a
  · obtain ⟨a, rfl, hpre⟩ := hp
    exact h f cdv A outer s H a Q E hr hpre
/-- of two promises either -/
def OrS (a b : Sp) : Sp := fun vs H Q E => a vs H Q E ∨ b vs H Q E
/-- the built-ins' names are free, the constants stand -/
structure Bl (w : World) (K : PySem.W.Frag) (mg : Str → Option Value) : Prop where
  isinstance_ : mg "isinstance" = none
  int_ : mg "int" = none
  tuple_ : mg "tuple" = none
  str_ : mg "str" = none
  len_ : mg "len" = none
  all_ : mg "all" = none
  range_ : mg "range" = none
  max_ : mg "max" = none
  min_ : mg "min" = none
  abs_ : mg "abs" = none
  divmod_ : mg "divmod" = none
  sorted_ : mg "sorted" = none
  leaves_ : ∃ t, mg "MOST_LEAVES" = some (.int 12 t)
  lies_ : ∃ t, mg "LIES" = some (.str "l" t)
  stands_ : ∃ t, mg "STANDS" = some (.str "s" t)
  cols_ : ∃ t, mg "COLUMNS" = some (.str "[" t)
  rows_ : ∃ t, mg "ROWS" = some (.str "(" t)
  clo_ : ∃ d es n, mg "CLOSING" = some (.ref d) ∧ KDict K w d es n ∧ (∃ t, PySem.W.nsIn K d "[" = some (some (.str "]" t))) ∧ (∃ t, PySem.W.nsIn K d "(" = some (some (.str ")" t)))
theorem gn {i : Nat} {v : V} {σ : L2.St} {H : Hp} {Q : L2.St → Hp → Prop} : gName i v σ H Q = Q (σ.set i (some v)) H := rfl
section
variable {P : Program} {w : World} {K : PySem.W.Frag} {mg : Str → Option Value} {base : Heap} {X : Cx}
theorem pe_isi {e : Expr} {te : TE} {p p2 pos : Pos} {x : Str} {v : V} {u : Value} (hg : Gl X "isinstance") (hm : X.mg "isinstance" = none) (he : PE X e te) (hg2 : Gl X x) (hm2 : X.mg x = none) (hv : bootBuiltins x = some u) (r : RelV v u)
    (hst : starEach [e, .Name x p2] X.env = (false, eval e X.env) :: starEach [.Name x p2] X.env := by rfl)
    (hn : x ≠ "__name__" := by decide) (hd : (x == ("__debug__" : Str)) = false := by decide) :
    PE X (.Call (.Name "isinstance" p) [e, .Name x p2] [] pos) (tCB (rIsi X.K) (tCons te (tCons (tC v) tNil))) :=
  pe_callB call_isi hg hm (by decide +kernel) (pa_cons he (pa_cons (pe_bltn hg2 hm2 hv r hn hd) pa_nil) hst) (by decide) (by decide) hst
/-- D[x], D a dict of the module -/
theorem ix_kd {d : Addr} {es : Array DictEntry} {n : Nat} (D : KDict X.K X.w d es n) :
    IxR X (fun x y H Q => ∃ (z : Str) (u0 : Value) (v0 : V), x = .ref d ∧ y = .str z ∧ PySem.W.nsIn X.K d z = some (some u0) ∧ RelV v0 u0 ∧ Q v0 H) := by
  intro value slice pins s σ H x y v u Q I rx ry h hs
  obtain ⟨z, u0, v0, rfl, rfl, e, r, q⟩ := h
  cases rx
  obtain ⟨t, rfl⟩ := ry
  refine tail_any (kd_type D I) slot_dict_getitem.lookup ?_ hs
  exact wpAny_getItem_of (PySem.strKind_is X.prog X.w z t) (PySem.W.mapOf_K (prog := X.prog) I.kIn D.at_ D.lit) (PySem.W.find_K D.at_ e) ⟨v0, H, I.tok _, r, q⟩
end
/-! ### sorted -/
section
variable {X : Cx}
open PySem.W
theorem each_dp {β : Type} {enc : β → PyData} {pins : List (Addr × Obj)} {σ : L2.St} {H : Hp} {s : Shared} (I : Inv X pins σ H s) : ∀ {xs : List V} {bs : List β} {us : List Value}, EachIs (fun x b => Dp X.K H x (enc b)) xs bs → Vals xs us →
    EachIs (fun u b => ∃ x, RelV x u ∧ Dp X.K H x (enc b)) us bs ∧ EachIs (fun v b => ∃ as, Reads s.heap v (enc b) as) us bs
  | _, _, _, .nil, .nil => ⟨.nil, .nil⟩
  | _, _, _, .cons e r, .cons q t => by
    obtain ⟨h1, h2⟩ := each_dp I r t
    exact ⟨.cons ⟨_, q, e⟩ h1, .cons (Dp.reads I _ _ _ e q) h2⟩
theorem each_back {β : Type} {enc : β → PyData} {H : Hp} : ∀ {us : List Value} {bs : List β}, EachIs (fun u b => ∃ x, RelV x u ∧ Dp X.K H x (enc b)) us bs → ∃ xs, Vals xs us ∧ EachIs (fun x b => Dp X.K H x (enc b)) xs bs
  | _, _, .nil => ⟨[], .nil, .nil⟩
  | _, _, .cons e r => by
    obtain ⟨x, q, d⟩ := e
    obtain ⟨xs, h1, h2⟩ := each_back r
    exact ⟨x :: xs, .cons q h1, .cons d h2⟩
def rSrt (β : Type) (enc : β → PyData) (K : PySem.W.Frag) : List V → Hp → VK → Prop := fun vs H Q => ∃ (a : Addr) (xs : List V) (bs : List β), vs = [.ref a] ∧ SqL K H a xs ∧ EachIs (fun x b => Dp K H x (enc b)) xs bs ∧
  ∀ ys p, EachIs (fun x b => Dp K H x (enc b)) ys (bs.mergeSort (dataLe false enc)) → H p = none → Q (.ref p) (upd H p (.lst ys))
theorem cr_srt {β : Type} {enc : β → PyData} (hu : X.A.units + 12 < cLine) (hal : ∀ b c, alike (enc b) (enc c) = true) (hk : ∀ bs : List β, Sortable (bs.map enc)) (hd : ∀ b, (enc b).depth ≤ 5) : CallR X (.builtin "sorted") (rSrt β enc X.K) := by
  intro pins s σ H vs us Q I r h
  obtain ⟨a, xs, bs, rfl, hs, he, q⟩ := h
  obtain ⟨its, rv, hl, hz⟩ := I.list hs
  rw [Vals.ref1 r]
  obtain ⟨e1, e2⟩ := each_dp I he rv
  have hlen : bs.length ≤ sizeLine := by rw [← he.length]; exact hz
  refine sorted_data hl.isList e1 e2 (AllAlike.of hal) (hk bs) hlen (fun b _ => by have := hd b; omega) fun out hol hout => ?_
  obtain ⟨ys, rys, eys⟩ := each_back hout
  obtain ⟨ep, he'⟩ := PyProof.Rows.sortedAll_at s.heap its (List.toArray out)
  have hys : ys.length ≤ sizeLine := by rw [eys.length, List.length_mergeSort]; exact hlen
  exact ⟨.ref _, upd H (s.heap.objs.size + 1) (.lst ys), I.laid (t' := s.toks) (fun _ _ => PyProof.Rows.sortedAll_old) (Nat.le_succ _) ⟨hys, out, ep, rys, he'⟩, rfl, q ys _ eys (I.hok.fresh (Nat.le_succ _))⟩
end
end Zq

/-! Trees in the heap. -/
namespace Zq
open PySem PySem.Spec PyProof.Rows L2 SX Tq
/-- all but r stays -/
def SameX (r : Addr) (H H' : Hp) : Prop := ∀ b o, b ≠ r → H b = some o → H' b = some o
theorem SameX.of {r : Addr} {H H' : Hp} (k : Same H H') : SameX r H H' := fun b o _ e => k b o e
theorem SameX.trans {r : Addr} {H H1 H2 : Hp} (a : SameX r H H1) (b : SameX r H1 H2) : SameX r H H2 := fun c o n e => b c o n (a c o n e)
theorem SameX.put {r : Addr} {H : Hp} {o : HO} : SameX r H (upd H r o) := fun b u n e => by
  rw [upd_ne n]
  exact e
theorem SameX.putN {r p : Addr} {H0 H1 : Hp} {o : HO} (s : SameX r H0 H1) (h : H0 p = none) : SameX r H0 (upd H1 p o) := fun b u n e => by
  rw [upd_ne (ne_of_none e h)]
  exact s b u n e
def rk (a b c : Int) : HO := .lst [.int a, .int b, .int c]
def RkI (H : Hp) (r : Addr) : Prop := ∃ a b c, H r = some (rk a b c)
theorem RkI.same {H H' : Hp} {r : Addr} (s : Same H H') (h : RkI H r) : RkI H' r := by
  obtain ⟨a, b, c, e⟩ := h
  exact ⟨a, b, c, s _ _ e⟩
theorem RkI.ne {H : Hp} {r p : Addr} (h : RkI H r) (hp : H p = none) : r ≠ p := by
  obtain ⟨a, b, c, e⟩ := h
  exact ne_of_none e hp
theorem RkI.putN {H : Hp} {r p : Addr} {o : HO} (h : RkI H r) (hp : r ≠ p) : RkI (upd H p o) r := by
  obtain ⟨a, b, c, e⟩ := h
  exact ⟨a, b, c, by rw [upd_ne hp]; exact e⟩
/-! ### the law's trees -/
mutual
/-- at v stands the tree, its objects in F -/
def Lw (F : Addr → Prop) (H : Hp) : Tr → V → Prop
  | .leaf b, v => v = .str (S [lc b])
  | .node b ps, v => ∃ a l vs, v = .ref a ∧ F a ∧ F l ∧ H a = some (.tup [.str (S [oc b]), .ref l]) ∧ H l = some (.lst vs) ∧ LwA F H ps vs
def LwA (F : Addr → Prop) (H : Hp) : List Tr → List V → Prop
  | [], vs => vs = []
  | t :: r, vs => ∃ v us, vs = v :: us ∧ Lw F H t v ∧ LwA F H r us
end
section
variable {F G : Addr → Prop} {H H' : Hp}
mutual
theorem Lw.mono (hF : ∀ a o, F a → H a = some o → G a ∧ H' a = some o) : ∀ (t : Tr) (v : V), Lw F H t v → Lw G H' t v
  | .leaf b, v, h => by
    rw [Lw] at h ⊢
    exact h
  | .node b ps, v, h => by
    rw [Lw] at h ⊢
    obtain ⟨a, l, vs, e, fa, fl, ha, hl, h⟩ := h
    exact ⟨a, l, vs, e, (hF _ _ fa ha).1, (hF _ _ fl hl).1, (hF _ _ fa ha).2, (hF _ _ fl hl).2, LwA.mono hF ps vs h⟩
theorem LwA.mono (hF : ∀ a o, F a → H a = some o → G a ∧ H' a = some o) : ∀ (ps : List Tr) (vs : List V), LwA F H ps vs → LwA G H' ps vs
  | [], vs, h => by
    rw [LwA] at h ⊢
    exact h
  | t :: r, vs, h => by
    rw [LwA] at h ⊢
    obtain ⟨v, us, e, h1, h2⟩ := h
    exact ⟨v, us, e, Lw.mono hF t v h1, LwA.mono hF r us h2⟩
end
end
theorem Lw.same {F : Addr → Prop} {H H' : Hp} {t : Tr} {v : V} (s : Same H H') (h : Lw F H t v) : Lw F H' t v := Lw.mono (fun a o f e => ⟨f, s a o e⟩) t v h
theorem LwA.same {F : Addr → Prop} {H H' : Hp} {ps : List Tr} {vs : List V} (s : Same H H') (h : LwA F H ps vs) : LwA F H' ps vs := LwA.mono (fun a o f e => ⟨f, s a o e⟩) ps vs h
/-- no object of it is the rack -/
theorem lwA_int {F : Addr → Prop} {H : Hp} {ps : List Tr} {i : Int} {us : List V} (h : LwA F H ps (.int i :: us)) : False := by
  cases ps with
  | nil =>
    rw [LwA] at h
    cases h
  | cons t r =>
    rw [LwA] at h
    obtain ⟨v, us', e, h1, _⟩ := h
    cases e
    cases t with
    | leaf b =>
      rw [Lw] at h1
      cases h1
    | node b ps =>
      rw [Lw] at h1
      obtain ⟨a, l, vs, e, _⟩ := h1
      cases e
section
variable {F : Addr → Prop} {H : Hp} {r : Addr}
mutual
theorem Lw.away (hR : RkI H r) : ∀ (t : Tr) (v : V), Lw F H t v → Lw (fun a => F a ∧ a ≠ r) H t v
  | .leaf b, v, h => by
    rw [Lw] at h ⊢
    exact h
  | .node b ps, v, h => by
    rw [Lw] at h ⊢
    obtain ⟨a, l, vs, e, fa, fl, ha, hl, h⟩ := h
    obtain ⟨x, y, z, er⟩ := hR
    refine ⟨a, l, vs, e, ⟨fa, fun q => ?_⟩, ⟨fl, fun q => ?_⟩, ha, hl, LwA.away ⟨x, y, z, er⟩ ps vs h⟩
    · rw [q, er] at ha
      cases ha
    · rw [q, er] at hl
      cases hl
      exact lwA_int h
theorem LwA.away (hR : RkI H r) : ∀ (ps : List Tr) (vs : List V), LwA F H ps vs → LwA (fun a => F a ∧ a ≠ r) H ps vs
  | [], vs, h => by
    rw [LwA] at h ⊢
    exact h
  | t :: q, vs, h => by
    rw [LwA] at h ⊢
    obtain ⟨v, us, e, h1, h2⟩ := h
    exact ⟨v, us, e, Lw.away hR t v h1, LwA.away hR q us h2⟩
end
end
theorem Lw.sameX {F : Addr → Prop} {H H' : Hp} {r : Addr} {t : Tr} {v : V} (hR : RkI H r) (s : SameX r H H') (h : Lw F H t v) : Lw F H' t v :=
  Lw.mono (fun a o f e => ⟨f.1, s a o f.2 e⟩) t v (Lw.away hR t v h)
theorem LwA.sameX {F : Addr → Prop} {H H' : Hp} {r : Addr} {ps : List Tr} {vs : List V} (hR : RkI H r) (s : SameX r H H') (h : LwA F H ps vs) : LwA F H' ps vs :=
  LwA.mono (fun a o f e => ⟨f.1, s a o f.2 e⟩) ps vs (LwA.away hR ps vs h)
theorem LwA.length {F : Addr → Prop} {H : Hp} : ∀ {ps : List Tr} {vs : List V}, LwA F H ps vs → vs.length = ps.length
  | [], vs, h => by
    rw [LwA] at h
    rw [h]
    rfl
  | t :: r, vs, h => by
    rw [LwA] at h
    obtain ⟨v, us, rfl, _, h2⟩ := h
    rw [List.length_cons, List.length_cons, LwA.length h2]
theorem LwA.at {F : Addr → Prop} {H : Hp} : ∀ {ps : List Tr} {vs : List V} {i : Nat} {x : V}, LwA F H ps vs → vs[i]? = some x → ∃ t, ps[i]? = some t ∧ Lw F H t x
  | [], vs, i, x, h, e => by
    rw [LwA] at h
    rw [h] at e
    cases e
  | t :: r, vs, i, x, h, e => by
    rw [LwA] at h
    obtain ⟨v, us, rfl, h1, h2⟩ := h
    cases i with
    | zero =>
      cases e
      exact ⟨t, rfl, h1⟩
    | succ i => exact LwA.at (i := i) h2 e
theorem LwA.app {F : Addr → Prop} {H : Hp} : ∀ {ps qs : List Tr} {vs us : List V}, LwA F H ps vs → LwA F H qs us → LwA F H (ps ++ qs) (vs ++ us)
  | [], qs, vs, us, h, h' => by
    rw [LwA] at h
    rw [h]
    exact h'
  | t :: r, qs, vs, us, h, h' => by
    rw [LwA] at h
    obtain ⟨v, us', rfl, h1, h2⟩ := h
    rw [List.cons_append, List.cons_append, LwA]
    exact ⟨v, us' ++ us, rfl, h1, LwA.app h2 h'⟩
theorem LwA.one {F : Addr → Prop} {H : Hp} {t : Tr} {v : V} (h : Lw F H t v) : LwA F H [t] [v] := by
  rw [LwA]
  exact ⟨v, [], rfl, h, by rw [LwA]⟩
theorem LwA.take {F : Addr → Prop} {H : Hp} : ∀ {ps : List Tr} {vs : List V} (n : Nat), LwA F H ps vs → LwA F H (ps.take n) (vs.take n)
  | [], vs, n, h => by
    rw [LwA] at h
    rw [h, List.take_nil, List.take_nil, LwA]
  | t :: r, vs, n, h => by
    rw [LwA] at h
    obtain ⟨v, us, rfl, h1, h2⟩ := h
    cases n with
    | zero =>
      rw [List.take_zero, List.take_zero, LwA]
    | succ n =>
      rw [List.take_succ_cons, List.take_succ_cons, LwA]
      exact ⟨v, us.take n, rfl, h1, LwA.take n h2⟩
theorem LwA.drop {F : Addr → Prop} {H : Hp} : ∀ {ps : List Tr} {vs : List V} (n : Nat), LwA F H ps vs → LwA F H (ps.drop n) (vs.drop n)
  | [], vs, n, h => by
    rw [LwA] at h
    rw [h, List.drop_nil, List.drop_nil, LwA]
  | t :: r, vs, n, h => by
    cases n with
    | zero => exact h
    | succ n =>
      rw [LwA] at h
      obtain ⟨v, us, rfl, h1, h2⟩ := h
      rw [List.drop_succ_cons, List.drop_succ_cons]
      exact LwA.drop n h2
theorem LwA.cons {F : Addr → Prop} {H : Hp} {t : Tr} {r : List Tr} {v : V} {us : List V} (h1 : Lw F H t v) (h2 : LwA F H r us) : LwA F H (t :: r) (v :: us) := by
  rw [LwA]
  exact ⟨v, us, rfl, h1, h2⟩
theorem LwA.nil {F : Addr → Prop} {H : Hp} : LwA F H [] [] := by rw [LwA]
/-! ### the program's nodes -/
/-- tuples stay -/
def KT (H H' : Hp) : Prop := ∀ b xs, H b = some (.tup xs) → H' b = some (.tup xs)
theorem KT.of {H H' : Hp} (s : Same H H') : KT H H' := fun b xs e => s b _ e
theorem KT.trans {H H1 H2 : Hp} (a : KT H H1) (b : KT H1 H2) : KT H H2 := fun c xs e => b c xs (a c xs e)
theorem KT.put {H : Hp} {p : Addr} {o : HO} {xs : List V} (h : H p = some (.lst xs)) : KT H (upd H p o) := fun b ys e => by
  have n : b ≠ p := fun q => by
    rw [q, h] at e
    cases e
  rw [upd_ne n]
  exact e
theorem KT.new {H : Hp} {p : Addr} {o : HO} (h : H p = none) : KT H (upd H p o) := KT.of (same_new h)
mutual
def Pn (H : Hp) : Tr → V → Prop
  | .leaf b, v => ∃ a e, v = .ref a ∧ H a = some (.tup [.str (S [lc b]), .ref e]) ∧ H e = some (.tup [])
  | .node b ps, v => ∃ a e vs, v = .ref a ∧ H a = some (.tup [.str (S [oc b]), .ref e]) ∧ H e = some (.tup vs) ∧ PnA H ps vs
def PnA (H : Hp) : List Tr → List V → Prop
  | [], vs => vs = []
  | t :: r, vs => ∃ v us, vs = v :: us ∧ Pn H t v ∧ PnA H r us
end
section
variable {H H' : Hp}
mutual
theorem Pn.mono (s : KT H H') : ∀ (t : Tr) (v : V), Pn H t v → Pn H' t v
  | .leaf b, v, h => by
    rw [Pn] at h ⊢
    obtain ⟨a, e, rfl, h1, h2⟩ := h
    exact ⟨a, e, rfl, s _ _ h1, s _ _ h2⟩
  | .node b ps, v, h => by
    rw [Pn] at h ⊢
    obtain ⟨a, e, vs, rfl, h1, h2, h3⟩ := h
    exact ⟨a, e, vs, rfl, s _ _ h1, s _ _ h2, PnA.mono s ps vs h3⟩
theorem PnA.mono (s : KT H H') : ∀ (ps : List Tr) (vs : List V), PnA H ps vs → PnA H' ps vs
  | [], vs, h => by
    rw [PnA] at h ⊢
    exact h
  | t :: r, vs, h => by
    rw [PnA] at h ⊢
    obtain ⟨v, us, e, h1, h2⟩ := h
    exact ⟨v, us, e, Pn.mono s t v h1, PnA.mono s r us h2⟩
end
end
theorem PnA.length {H : Hp} : ∀ {ps : List Tr} {vs : List V}, PnA H ps vs → vs.length = ps.length
  | [], vs, h => by
    rw [PnA] at h
    rw [h]
    rfl
  | t :: r, vs, h => by
    rw [PnA] at h
    obtain ⟨v, us, rfl, _, h2⟩ := h
    rw [List.length_cons, List.length_cons, PnA.length h2]
theorem PnA.at {H : Hp} : ∀ {ps : List Tr} {vs : List V} {i : Nat} {x : V}, PnA H ps vs → vs[i]? = some x → ∃ t, ps[i]? = some t ∧ Pn H t x
  | [], vs, i, x, h, e => by
    rw [PnA] at h
    rw [h] at e
    cases e
  | t :: r, vs, i, x, h, e => by
    rw [PnA] at h
    obtain ⟨v, us, rfl, h1, h2⟩ := h
    cases i with
    | zero =>
      cases e
      exact ⟨t, rfl, h1⟩
    | succ i => exact PnA.at (i := i) h2 e
theorem PnA.snoc {H : Hp} : ∀ {ps : List Tr} {vs : List V} {t : Tr} {v : V}, PnA H ps vs → Pn H t v → PnA H (ps ++ [t]) (vs ++ [v])
  | [], vs, t, v, h, h' => by
    rw [PnA] at h
    rw [h, List.nil_append, List.nil_append, PnA]
    exact ⟨v, [], rfl, h', by rw [PnA]⟩
  | u :: r, vs, t, v, h, h' => by
    rw [PnA] at h
    obtain ⟨x, us, rfl, h1, h2⟩ := h
    rw [List.cons_append, List.cons_append, PnA]
    exact ⟨x, us ++ [v], rfl, h1, PnA.snoc h2 h'⟩
theorem PnA.nil {H : Hp} : PnA H [] [] := by rw [PnA]
/-! ### as data, for a comparison -/
mutual
def dt : Tr → PyData
  | .leaf b => .tuple [.str (S [lc b]), .tuple []]
  | .node b ps => .tuple [.str (S [oc b]), .tuple (dts ps)]
def dts : List Tr → List PyData
  | [] => []
  | t :: r => dt t :: dts r
end
mutual
theorem Pn.data {K : PySem.W.Frag} {H : Hp} : ∀ (t : Tr) (v : V), Pn H t v → Dp K H v (dt t)
  | .leaf b, v, h => by
    rw [Pn] at h
    obtain ⟨a, e, rfl, h1, h2⟩ := h
    rw [dt]
    exact .tup (SqT.of h1) (.cons (.str _) (.cons (.tup (SqT.of h2) .nil) .nil))
  | .node b ps, v, h => by
    rw [Pn] at h
    obtain ⟨a, e, vs, rfl, h1, h2, h3⟩ := h
    rw [dt]
    exact .tup (SqT.of h1) (.cons (.str _) (.cons (.tup (SqT.of h2) (PnA.data ps vs h3)) .nil))
theorem PnA.data {K : PySem.W.Frag} {H : Hp} : ∀ (ps : List Tr) (vs : List V), PnA H ps vs → DpAll K H vs (dts ps)
  | [], vs, h => by
    rw [PnA] at h
    rw [h, dts]
    exact .nil
  | t :: r, vs, h => by
    rw [PnA] at h
    obtain ⟨v, us, rfl, h1, h2⟩ := h
    rw [dts]
    exact .cons (Pn.data t v h1) (PnA.data r us h2)
end
end Zq

/-! A text is read. -/
namespace Zq
open PySem PySem.Spec PyProof.Rows L2 SX Tq
mutual
theorem dt_lay : ∀ t : Tr, (dt t).canLay0 = true
  | .leaf b => by
    rw [dt]
    cases b <;> decide +kernel
  | .node b ps => by
    rw [dt]
    show (PyData.canLay0 (.str (S [oc b])) && (PyData.canLayAll0 (dts ps) && true)) = true
    rw [dts_lay ps]
    cases b <;> decide +kernel
theorem dts_lay : ∀ ps : List Tr, PyData.canLayAll0 (dts ps) = true
  | [] => rfl
  | t :: r => by
    rw [dts]
    show ((dt t).canLay0 && PyData.canLayAll0 (dts r)) = true
    rw [dt_lay t, dts_lay r]
    rfl
end
theorem dt_depth : ∀ (n : Nat) (t : Tr), sizeOf t ≤ n → wf t → (dt t).depth ≤ 2 * lv t := by
  intro n
  induction n with
  | zero =>
    intro t h
    cases t <;> simp at h
  | succ n ih =>
    intro t h w
    cases t with
    | leaf b =>
      rw [lv, dt]
      simp [PyData.depth, PyData.depthAll]
    | node b ps =>
      have w0 := w
      rw [wf] at w
      have e : ∀ qs : List Tr, (∀ t ∈ qs, t ∈ ps) → PyData.depthAll (dts qs) + 2 ≤ 2 * lv (.node b ps) := by
        intro qs
        induction qs with
        | nil =>
          intro _
          rw [dts]
          have := lv_pos _ w0
          simp only [PyData.depthAll]
          omega
        | cons t qs ihq =>
          intro hm
          have ht : sizeOf t ≤ n := by
            have := List.sizeOf_lt_of_mem (hm t (List.mem_cons_self ..))
            simp at h
            omega
          have q1 := ih t ht ((wfs_iff _).mp w.2 t (hm t (List.mem_cons_self ..)))
          have q2 := ihq (fun x hx => hm x (List.mem_cons_of_mem _ hx))
          have q3 := lv_part w.2 w.1 (hm t (List.mem_cons_self ..))
          rw [dts]
          simp only [PyData.depthAll]
          rw [lv] at q2 ⊢
          omega
      have q := e ps (fun _ h => h)
      rw [dt]
      simp only [PyData.depth, PyData.depthAll]
      omega
theorem dts_shaped {b : Bool} {ps : List Tr} (w : wf (.node b ps)) (h : lv (.node b ps) ≤ 12) : SeqAt.shaped (.tuple (dts ps)) = true := by
  have d := dt_depth _ _ (Nat.le_refl _) w
  rw [dt] at d
  simp only [PyData.depth, PyData.depthAll] at d
  unfold SeqAt.shaped
  rw [Bool.and_eq_true]
  refine ⟨dts_lay ps, decide_eq_true ?_⟩
  simp only [PyData.depth]
  omega
/-! ### signs -/
theorem in2 (c a b : Nat) : inV (.str (S [c])) [.str (S [a]), .str (S [b])] = (decide (c = a) || decide (c = b)) := by
  have e : ∀ x : Nat, (S [x] == S [c]) = decide (c = x) := fun x => by
    rw [S_beq_eq]
    by_cases h : x = c
    · simp [h]
    · have h2 : c ≠ x := fun z => h z.symm
      simp [h, h2]
  simp only [inV, eqV, List.any_cons, List.any_nil, Bool.or_false, e]
theorem sl : ("l" : Str) = S [108] := by decide
theorem ss : ("s" : Str) = S [115] := by decide
theorem so1 : ("[" : Str) = S [91] := by decide
theorem so2 : ("(" : Str) = S [40] := by decide
theorem sc1 : ("]" : Str) = S [93] := by decide
theorem sc2 : (")" : Str) = S [41] := by decide
theorem s_sp : (" " : Str) = S [32] := by decide
section
variable {P : Program} {w : World} {K : PySem.W.Frag} {mg : Str → Option Value} {base : Heap}
theorem s11 : FnScope ["text"] ["text"] (defScope (top 88)) := (⟨rfl, rfl, rfl, by decide +kernel, rfl, by decide +kernel, by decide +kernel⟩)
abbrev spLeaves : Sp := Prx (α := List Nat) (fun l => [.str (S l)]) (fun l H Q => Q (.int ((ct l : Nat) : Int)) H)
theorem c_leaves (D : Df K mg "leaves_in" (top 88)) (B : Bl w K mg) : Cal P w K mg base 1 "leaves_in" ["text"] spLeaves := by
  refine mkC D s11 (fun _ _ _ _ _ _ us hl => match us, hl with | [_], _ => rfl) (fun _ => rfl) (fun f cdv A outer s H l Q E hr k => ?_)
  obtain ⟨t1, h1⟩ := B.lies_
  obtain ⟨t2, h2⟩ := B.stands_
  refine ⟨_, pss_one (ps_ret (pe_op op_add (pe_m1 PySem.F.slot_str_count PySem.F.type_str_count mt_count (pv 0) (pe_glob (v := .str "l") (by rfl) h1 ⟨_, rfl⟩))
    (pe_m1 PySem.F.slot_str_count PySem.F.type_str_count mt_count (pv 0) (pe_glob (v := .str "s") (by rfl) h2 ⟨_, rfl⟩)))), ?_⟩
  refine ⟨_, rfl, ⟨_, rfl⟩, _, _, rfl, rfl, _, rfl, ⟨_, rfl⟩, _, _, rfl, rfl, _, _, rfl, rfl, ?_⟩
  rw [sl, ss, count_S, count_S]
  have e : ((l.count 108 : Nat) : Int) + ((l.count 115 : Nat) : Int) = ((ct l : Nat) : Int) := by unfold ct; omega
  show Q (.int (((l.count 108 : Nat) : Int) + ((l.count 115 : Nat) : Int))) H
  rw [e]
  exact k
theorem s13 : FnScope ["kind", "texts"] ["kind", "texts"] (defScope (top 90)) := (⟨rfl, rfl, rfl, by decide +kernel, rfl, by decide +kernel, by decide +kernel⟩)
theorem clo_get {d : Addr} (h1 : ∃ t, PySem.W.nsIn K d "[" = some (some (.str "]" t))) (h2 : ∃ t, PySem.W.nsIn K d "(" = some (some (.str ")" t))) (b : Bool) :
    ∃ u0, PySem.W.nsIn K d (S [oc b]) = some (some u0) ∧ RelV (.str (S [cc b])) u0 := by
  cases b with
  | true =>
    obtain ⟨t, e⟩ := h1
    refine ⟨_, e, ?_⟩
    rw [sc1]
    exact ⟨t, rfl⟩
  | false =>
    obtain ⟨t, e⟩ := h2
    refine ⟨_, e, ?_⟩
    rw [sc2]
    exact ⟨t, rfl⟩
abbrev spBr : Sp := Prx (α := Bool × Addr × List (List Nat)) (fun a => [.str (S [oc a.1]), .ref a.2.1]) (fun a H Q => H a.2.1 = some (.lst ((a.2.2.map S).map V.str)) ∧ (a.2.2.map (fun x => x.length + 1)).sum ≤ 1000 ∧ Q (.str (S (oc a.1 :: (jn a.2.2 ++ [cc a.1])))) H)
theorem c_br (D : Df K mg "bracketed" (top 90)) (B : Bl w K mg) : Cal P w K mg base 1 "bracketed" ["kind", "texts"] spBr := by
  refine mkC D s13 (fun _ _ _ _ _ _ us hl => match us, hl with | [_, _], _ => rfl) (fun _ => rfl) (fun f cdv A outer s H a Q E hr k => ?_)
  obtain ⟨b, l, ys⟩ := a
  obtain ⟨hl, hz, k⟩ := k
  have hl : H l = some (.lst ((ys.map S).map V.str)) := hl
  have hz : (ys.map (fun x => x.length + 1)).sum ≤ 1000 := hz
  obtain ⟨d, es, n, hm, KD, g1, g2⟩ := B.clo_
  obtain ⟨u0, e0, r0⟩ := clo_get g1 g2 b
  have big : 2000 ≤ sizeLine := by decide
  have big2 : (2000 : Nat) ≤ 16777216 := by decide
  refine ⟨_, pss_one (ps_ret (pe_op op_add_str (pe_op op_add_str (pv 0) (pe_join pe_str (pv 1))) (pe_ix (ix_kd KD) (pe_glob (v := .ref d) (by rfl) hm rfl) (pv 0) (fun _ _ => rfl)))), ?_⟩
  have e2 : ∀ zs : List (List Nat), (zs.map (fun x => x.length + 1)).sum = ((zs.map S).map (·.length)).sum + (zs.map S).length := by
    intro zs
    induction zs with
    | nil => rfl
    | cons x r ih =>
      simp only [List.map_cons, List.sum_cons, List.length_cons, ih, S_len]
      omega
  have e3 := e2 ys
  have jl := jn_len_le ys
  refine ⟨_, rfl, ⟨_, rfl⟩, _, rfl, _, l, ys.map S, rfl, rfl, .inl (SqL.of hl), ?_, ?_⟩
  · have : (" " : Str).length = 1 := by decide
    rw [this]
    omega
  · rw [s_sp, join_jn]
    refine ⟨_, _, rfl, rfl, ?_, _, rfl, _, _, _, rfl, rfl, e0, r0, _, _, rfl, rfl, ?_, ?_⟩
    · rw [S_len, S_len, List.length_singleton]
      omega
    · rw [S_cat, S_len, S_len, List.length_append, List.length_singleton, List.length_singleton]
      omega
    · rw [S_cat, S_cat]
      simpa using k
end
end Zq

/-! node_of. -/
namespace Zq
open PySem PySem.Spec PyProof.Rows L2 SX Tq
/-- the rows' lists, the top one first -/
def RwA (H : Hp) : List (List Tr) → List Addr → Prop
  | [], as => as = []
  | r :: rs, as => ∃ a bs vs, as = a :: bs ∧ H a = some (.lst vs) ∧ PnA H r vs ∧ RwA H rs bs
theorem RwA.put {H H' : Hp} (kt : KT H H') : ∀ {rs : List (List Tr)} {as : List Addr}, (∀ a ∈ as, ∀ vs, H a = some (.lst vs) → H' a = some (.lst vs)) → RwA H rs as → RwA H' rs as
  | [], as, _, h => h
  | r :: rs, as, hl, h => by
    obtain ⟨a, bs, vs, rfl, h1, h2, h3⟩ := h
    exact ⟨a, bs, vs, rfl, hl a (List.mem_cons_self ..) vs h1, PnA.mono kt _ _ h2, RwA.put kt (fun b hb => hl b (List.mem_cons_of_mem _ hb)) h3⟩
theorem RwA.length {H : Hp} : ∀ {rs : List (List Tr)} {as : List Addr}, RwA H rs as → as.length = rs.length
  | [], as, h => by rw [show as = [] from h]; rfl
  | r :: rs, as, h => by
    obtain ⟨a, bs, vs, rfl, _, _, h3⟩ := h
    rw [List.length_cons, List.length_cons, RwA.length h3]
structure Rws (H0 H : Hp) (m : MS) (R O : Addr) (n : Nat) (as : List Addr) : Prop where
  rows : RwA H (m.r :: m.rs) as
  atR : H R = some (.lst (as.reverse.map V.ref))
  nd : as.Nodup
  rN : R ∉ as
  oN : O ∉ as
  new : ∀ a ∈ as, H0 a = none
  atO : H O = some (.lst (m.op.reverse.map fun b => V.str (S [oc b])))
  ne : R ≠ O
  nR : H0 R = none
  nO : H0 O = none
  same : Same H0 H
  len : m.op.length = m.rs.length
  sz : ∀ q ∈ m.r :: m.rs, q.length ≤ n
  sz2 : m.rs.length ≤ n
theorem Rws.mk_new {H0 H : Hp} {m : MS} {R O : Addr} {n : Nat} {as : List Addr} {p : Addr} {o : HO} (h : Rws H0 H m R O n as) (hp : H p = none) : Rws H0 (upd H p o) m R O n as where
  rows := h.rows.put (KT.new hp) fun a ha vs e => by rw [upd_ne (ne_of_none e hp)]; exact e
  atR := by rw [upd_ne (ne_of_none h.atR hp)]; exact h.atR
  nd := h.nd
  rN := h.rN
  oN := h.oN
  new := h.new
  atO := by rw [upd_ne (ne_of_none h.atO hp)]; exact h.atO
  ne := h.ne
  nR := h.nR
  nO := h.nO
  same := fun b u e => by
    rw [upd_ne (ne_of_none (h.same b u e) hp)]
    exact h.same b u e
  len := h.len
  sz := h.sz
  sz2 := h.sz2
theorem same_put {H0 H : Hp} {p : Addr} {o : HO} (s : Same H0 H) (h : H0 p = none) : Same H0 (upd H p o) := fun b u e => by
  rw [upd_ne (ne_of_none e h)]
  exact s b u e
/-- the top row's list -/
theorem Rws.top {H0 H : Hp} {m : MS} {R O : Addr} {n : Nat} {as : List Addr} (h : Rws H0 H m R O n as) : ∃ a bs vs, as = a :: bs ∧ H a = some (.lst vs) ∧ PnA H m.r vs ∧ RwA H m.rs bs := h.rows
/-- a node is put to the top row -/
theorem Rws.push {H0 H : Hp} {r : List Tr} {rs : List (List Tr)} {op : List Bool} {w w2 : Bool} {R O a : Addr} {n : Nat} {bs : List Addr} {vs : List V} {t : Tr} {v : V} (h : Rws H0 H ⟨r, rs, op, w⟩ R O n (a :: bs)) (hv : H a = some (.lst vs)) (hp : PnA H r vs) (ht : Pn H t v) :
    Rws H0 (upd H a (.lst (vs ++ [v]))) ⟨r ++ [t], rs, op, w2⟩ R O (n + 1) (a :: bs) := by
  have kt : KT H (upd H a (.lst (vs ++ [v]))) := KT.put hv
  have nd := List.nodup_cons.mp h.nd
  have nR : R ≠ a := fun e => h.rN (by rw [e]; exact List.mem_cons_self ..)
  have nO : O ≠ a := fun e => h.oN (by rw [e]; exact List.mem_cons_self ..)
  obtain ⟨a', bs', vs', e, _, _, h3⟩ := h.rows
  cases e
  exact {
    rows := ⟨a, bs, vs ++ [v], rfl, upd_same, PnA.mono kt _ _ (hp.snoc ht), h3.put kt fun b hb us e => by
      rw [upd_ne (fun q => nd.1 (by rw [← q]; exact hb))]
      exact e⟩
    atR := by rw [upd_ne nR]; exact h.atR
    nd := h.nd
    rN := h.rN
    oN := h.oN
    new := h.new
    atO := by rw [upd_ne nO]; exact h.atO
    ne := h.ne
    nR := h.nR
    nO := h.nO
    same := same_put h.same (h.new a (List.mem_cons_self ..))
    len := h.len
    sz := fun q hq => by
      rcases List.mem_cons.mp hq with e | e
      · rw [e, List.length_append, List.length_singleton]
        exact Nat.succ_le_succ (h.sz r (List.mem_cons_self ..))
      · exact Nat.le_succ_of_le (h.sz q (List.mem_cons_of_mem _ e))
    sz2 := Nat.le_succ_of_le h.sz2 }
/-- a new row, an opened bracket -/
theorem Rws.opn {H0 H : Hp} {r : List Tr} {rs : List (List Tr)} {op : List Bool} {w w2 : Bool} {R O p : Addr} {n : Nat} {as : List Addr} {b : Bool} (h : Rws H0 H ⟨r, rs, op, w⟩ R O n as) (hp : H p = none) :
    Rws H0 (upd (upd (upd H p (.lst [])) R (.lst (as.reverse.map V.ref ++ [.ref p]))) O (.lst ((op.reverse.map fun b => V.str (S [oc b])) ++ [.str (S [oc b])]))) ⟨[], r :: rs, b :: op, w2⟩ R O (n + 1) (p :: as) := by
  have nRp : R ≠ p := ne_of_none h.atR hp
  have nOp : O ≠ p := ne_of_none h.atO hp
  have h1 := h.mk_new (o := .lst []) hp
  have k1 := KT.new (o := .lst []) hp
  have k2 : KT (upd H p (.lst [])) (upd (upd H p (.lst [])) R (.lst (as.reverse.map V.ref ++ [.ref p]))) := KT.put h1.atR
  have k3 : KT (upd (upd H p (.lst [])) R (.lst (as.reverse.map V.ref ++ [.ref p]))) (upd (upd (upd H p (.lst [])) R (.lst (as.reverse.map V.ref ++ [.ref p]))) O (.lst ((op.reverse.map fun b => V.str (S [oc b])) ++ [.str (S [oc b])]))) :=
    KT.put (xs := op.reverse.map fun b => V.str (S [oc b])) (by rw [upd_ne (Ne.symm h.ne)]; exact h1.atO)
  have pN : p ∉ as := fun hm => by
    have : ∀ {rs : List (List Tr)} {as : List Addr}, RwA H rs as → p ∈ as → False := by
      intro rs
      induction rs with
      | nil => intro as q hm; rw [show as = [] from q] at hm; cases hm
      | cons r rs ih =>
        intro as q hm
        obtain ⟨a, bs, vs, rfl, h1, _, h3⟩ := q
        rcases List.mem_cons.mp hm with e | e
        · rw [← e, hp] at h1
          cases h1
        · exact ih h3 e
    exact this h.rows hm
  have H0p : H0 p = none := by
    cases e : H0 p with
    | none => rfl
    | some u =>
      have := h.same p u e
      rw [hp] at this
      cases this
  exact {
    rows := ⟨p, as, [], rfl, by rw [upd_ne (Ne.symm nOp), upd_ne (Ne.symm nRp)]; exact upd_same, PnA.nil, h1.rows.put (k2.trans k3) fun a ha vs e => by
      rw [upd_ne (fun q => h.oN (by rw [← q]; exact ha)), upd_ne (fun q => h.rN (by rw [← q]; exact ha))]
      exact e⟩
    atR := by
      rw [upd_ne h.ne]
      refine upd_same.trans ?_
      simp
    nd := List.nodup_cons.mpr ⟨pN, h.nd⟩
    rN := fun hm => (List.mem_cons.mp hm).elim (fun e => nRp e) h.rN
    oN := fun hm => (List.mem_cons.mp hm).elim (fun e => nOp e) h.oN
    new := fun a ha => (List.mem_cons.mp ha).elim (fun e => by rw [e]; exact H0p) (h.new a)
    atO := by
      refine upd_same.trans ?_
      simp
    ne := h.ne
    nR := h.nR
    nO := h.nO
    same := same_put (same_put h1.same h.nR) h.nO
    len := by
      have := h.len
      simp only [List.length_cons] at this ⊢
      omega
    sz := fun q hq => by
      rcases List.mem_cons.mp hq with e | e
      · rw [e]; exact Nat.zero_le _
      · exact Nat.le_succ_of_le (h.sz q e)
    sz2 := by
      have := h.sz2
      simp only [List.length_cons] at this ⊢
      omega }
theorem Rws.w {H0 H : Hp} {r : List Tr} {rs : List (List Tr)} {op : List Bool} {w w2 : Bool} {R O : Addr} {n : Nat} {as : List Addr} (h : Rws H0 H ⟨r, rs, op, w⟩ R O n as) : Rws H0 H ⟨r, rs, op, w2⟩ R O (n + 1) as :=
  ⟨h.rows, h.atR, h.nd, h.rN, h.oN, h.new, h.atO, h.ne, h.nR, h.nO, h.same, h.len, fun q hq => Nat.le_succ_of_le (h.sz q hq), Nat.le_succ_of_le h.sz2⟩
/-- brackets are closed: the two lists lose their last -/
theorem Rws.cls {H0 H : Hp} {r r' : List Tr} {rs : List (List Tr)} {op : List Bool} {w w2 b : Bool} {R O a : Addr} {n : Nat} {bs : List Addr} (h : Rws H0 H ⟨r, r' :: rs, b :: op, w⟩ R O n (a :: bs)) :
    Rws H0 (upd (upd H O (.lst ((b :: op).reverse.map fun b => V.str (S [oc b])).dropLast)) R (.lst ((a :: bs).reverse.map V.ref).dropLast)) ⟨r', rs, op, w2⟩ R O n bs := by
  have k2 : KT H (upd H O (.lst ((b :: op).reverse.map fun b => V.str (S [oc b])).dropLast)) := KT.put h.atO
  have k3 : KT (upd H O (.lst ((b :: op).reverse.map fun b => V.str (S [oc b])).dropLast)) (upd (upd H O (.lst ((b :: op).reverse.map fun b => V.str (S [oc b])).dropLast)) R (.lst ((a :: bs).reverse.map V.ref).dropLast)) :=
    KT.put (xs := (a :: bs).reverse.map V.ref) (by rw [upd_ne h.ne]; exact h.atR)
  obtain ⟨a', bs', vs', e, _, _, h3⟩ := h.rows
  cases e
  exact {
    rows := h3.put (k2.trans k3) fun c hc vs e => by
      rw [upd_ne (fun q => h.rN (by rw [← q]; exact List.mem_cons_of_mem _ hc)), upd_ne (fun q => h.oN (by rw [← q]; exact List.mem_cons_of_mem _ hc))]
      exact e
    atR := by
      refine upd_same.trans ?_
      simp
    nd := (List.nodup_cons.mp h.nd).2
    rN := fun hm => h.rN (List.mem_cons_of_mem _ hm)
    oN := fun hm => h.oN (List.mem_cons_of_mem _ hm)
    new := fun c hc => h.new c (List.mem_cons_of_mem _ hc)
    atO := by
      rw [upd_ne (Ne.symm h.ne)]
      refine upd_same.trans ?_
      simp
    ne := h.ne
    nR := h.nR
    nO := h.nO
    same := same_put (same_put h.same h.nO) h.nR
    len := by
      have := h.len
      simp only [List.length_cons] at this
      show op.length = rs.length
      omega
    sz := fun q hq => h.sz q (List.mem_cons_of_mem _ hq)
    sz2 := by
      have := h.sz2
      simp only [List.length_cons] at this
      show rs.length ≤ n
      omega }
end Zq

/-! How long, how many. -/
namespace Tq
theorem ls_sz : ∀ (n : Nat) (t : Tr), sizeOf t ≤ n → wf t → ∀ k, ((ls t k).map (fun x => x.length + 1)).sum + 2 ≤ 4 * lv t ∧ (ls t k).length ≤ lv t := by
  intro n
  induction n with
  | zero =>
    intro t h
    cases t <;> simp at h
  | succ n ih =>
    intro t h w k
    cases t with
    | leaf b =>
      rw [ls, lv]
      exact ⟨Nat.le_refl _, Nat.le_refl _⟩
    | node b ps =>
      rw [wf] at w
      have e : ∀ (k : Bool) (qs : List Tr), (∀ t ∈ qs, t ∈ ps) → ((lss qs k).map (fun x => x.length + 1)).sum + 2 * qs.length ≤ 4 * lvs qs ∧ (lss qs k).length ≤ lvs qs := by
        intro k qs
        induction qs with
        | nil => intro _; exact ⟨Nat.le_refl _, Nat.le_refl _⟩
        | cons t qs ihq =>
          intro hm
          have ht : sizeOf t ≤ n := by
            have := List.sizeOf_lt_of_mem (hm t (List.mem_cons_self ..))
            simp at h
            omega
          have q1 := ih t ht ((wfs_iff _).mp w.2 t (hm t (List.mem_cons_self ..))) k
          have q2 := ihq (fun x hx => hm x (List.mem_cons_of_mem _ hx))
          rw [lss, lvs, List.map_append, List.sum_append, List.length_append, List.length_cons]
          omega
      have w1 := w.1
      have lg := lvs_ge ps w.2
      rw [lv]
      by_cases z : b = k
      · rw [ls, if_pos z]
        have q := e k ps (fun _ h => h)
        omega
      · rw [ls, if_neg z]
        have q := e b ps (fun _ h => h)
        have j := jn_len (srt (lss ps b))
        have sp : ((srt (lss ps b)).map (fun x => x.length + 1)).sum = ((lss ps b).map (fun x => x.length + 1)).sum := sum_perm (srt_perm _)
        simp only [List.map_cons, List.map_nil, List.sum_cons, List.sum_nil, List.length_cons, List.length_nil, List.length_append]
        rcases j with j | j
        · omega
        · rw [j]
          have : (jn []).length = 0 := rfl
          omega
theorem ls_sum (t : Tr) (w : wf t) (k : Bool) : ((ls t k).map (fun x => x.length + 1)).sum + 2 ≤ 4 * lv t := (ls_sz _ t (Nat.le_refl _) w k).1
theorem ls_len (t : Tr) (w : wf t) (k : Bool) : (ls t k).length ≤ lv t := (ls_sz _ t (Nat.le_refl _) w k).2
theorem lss_len (k : Bool) : ∀ ps : List Tr, wfs ps → (lss ps k).length ≤ lvs ps
  | [], _ => Nat.le_refl _
  | t :: r, w => by
    rw [wfs] at w
    have h1 := ls_len t w.1 k
    have h2 := lss_len k r w.2
    rw [lss, lvs, List.length_append]
    omega
theorem lss_take (k : Bool) {ps : List Tr} {i : Nat} {t : Tr} (h : ps[i]? = some t) : lss (ps.take (i + 1)) k = lss (ps.take i) k ++ ls t k := by
  rw [List.take_succ, h, lss_app]
  show _ ++ lss [t] k = _
  rw [lss, lss, List.append_nil]
end Tq

/-! A text read in two ways (for k42): the law's own reader, and the program's. -/
namespace Tq
def isE (c : Nat) : Bool := decide (c = 108 ∨ c = 115 ∨ c = 93 ∨ c = 41)
/-- the law's state: the count at the bottom, the brackets that are open with their counts, how many letters -/
structure LS where
  c0 : Nat
  st : List (Bool × Nat)
  many : Nat
/-- one more part in the innermost brackets -/
def LS.inc (s : LS) : LS := match s.st with
  | [] => { s with c0 := s.c0 + 1 }
  | (b, n) :: r => { s with st := (b, n + 1) :: r }
def LS.push (s : LS) (b : Bool) : LS := { s with st := (b, 0) :: s.st }
def LS.one (s : LS) : LS := { s with many := s.many + 1 }
def endE (p : Option Nat) : Bool := match p with
  | none => false
  | some c => isE c
def lst (s : LS) (p : Option Nat) (c : Nat) (l : List Nat) : Option LS :=
  if c = 32 then
    if endE p = false ∨ l = [] ∨ (∃ d, l.head? = some d ∧ (d = 32 ∨ d = 93 ∨ d = 41)) ∨ s.st = [] then none else some s
  else if c = 108 ∨ c = 115 then (if endE p = true then none else some s.inc.one)
  else if c = 91 ∨ c = 40 then (if endE p = true then none else some (s.inc.push (decide (c = 91))))
  else if c = 93 ∨ c = 41 then match s.st with
    | [] => none
    | (b, n) :: r => if b ≠ decide (c = 93) ∨ n < 2 then none else some { s with st := r }
  else none
open Classical in
noncomputable def lrun (s : LS) (p : Option Nat) : List Nat → Nat
  | [] => if s.st = [] ∧ s.c0 = 1 ∧ s.many < 13 then s.many else 0
  | c :: l => match lst s p c l with
    | none => 0
    | some s' => lrun s' (some c) l
/-- the two states belong together -/
structure Rel (s : LS) (p : Option Nat) (l : List Nat) (m : MS) : Prop where
  w : m.w = !endE p
  op : m.op = s.st.map Prod.fst
  len : m.rs.length = m.op.length
  cnt : (s.st.map Prod.snd) ++ [s.c0] = match m.rs with
    | [] => [m.r.length]
    | q :: qs => m.r.length :: (q :: qs).map fun x => x.length + 1
  bot : s.st = [] → (m.w = true → s.c0 = 0) ∧ (m.w = false → s.c0 = 1)
  opn : (p = some 91 ∨ p = some 40) → m.r = []
  sp : p = some 32 → l ≠ [] ∧ ¬ ∃ d, l.head? = some d ∧ (d = 32 ∨ d = 93 ∨ d = 41)
  st0 : p = none → s.st = []
  opn2 : m.w = true → p = none ∨ p = some 32 ∨ p = some 91 ∨ p = some 40
  one : s.st ≠ [] → s.c0 = 1
def out (m : MS) (n : Nat) : Nat := if m.op = [] ∧ m.w = false ∧ n < 13 then n else 0
noncomputable def outO (o : Option MS) (n : Nat) : Nat := match o with
  | none => 0
  | some m => out m n
theorem ct_one (c : Nat) : ct [c] = if c = 108 ∨ c = 115 then 1 else 0 := by
  unfold ct
  by_cases h1 : c = 108
  · subst h1; rfl
  · by_cases h2 : c = 115
    · subst h2; rfl
    · simp [h1, h2]
theorem lrun_eq : ∀ (l : List Nat) (s : LS) (p : Option Nat) (m : MS), Rel s p l m → lrun s p l = outO (run m l) (s.many + ct l)
  | [], s, p, m, R => by
    rw [lrun, run, outO, out]
    have e : s.many + ct [] = s.many := rfl
    rw [e]
    by_cases h : s.st = []
    · have ho : m.op = [] := by rw [R.op, h]; rfl
      have b := R.bot h
      cases hw : m.w with
      | true =>
        have := b.1 hw
        rw [if_neg (by rintro ⟨_, z, _⟩; omega), if_neg (by rintro ⟨_, z, _⟩; cases z)]
      | false =>
        have := b.2 hw
        by_cases h13 : s.many < 13
        · rw [if_pos ⟨h, this, h13⟩, if_pos ⟨ho, rfl, h13⟩]
        · rw [if_neg (fun z => h13 z.2.2), if_neg (fun z => h13 z.2.2)]
    · have ho : m.op ≠ [] := fun z => h (by
        have q := R.op
        rw [z] at q
        cases hs : s.st with
        | nil => rfl
        | cons a r => rw [hs] at q; cases q)
      rw [if_neg (fun z => h z.1), if_neg (fun z => ho z.1)]
  | c :: l, s, p, m, R => by
    obtain ⟨r, rs, op, w⟩ := m
    have hw := R.w
    have hop := R.op
    have hlen := R.len
    have hcnt := R.cnt
    simp only at hw hop hlen hcnt
    rw [lrun, run, ct_cons]
    by_cases c32 : c = 32
    · subst c32
      have e0 : ct [32] = 0 := rfl
      rw [e0, Nat.zero_add]
      rw [lst, if_pos rfl]
      by_cases bad : endE p = false ∨ l = [] ∨ (∃ d, l.head? = some d ∧ (d = 32 ∨ d = 93 ∨ d = 41)) ∨ s.st = []
      · rw [if_pos bad]
        show 0 = _
        cases w with
        | true => simp [stp, outO]; cases op <;> simp
        | false =>
          have he : endE p = true := by
            cases h : endE p with
            | true => rfl
            | false => rw [h] at hw; cases hw
          cases op with
          | nil => simp [stp, outO]
          | cons b op' =>
            have hst : s.st ≠ [] := fun z => by rw [z] at hop; cases hop
            rw [show stp ⟨r, rs, b :: op', false⟩ 32 = some ⟨r, rs, b :: op', true⟩ from stp_space b r rs op']
            simp only
            cases l with
            | nil => rw [run, outO, out, if_neg (by rintro ⟨_, z, _⟩; cases z)]
            | cons d l =>
              have hd : d = 32 ∨ d = 93 ∨ d = 41 := by
                rcases bad with z | z | ⟨d', z1, z2⟩ | z
                · rw [he] at z; cases z
                · cases z
                · cases z1; exact z2
                · exact absurd z hst
              have : stp ⟨r, rs, b :: op', true⟩ d = none := by
                rcases hd with z | z | z <;> subst z <;> simp [stp]
              rw [run, this]
              rfl
      · rw [if_neg bad]
        have h1 : endE p = true := by
          cases h : endE p with
          | true => rfl
          | false => exact absurd (.inl h) bad
        have hwf : w = false := by rw [hw, h1]; rfl
        subst hwf
        have hst : s.st ≠ [] := fun z => bad (.inr (.inr (.inr z)))
        cases op with
        | nil =>
          cases hs : s.st with
          | nil => exact absurd hs hst
          | cons a q => rw [hs] at hop; cases hop
        | cons b op' =>
          rw [show stp ⟨r, rs, b :: op', false⟩ 32 = some ⟨r, rs, b :: op', true⟩ from stp_space b r rs op']
          simp only
          refine lrun_eq l s (some 32) ⟨r, rs, b :: op', true⟩ ⟨rfl, hop, hlen, hcnt, fun z => absurd z hst, ?_, fun _ => ⟨fun z => bad (.inr (.inl z)), fun z => bad (.inr (.inr (.inl z)))⟩, nofun, fun _ => .inr (.inl rfl), R.one⟩
          rintro (z | z) <;> cases z
    · have n32 : ¬ c = 32 := c32
      rw [lst, if_neg n32]
      by_cases hL : c = 108 ∨ c = 115
      · rw [if_pos hL]
        cases he : endE p with
        | true =>
          rw [if_pos rfl]
          have hwf : w = false := by rw [hw, he]; rfl
          subst hwf
          have : stp ⟨r, rs, op, false⟩ c = none := by
            cases op with
            | nil => simp [stp]
            | cons b op' =>
              rcases hL with z | z <;> subst z <;> cases b <;> simp [stp, cc]
          rw [this]
          rfl
        | false =>
          rw [if_neg (by decide)]
          have hwt : w = true := by rw [hw, he]; rfl
          subst hwt
          have e1 : stp ⟨r, rs, op, true⟩ c = some ⟨r ++ [.leaf (decide (c = 108))], rs, op, false⟩ := by
            rw [stp, if_pos ⟨rfl, hL⟩]
          rw [e1]
          simp only
          have em : s.inc.one.many = s.many + 1 := by
            unfold LS.inc LS.one
            cases s.st <;> rfl
          have ec : ct [c] = 1 := by rw [ct_one, if_pos hL]
          have ee : endE (some c) = true := by
            rcases hL with z | z <;> subst z <;> rfl
          have q := lrun_eq l s.inc.one (some c) ⟨r ++ [.leaf (decide (c = 108))], rs, op, false⟩ ⟨by rw [ee]; rfl, ?_, hlen, ?_, ?_, ?_, ?_, nofun, nofun, ?_⟩
          · rw [q, em, ec]
            congr 1
            omega
          · rw [hop]
            unfold LS.inc LS.one
            cases s.st <;> rfl
          · unfold LS.inc LS.one
            cases hs : s.st with
            | nil =>
              rw [hs] at hcnt
              cases rs with
              | nil =>
                simp at hcnt ⊢
                omega
              | cons q qs => simp at hcnt
            | cons a st' =>
              obtain ⟨b, n⟩ := a
              rw [hs] at hcnt
              cases rs with
              | nil => simp at hcnt
              | cons q qs =>
                simp at hcnt ⊢
                omega
          · intro z
            have hst : s.st = [] := by
              cases hs : s.st with
              | nil => rfl
              | cons a st' =>
                obtain ⟨b, n⟩ := a
                simp [LS.inc, LS.one, hs] at z
            have b0 := (R.bot hst).1 rfl
            refine ⟨nofun, fun _ => ?_⟩
            simp [LS.inc, LS.one, hst, b0]
          · rintro (z | z)
            · cases z
              simp at hL
            · cases z
              simp at hL
          · intro z
            cases z
            exact absurd rfl n32
          · intro z
            cases hs : s.st with
            | nil => simp [LS.inc, LS.one, hs] at z
            | cons a st' =>
              have := R.one (by rw [hs]; simp)
              simp [LS.inc, LS.one, hs, this]
      · rw [if_neg hL]
        by_cases hO : c = 91 ∨ c = 40
        · rw [if_pos hO]
          cases he : endE p with
          | true =>
            rw [if_pos rfl]
            have hwf : w = false := by rw [hw, he]; rfl
            subst hwf
            have : stp ⟨r, rs, op, false⟩ c = none := by
              cases op with
              | nil => simp [stp]
              | cons b op' =>
                rcases hO with z | z <;> subst z <;> cases b <;> simp [stp, cc]
            rw [this]
            rfl
          | false =>
            rw [if_neg (by decide)]
            have hwt : w = true := by rw [hw, he]; rfl
            subst hwt
            have e1 : stp ⟨r, rs, op, true⟩ c = some ⟨[], r :: rs, decide (c = 91) :: op, true⟩ := by
              rw [stp, if_neg (fun z => hL z.2), if_pos ⟨rfl, hO⟩]
            rw [e1]
            simp only
            have em : (s.inc.push (decide (c = 91))).many = s.many := by
              unfold LS.inc LS.push
              cases s.st <;> rfl
            have ec : ct [c] = 0 := by rw [ct_one, if_neg hL]
            have ee : endE (some c) = false := by
              rcases hO with z | z <;> subst z <;> rfl
            have q := lrun_eq l (s.inc.push (decide (c = 91))) (some c) ⟨[], r :: rs, decide (c = 91) :: op, true⟩ ⟨by rw [ee]; rfl, ?_, ?_, ?_, ?_, fun _ => rfl, ?_, nofun, fun _ => ?_, ?_⟩
            · rw [q, em, ec, Nat.zero_add]
            · rw [hop]
              unfold LS.inc LS.push
              cases s.st <;> rfl
            · simp [hlen]
            · unfold LS.inc LS.push
              cases hs : s.st with
              | nil =>
                rw [hs] at hcnt
                cases rs with
                | nil =>
                  simp at hcnt ⊢
                  omega
                | cons q qs => simp at hcnt
              | cons a st' =>
                obtain ⟨b, n⟩ := a
                rw [hs] at hcnt
                cases rs with
                | nil => simp at hcnt
                | cons q qs =>
                  simp at hcnt ⊢
                  exact ⟨by omega, hcnt.2⟩
            · intro z
              exfalso
              cases hs : s.st <;> simp [LS.inc, LS.push, hs] at z
            · intro z
              cases z
              exact absurd rfl n32
            · rcases hO with z | z <;> subst z
              · exact .inr (.inr (.inl rfl))
              · exact .inr (.inr (.inr rfl))
            · intro _
              cases hs : s.st with
              | nil =>
                have := (R.bot hs).1 rfl
                simp [LS.inc, LS.push, hs, this]
              | cons a st' =>
                have := R.one (by rw [hs]; simp)
                simp [LS.inc, LS.push, hs, this]
        · rw [if_neg hO]
          by_cases hC : c = 93 ∨ c = 41
          · rw [if_pos hC]
            have ec : ct [c] = 0 := by rw [ct_one, if_neg hL]
            cases hs : s.st with
            | nil =>
              simp only
              have hop0 : op = [] := by rw [hop, hs]; rfl
              subst hop0
              have : stp ⟨r, rs, [], w⟩ c = none := by
                rw [stp, if_neg (fun z => hL z.2), if_neg (fun z => hO z.2)]
              rw [this]
              rfl
            | cons a st' =>
              obtain ⟨b, n⟩ := a
              simp only
              rw [hs] at hop hcnt
              cases op with
              | nil => cases hop
              | cons b' op' =>
                simp only [List.map_cons, List.cons.injEq] at hop
                obtain ⟨rfl, hop'⟩ := hop
                cases rs with
                | nil => simp at hlen
                | cons r' rs' =>
                  simp only [List.map_cons, List.cons_append, List.cons.injEq] at hcnt
                  obtain ⟨hn, hcnt'⟩ := hcnt
                  have ecc : c = cc b' ↔ b' = decide (c = 93) := by
                    rcases hC with z | z <;> subst z <;> cases b' <;> simp [cc]
                  have nost : ¬ (w = true ∧ b' = decide (c = 93) ∧ 2 ≤ n) := by
                    rintro ⟨hwt, _, h2⟩
                    rcases R.opn2 hwt with z | z | z | z
                    · have := R.st0 z
                      rw [hs] at this
                      cases this
                    · exact (R.sp z).2 ⟨c, rfl, .inr hC⟩
                    · have : r = [] := R.opn (.inl z)
                      rw [this] at hn
                      simp at hn
                      omega
                    · have : r = [] := R.opn (.inr z)
                      rw [this] at hn
                      simp at hn
                      omega
                  by_cases bad : b' ≠ decide (c = 93) ∨ n < 2
                  · rw [if_pos bad]
                    have : stp ⟨r, r' :: rs', b' :: op', w⟩ c = none := by
                      rw [stp, if_neg (fun z => hL z.2), if_neg (fun z => hO z.2)]
                      simp only
                      by_cases hwt : w = true
                      · rw [if_pos hwt]
                      · rw [if_neg hwt, if_neg n32, if_neg]
                        rintro ⟨z1, z2⟩
                        rcases bad with q | q
                        · exact q (ecc.mp z1)
                        · omega
                    rw [this]
                    rfl
                  · rw [if_neg bad]
                    have hb : b' = decide (c = 93) := by
                      by_cases z : b' = decide (c = 93)
                      · exact z
                      · exact absurd (.inl z) bad
                    have h2 : 2 ≤ n := by
                      rcases Nat.lt_or_ge n 2 with z | z
                      · exact absurd (.inr z) bad
                      · exact z
                    have hwf : w = false := by
                      cases hwv : w with
                      | false => rfl
                      | true => exact absurd ⟨hwv, hb, h2⟩ nost
                    subst hwf
                    have e1 : stp ⟨r, r' :: rs', b' :: op', false⟩ c = some ⟨r' ++ [.node b' r], rs', op', false⟩ := by
                      rw [ecc.mpr hb]
                      exact stp_close b' r r' rs' op' (by omega)
                    rw [e1]
                    simp only
                    have ee : endE (some c) = true := by
                      rcases hC with z | z <;> subst z <;> rfl
                    have q := lrun_eq l { s with st := st' } (some c) ⟨r' ++ [.node b' r], rs', op', false⟩ ⟨by rw [ee]; rfl, hop', ?_, ?_, ?_, ?_, ?_, nofun, nofun, fun _ => R.one (by rw [hs]; simp)⟩
                    · rw [q, ec, Nat.zero_add]
                    · simp at hlen ⊢
                      exact hlen
                    · simp only at hcnt' ⊢
                      rw [hcnt']
                      cases rs' with
                      | nil => simp
                      | cons q qs => simp
                    · intro z
                      exact ⟨nofun, fun _ => R.one (by rw [hs]; simp)⟩
                    · rintro (z | z)
                      · cases z
                        simp at hC
                      · cases z
                        simp at hC
                    · intro z
                      cases z
                      exact absurd rfl n32
          · rw [if_neg hC]
            have : stp ⟨r, rs, op, w⟩ c = none := by
              rw [stp, if_neg (fun z => hL z.2), if_neg (fun z => hO z.2)]
              cases op with
              | nil => rfl
              | cons b op' =>
                simp only
                by_cases hwt : w = true
                · rw [if_pos hwt]
                · rw [if_neg hwt, if_neg n32, if_neg]
                  rintro ⟨z, _⟩
                  apply hC
                  rw [z]
                  cases b <;> simp [cc]
            rw [this]
            rfl
end Tq

/-! What a run that ends well has read (for k42). -/
namespace Tq
theorem stp_f' {r : List Tr} {rs : List (List Tr)} {b : Bool} {op : List Bool} {c : Nat} {m' : MS} (h : stp ⟨r, rs, b :: op, false⟩ c = some m') :
    (c = 32 ∧ m' = ⟨r, rs, b :: op, true⟩) ∨ (c ≠ 32 ∧ c = cc b ∧ 1 < r.length ∧ ∃ r' rs', rs = r' :: rs' ∧ m' = ⟨r' ++ [.node b r], rs', op, false⟩) := by
  simp only [stp, Bool.false_eq_true, false_and, if_false] at h
  by_cases q : c = 32
  · rw [if_pos q] at h
    exact .inl ⟨q, (Option.some.inj h).symm⟩
  · rw [if_neg q] at h
    by_cases q2 : c = cc b ∧ 1 < r.length
    · rw [if_pos q2] at h
      cases rs with
      | nil => cases h
      | cons r' rs' => exact .inr ⟨q, q2.1, q2.2, r', rs', rfl, (Option.some.inj h).symm⟩
    · rw [if_neg q2] at h
      cases h
theorem stp_t' {r : List Tr} {rs : List (List Tr)} {op : List Bool} {c : Nat} {m' : MS} (h : stp ⟨r, rs, op, true⟩ c = some m') :
    ((c = 108 ∨ c = 115) ∧ m' = ⟨r ++ [.leaf (decide (c = 108))], rs, op, false⟩) ∨ (¬ (c = 108 ∨ c = 115) ∧ (c = 91 ∨ c = 40) ∧ m' = ⟨[], r :: rs, decide (c = 91) :: op, true⟩) := by
  rw [stp] at h
  by_cases q : c = 108 ∨ c = 115
  · rw [if_pos ⟨rfl, q⟩] at h
    exact .inl ⟨q, (Option.some.inj h).symm⟩
  · rw [if_neg (fun z => q z.2)] at h
    by_cases q2 : c = 91 ∨ c = 40
    · rw [if_pos ⟨rfl, q2⟩] at h
      exact .inr ⟨q, q2, (Option.some.inj h).symm⟩
    · rw [if_neg (fun z => q2 z.2)] at h
      cases op <;> simp at h
def sumR : List (List Tr) → Nat
  | [] => 0
  | r :: rs => lvs r + sumR rs
/-- all that is read is well formed; the rows fit the brackets; at the top one tree at most -/
structure Ok (m : MS) : Prop where
  wf : ∀ q ∈ m.r :: m.rs, wfs q
  len : m.rs.length = m.op.length
  fit : m.rs = [] → (m.w = true → m.r = []) ∧ (m.w = false → m.r.length = 1)
  bot : ∀ q qs, m.rs = q :: qs → (q :: qs).getLast? = some []
theorem stp_ok {m m' : MS} {c : Nat} (h : stp m c = some m') (o : Ok m) : Ok m' ∧ lvs m'.r + sumR m'.rs = lvs m.r + sumR m.rs + ct [c] := by
  obtain ⟨r, rs, op, w⟩ := m
  cases w with
  | true =>
    rcases stp_t' h with ⟨hc, rfl⟩ | ⟨hc, ho, rfl⟩
    · refine ⟨⟨?_, o.len, ?_, ?_⟩, ?_⟩
      · intro q hq
        rcases List.mem_cons.mp hq with e | e
        · rw [e]
          exact (wfs_iff _).mpr fun t ht => (List.mem_append.mp ht).elim (fun h => (wfs_iff _).mp (o.wf r (List.mem_cons_self ..)) t h) (fun h => by rw [List.mem_singleton.mp h, Tq.wf]; trivial)
        · exact o.wf q (List.mem_cons_of_mem _ e)
      · intro z
        have b := (o.fit z).1 rfl
        refine ⟨nofun, fun _ => ?_⟩
        have b : r = [] := b
        simp [b]
      · exact o.bot
      · rw [ct_one, if_pos hc]
        show lvs (r ++ [_]) + _ = lvs r + _ + 1
        rw [lvs_app, lvs, lvs, lv]
        simp only
        omega
    · refine ⟨⟨?_, ?_, ?_, ?_⟩, ?_⟩
      · intro q hq
        rcases List.mem_cons.mp hq with e | e
        · rw [e, wfs]; trivial
        · exact o.wf q e
      · have := o.len
        simp only [List.length_cons] at this ⊢
        omega
      · intro z; cases z
      · intro q qs e
        simp only [List.cons.injEq] at e
        obtain ⟨rfl, rfl⟩ := e
        cases rs with
        | nil =>
          have b : r = [] := (o.fit rfl).1 rfl
          simp [b]
        | cons q qs =>
          have := o.bot q qs rfl
          rw [List.getLast?_cons_cons]
          exact this
      · rw [ct_one, if_neg hc]
        show lvs [] + sumR (r :: rs) = lvs r + sumR rs + 0
        rw [lvs, sumR]
        omega
  | false =>
    cases op with
    | nil => simp [stp] at h
    | cons b op =>
      rcases stp_f' h with ⟨hc, rfl⟩ | ⟨n32, hcc, hr1, r', rs', e, rfl⟩
      · refine ⟨⟨o.wf, o.len, ?_, o.bot⟩, ?_⟩
        · intro z
          have := o.len
          have z : rs = [] := z
          rw [z] at this
          simp at this
        · subst hc
          show lvs r + sumR rs = lvs r + sumR rs + 0
          rfl
      · have e : rs = r' :: rs' := e
        subst e
        have hl := o.len
        simp only [List.length_cons] at hl
        refine ⟨⟨?_, by show rs'.length = op.length; omega, ?_, ?_⟩, ?_⟩
        · intro q hq
          rcases List.mem_cons.mp hq with e | e
          · rw [e]
            refine (wfs_iff _).mpr fun t ht => (List.mem_append.mp ht).elim (fun h => (wfs_iff _).mp (o.wf r' (by simp)) t h) (fun h => ?_)
            rw [List.mem_singleton.mp h, Tq.wf]
            exact ⟨hr1, o.wf r (List.mem_cons_self ..)⟩
          · exact o.wf q (by simp; exact .inr (.inr e))
        · intro z
          have z : rs' = [] := z
          refine ⟨nofun, fun _ => ?_⟩
          have := o.bot r' rs' rfl
          rw [z] at this
          have : r' = [] := by simpa using this
          simp [this]
        · intro q qs e
          have e : rs' = q :: qs := e
          have := o.bot r' rs' rfl
          rw [e, List.getLast?_cons_cons] at this
          exact this
        · have ec : ct [c] = 0 := by
            rw [ct_one, if_neg]
            rintro (z | z) <;> rw [hcc] at z <;> cases b <;> simp [cc] at z
          rw [ec]
          show lvs (r' ++ [_]) + sumR rs' = lvs r + sumR (r' :: rs') + 0
          rw [lvs_app, lvs, lvs, lv, sumR]
          omega
theorem run_ok : ∀ (l : List Nat) {m m' : MS}, run m l = some m' → Ok m → Ok m' ∧ lvs m'.r + sumR m'.rs = lvs m.r + sumR m.rs + ct l
  | [], m, m', h, o => by
    rw [run] at h
    cases h
    exact ⟨o, rfl⟩
  | c :: l, m, m', h, o => by
    rw [run] at h
    cases e : stp m c with
    | none =>
      rw [e] at h
      cases h
    | some m2 =>
      rw [e] at h
      obtain ⟨o2, e2⟩ := stp_ok e o
      obtain ⟨o3, e3⟩ := run_ok l h o2
      refine ⟨o3, ?_⟩
      rw [e3, e2, ct_cons c l]
      omega
def m0 : MS := ⟨[], [], [], true⟩
theorem ok0 : Ok m0 := ⟨by simp [m0, wfs], rfl, fun _ => ⟨fun _ => rfl, nofun⟩, nofun⟩
/-- a good end: one tree -/
theorem run_tree {l : List Nat} {m : MS} (h : run m0 l = some m) (ho : m.op = []) (hw : m.w = false) : ∃ t, m = ⟨[t], [], [], false⟩ ∧ wf t ∧ lv t = ct l := by
  obtain ⟨o, e⟩ := run_ok l h ok0
  obtain ⟨r, rs, op, w⟩ := m
  have hl := o.len
  simp only at ho hw hl
  subst ho hw
  have hrs : rs = [] := by simpa using hl
  subst hrs
  have hr : r.length = 1 := (o.fit rfl).2 rfl
  match r, hr with
  | [t], _ =>
    have w1 := o.wf [t] (List.mem_cons_self ..)
    rw [wfs] at w1
    refine ⟨t, rfl, w1.1, ?_⟩
    have e2 : lvs [t] + 0 = 0 + 0 + ct l := e
    rw [lvs, lvs] at e2
    omega
theorem rel0 (l : List Nat) : Rel ⟨0, [], 0⟩ none l m0 := ⟨rfl, rfl, rfl, rfl, fun _ => ⟨fun _ => rfl, nofun⟩, fun _ => rfl, nofun, fun _ => rfl, fun _ => .inl rfl, fun z => absurd rfl z⟩
/-- what the law's reader tells -/
theorem reads_eq (l : List Nat) : lrun ⟨0, [], 0⟩ none l = outO (run m0 l) (ct l) := by
  have := lrun_eq l ⟨0, [], 0⟩ none m0 (rel0 l)
  rw [this, Nat.zero_add]
end Tq

namespace Zq
open PySem PySem.Spec PyProof.Rows L2 SX Tq
section
variable {P : Program} {w : World} {K : PySem.W.Frag} {mg : Str → Option Value} {base : Heap}
abbrev nNo : List Str := ["text", "rows", "opened", "is_wanted", "char", "node"]
theorem s12 : FnScope nNo ["text"] (defScope (top 89)) := (⟨rfl, rfl, rfl, by decide +kernel, rfl, by decide +kernel, by decide +kernel⟩)
def goodR (l : List Nat) (t : Tr) : Prop := Tq.run m0 l = some ⟨[t], [], [], false⟩
abbrev spNode : Sp := Prx (α := List Nat) (fun l => [.str (S l)]) (fun l H Q => l.length ≤ 5000 ∧ (∀ t v H', goodR l t → Same H H' → Pn H' t v → Q v H') ∧ ((∀ t, ¬ goodR l t) → ∀ H', Same H H' → Q .non H'))
theorem dp_strs {K : PySem.W.Frag} {H : Hp} (l : List Bool) (f : Bool → Nat) : DpAll K H (l.map fun b => V.str (S [f b])) (l.map fun b => PyData.str (S [f b])) := by
  induction l with
  | nil => exact .nil
  | cons b r ih => exact .cons (.str _) ih
theorem sh_strs (l : List Bool) : SeqAt.shaped (.list (l.map fun b => PyData.str (S [oc b]))) = true := by
  have e1 : PyData.canLayAll0 (l.map fun b => PyData.str (S [oc b])) = true := by
    induction l with
    | nil => rfl
    | cons b r ih =>
      show (PyData.canLay0 (.str (S [oc b])) && PyData.canLayAll0 (r.map fun b => PyData.str (S [oc b]))) = true
      rw [ih]
      cases b <;> decide +kernel
  have e2 : PyData.depthAll (l.map fun b => PyData.str (S [oc b])) = 0 := by
    induction l with
    | nil => rfl
    | cons b r ih =>
      have q : PyData.canLayAll0 (r.map fun b => PyData.str (S [oc b])) = true := by
        have : (PyData.canLay0 (.str (S [oc b])) && PyData.canLayAll0 (r.map fun b => PyData.str (S [oc b]))) = true := e1
        exact (Bool.and_eq_true_iff.mp this).2
      simp only [List.map_cons, PyData.depthAll, PyData.depth, ih q]
      rfl
  unfold SeqAt.shaped
  rw [Bool.and_eq_true]
  refine ⟨e1, decide_eq_true ?_⟩
  simp only [PyData.depth, e2]
  decide
theorem eqv_ne {xs : List PyData} (h : xs ≠ []) : PyData.eqv (.list xs) (.list []) = false := by
  cases xs with
  | nil => exact absurd rfl h
  | cons x r => simp [PyData.eqv, PyData.eqvAll]
theorem one_eq {c : Nat} (h : V.str ⟨#[c]⟩ = V.str " ") : c = 32 := by
  rw [s_sp] at h
  injection h with h
  exact List.singleton_inj.mp (S_inj (a := [c]) (b := [32]) h)
theorem stp_f {r : List Tr} {rs : List (List Tr)} {b : Bool} {op : List Bool} {c : Nat} {m' : MS} (h : stp ⟨r, rs, b :: op, false⟩ c = some m') :
    (c = 32 ∧ m' = ⟨r, rs, b :: op, true⟩) ∨ (c ≠ 32 ∧ c = cc b ∧ 1 < r.length ∧ ∃ r' rs', rs = r' :: rs' ∧ m' = ⟨r' ++ [.node b r], rs', op, false⟩) := by
  simp only [stp, Bool.false_eq_true, false_and, if_false] at h
  by_cases q : c = 32
  · rw [if_pos q] at h
    exact .inl ⟨q, (Option.some.inj h).symm⟩
  · rw [if_neg q] at h
    by_cases q2 : c = cc b ∧ 1 < r.length
    · rw [if_pos q2] at h
      cases rs with
      | nil => cases h
      | cons r' rs' => exact .inr ⟨q, q2.1, q2.2, r', rs', rfl, (Option.some.inj h).symm⟩
    · rw [if_neg q2] at h
      cases h
theorem stp_f0 {r : List Tr} {rs : List (List Tr)} {c : Nat} {m' : MS} (h : stp ⟨r, rs, [], false⟩ c = some m') : False := by
  simp [stp] at h
theorem stp_t {r : List Tr} {rs : List (List Tr)} {op : List Bool} {c : Nat} {m' : MS} (h : stp ⟨r, rs, op, true⟩ c = some m') :
    ((c = 108 ∨ c = 115) ∧ m' = ⟨r ++ [.leaf (decide (c = 108))], rs, op, false⟩) ∨ (¬ (c = 108 ∨ c = 115) ∧ (c = 91 ∨ c = 40) ∧ m' = ⟨[], r :: rs, decide (c = 91) :: op, true⟩) := by
  rw [stp] at h
  by_cases q : c = 108 ∨ c = 115
  · rw [if_pos ⟨rfl, q⟩] at h
    exact .inl ⟨q, (Option.some.inj h).symm⟩
  · rw [if_neg (fun z => q z.2)] at h
    by_cases q2 : c = 91 ∨ c = 40
    · rw [if_pos ⟨rfl, q2⟩] at h
      exact .inr ⟨q, q2, (Option.some.inj h).symm⟩
    · rw [if_neg (fun z => q2 z.2)] at h
      cases op <;> simp at h
theorem run_some {m m2 : MS} {c : Nat} {l : List Nat} (h : Tq.run m (c :: l) = some m2) : ∃ m', stp m c = some m' ∧ Tq.run m' l = some m2 := by
  rw [Tq.run] at h
  cases e : stp m c with
  | none =>
    rw [e] at h
    cases h
  | some m' =>
    rw [e] at h
    exact ⟨m', rfl, h⟩
theorem c_node (D : Df K mg "node_of" (top 89)) (B : Bl w K mg) : Cal P w K mg base 1 "node_of" ["text"] spNode := by
  refine mkC D s12 (fun _ _ _ _ _ _ us hl => match us, hl with | [_], _ => rfl) (fun _ => rfl) (fun f cdv A outer s H z Q E hr k => ?_)
  obtain ⟨zl, k, kn⟩ := k
  have zl : z.length ≤ 5000 := zl
  obtain ⟨t1, h1⟩ := B.lies_
  obtain ⟨t2, h2⟩ := B.stands_
  obtain ⟨t3, h3⟩ := B.cols_
  obtain ⟨t4, h4⟩ := B.rows_
  obtain ⟨d, es, n, hm, KD, g1, g2⟩ := B.clo_
  have hu2 : (A.deeper (envOfC "node_of" (defScope (top 89)) s.heap.objs.size f cdv)).units + 64 < cLine := by have := hr.un; omega
  refine ⟨_, pss_cons (ps_par3 (i := 1) (j := 2) (l := 3) rfl s12.nd rfl rfl rfl (by decide) (by decide) (by decide) rfl rfl rfl (pa_cons (pe_lst (pa_cons (pe_lst pa_nil) pa_nil)) (pa_cons (pe_lst pa_nil) (pa_cons pe_bl pa_nil))) rfl)
    (pss_cons (ps_for PassesOwn.never rfl (pi_str (pv 0)) ((pg_name (i := 4) (FnScope.nd s12) rfl (Or.inl rfl)))
      (pss_one (ps_if (PW.pt (pw_and (pt_val (pv 3)) (pw_and1 (pt_cmpR op_in_seq (pv 4) (pe_tup (pa_cons (pe_glob (v := .str "l") (by rfl) h1 ⟨_, rfl⟩) (pa_cons (pe_glob (v := .str "s") (by rfl) h2 ⟨_, rfl⟩) pa_nil))) (by rfl)))))
          (pss_cons (ps_expr ((pe_bm PySem.F.plainAttrs_list PySem.F.slot_list_append PySem.F.type_list_append mt_append ((pe_ix ix_list (pv 1) (pe_un un_neg pe_int) (fun _ _ => rfl))) (pa_cons (pe_tup (pa_cons (pv 4) (pa_cons (pe_tup pa_nil) pa_nil))) pa_nil)))) (pss_one ((ps_set (i := 3) (FnScope.nd s12) rfl (Or.inl rfl) pe_bl))))
        (pss_one (ps_if (PW.pt (pw_and (pt_val (pv 3)) (pw_and1 (pt_cmpR op_in_seq (pv 4) (pe_tup (pa_cons (pe_glob (v := .str "[") (by rfl) h3 ⟨_, rfl⟩) (pa_cons (pe_glob (v := .str "(") (by rfl) h4 ⟨_, rfl⟩) pa_nil))) (by rfl)))))
          (pss_cons (ps_expr ((pe_bm PySem.F.plainAttrs_list PySem.F.slot_list_append PySem.F.type_list_append mt_append (pv 1) (pa_cons (pe_lst pa_nil) pa_nil)))) (pss_one (ps_expr ((pe_bm PySem.F.plainAttrs_list PySem.F.slot_list_append PySem.F.type_list_append mt_append (pv 2) (pa_cons (pv 4) pa_nil))))))
        (pss_one (ps_if (PW.pt (pw_or (pt_cmpR (op_eqD hu2) (pv 2) (pe_lst pa_nil) (nomark _)) (pw_or1 (pt_val (pv 3)))))
          (pss_one (ps_ret pe_non))
        (pss_one (ps_if ((pt_cmpR op_eq (pv 4) pe_str (nomark _)))
          (pss_one ((ps_set (i := 3) (FnScope.nd s12) rfl (Or.inl rfl) pe_bl)))
        (pss_one (ps_if (PW.pt (pw_and (pt_cmpR op_eq (pv 4) (pe_ix (ix_kd KD) (pe_glob (v := .ref d) (by rfl) hm rfl) ((pe_ix ix_list (pv 2) (pe_un un_neg pe_int) (fun _ _ => rfl))) (fun _ _ => rfl)) (nomark _)) (pw_and1 ((pt_cmpR op_gt ((pe_callB call_len_seq (by rfl) (Bl.len_ B) PySem.boot_len (pa_cons ((pe_ix ix_list (pv 1) (pe_un un_neg pe_int) (fun _ _ => rfl))) pa_nil))) pe_int (nomark _))))))
          (pss_cons ((ps_set (i := 5) (FnScope.nd s12) rfl (Or.inl rfl) (pe_tup (pa_cons (pe_bm0 PySem.F.plainAttrs_list PySem.F.slot_list_pop PySem.F.type_list_pop mt_pop (pv 2)) (pa_cons (pe_callTy call_tuple_of (by rfl) B.tuple_ PyProof.Rows.boot_tuple (pa_cons (pe_bm0 PySem.F.plainAttrs_list PySem.F.slot_list_pop PySem.F.type_list_pop mt_pop (pv 1)) pa_nil)) pa_nil)))))
            (pss_one (ps_expr ((pe_bm PySem.F.plainAttrs_list PySem.F.slot_list_append PySem.F.type_list_append mt_append ((pe_ix ix_list (pv 1) (pe_un un_neg pe_int) (fun _ _ => rfl))) (pa_cons (pv 5) pa_nil))))))
          (pss_one (ps_ret pe_non)))))))))))))
    (pss_one (ps_ret (pe_ifExp (PW.pt (pw_and (pt_cmpR (op_eqD hu2) (pv 2) (pe_lst pa_nil) (nomark _)) (pw_and1 (pt_not (pt_val (pv 3)))))) ((pe_ix ix_list ((pe_ix ix_list (pv 1) pe_int (fun _ _ => rfl))) pe_int (fun _ _ => rfl))) pe_non)))), ?_⟩
  have e0 : L2.start nNo [V.str (S z)] = [some (.str (S z)), none, none, none, none, none] := rfl
  rw [e0]
  refine ⟨by decide, fun a0 na => ⟨(by show 1 ≤ sizeLine; decide), fun R nRn => ⟨by decide, fun O nOn => ⟨_, _, _, rfl, ?_⟩⟩⟩⟩
  have big : 20000 < sizeLine := by decide
  have init : Rws H (upd (upd (upd H a0 (.lst [])) R (.lst [.ref a0])) O (.lst [])) ⟨[], [], [], true⟩ R O 0 [a0] := by
    have e1 : R ≠ a0 := fun e => by rw [e, upd_same] at nRn; cases nRn
    have e2 : O ≠ R := fun e => by rw [e, upd_same] at nOn; cases nOn
    have e3 : O ≠ a0 := fun e => by
      rw [e, upd_ne (Ne.symm e1), upd_same] at nOn
      cases nOn
    rw [upd_ne e1] at nRn
    rw [upd_ne e2, upd_ne e3] at nOn
    exact {
      rows := ⟨a0, [], [], rfl, by rw [upd_ne (Ne.symm e3), upd_ne (Ne.symm e1)]; exact upd_same, PnA.nil, rfl⟩
      atR := by rw [upd_ne (Ne.symm e2)]; exact upd_same
      nd := by simp
      rN := by simpa using e1
      oN := by simpa using e3
      new := by simpa using na
      atO := upd_same
      ne := Ne.symm e2
      nR := nRn
      nO := nOn
      same := same_put (same_put (same_put (Same.refl _) na) nRn) nOn
      len := rfl
      sz := by simp
      sz2 := Nat.le_refl _ }
  refine ⟨_, rfl, _, rfl, for_it walk_str (fun i σ H1 => ∃ (m : MS) (as : List Addr) (c4 c5 : Option V), σ = [some (.str (S z)), some (.ref R), some (.ref O), some (.bl m.w), c4, c5] ∧ Rws H H1 m R O i as ∧ Tq.run m (z.drop i) = Tq.run m0 z)
    ⟨⟨[], [], [], true⟩, [a0], none, none, rfl, init, rfl⟩ (fun _ _ _ _ _ => trivial) ?_ ?_⟩
  · rintro i x σ H1 H2 hi ⟨m, as, c4, c5, rfl, W, hrun⟩ ⟨rfl, c, hc, rfl⟩
    have hi2 : i < z.length := by simpa using hi
    have hc2 : z[i]? = some c := by simpa using hc
    have hd : z.drop i = c :: z.drop (i + 1) := by
      rw [List.drop_eq_getElem_cons hi2]
      rw [List.getElem?_eq_getElem hi2] at hc2
      rw [Option.some.inj hc2]
    rw [hd] at hrun
    have dead : stp m c = none → ∀ H', Same H H' → Q .non H' := fun e => kn fun t g => by
      rw [goodR, ← hrun, Tq.run, e] at g
      cases g
    have live : ∀ m', stp m c = some m' → Tq.run m' (z.drop (i + 1)) = Tq.run m0 z := fun m' e => by
      rw [← hrun, Tq.run, e]
    obtain ⟨r, rs, op, w1⟩ := m
    have e1 : inV (.str ⟨#[c]⟩) [.str "l", .str "s"] = (decide (c = 108) || decide (c = 115)) := by
      rw [sl, ss]
      exact in2 c 108 115
    have e2 : inV (.str ⟨#[c]⟩) [.str "[", .str "("] = (decide (c = 91) || decide (c = 40)) := by
      rw [so1, so2]
      exact in2 c 91 40
    have szr : r.length ≤ i := W.sz r (List.mem_cons_self ..)
    have szs : rs.length ≤ i := W.sz2
    have szo : op.length = rs.length := W.len
    cases w1 with
    | true =>
      refine ⟨_, rfl, true, rfl, iteT ⟨_, rfl, by decide, fun p np => ⟨p, _, rfl, .inr (SqT.of upd_same), rfl, rfl, _, rfl, ite2 (fun hb => ?_) (fun hb => ?_)⟩⟩⟩
      · replace hb : inV (.str ⟨#[c]⟩) [.str "l", .str "s"] = true := hb
        rw [e1] at hb
        have hb2 : c = 108 ∨ c = 115 := by simpa using hb
        have hrun := live ⟨r ++ [.leaf (decide (c = 108))], rs, op, false⟩ (by rw [stp, if_pos ⟨rfl, hb2⟩])
        have W2 := W.mk_new (o := .tup [.str "l", .str "s"]) np
        obtain ⟨a, bs, vs, rfl, hv, hp, _⟩ := W2.top
        have hR : upd H2 p (.tup [.str "l", .str "s"]) R = some (.lst (bs.reverse.map V.ref ++ [.ref a])) := by
          rw [W2.atR]
          simp
        refine ⟨_, rfl, _, rfl, R, _, -1, .ref a, rfl, rfl, SqL.of hR, atI_last _ _, .inl ⟨rfl, _, SqL.of hv⟩, _, rfl, by decide, fun e ne => ⟨(by show 2 ≤ sizeLine; decide), fun q nq => ?_⟩⟩
        have W3 := (W2.mk_new (o := .tup []) ne).mk_new (o := .tup [.str ⟨#[c]⟩, .ref e]) nq
        have neq : e ≠ q := fun z => by rw [← z, upd_same] at nq; cases nq
        obtain ⟨a', bs', vs', ee, hv3, hp3, _⟩ := W3.top
        cases ee
        have hvv : vs' = vs := by
          have z2 : upd (upd (upd H2 p (.tup [.str "l", .str "s"])) e (.tup [])) q (.tup [.str ⟨#[c]⟩, .ref e]) a = some (.lst vs) := by
            rw [upd_ne (ne_of_none (by rw [upd_ne (ne_of_none hv ne)]; exact hv) nq), upd_ne (ne_of_none hv ne)]
            exact hv
          rw [hv3] at z2
          cases z2
          rfl
        subst hvv
        have pn : Pn (upd (upd (upd H2 p (.tup [.str "l", .str "s"])) e (.tup [])) q (.tup [.str ⟨#[c]⟩, .ref e])) (.leaf (decide (c = 108))) (.ref q) := by
          rw [Pn]
          refine ⟨q, e, rfl, ?_, ?_⟩
          · refine upd_same.trans ?_
            have : lc (decide (c = 108)) = c := by
              rcases hb2 with z | z <;> rw [z] <;> rfl
            rw [this]
          · rw [upd_ne neq]
            exact upd_same
        refine ⟨a, vs', _, rfl, rfl, hv3, ?_, ?_⟩
        · have q : vs'.length = r.length := hp3.length
          omega
        · exact ⟨⟨r ++ [.leaf (decide (c = 108))], rs, op, false⟩, _, _, _, rfl, W3.push hv3 hp3 pn, hrun⟩
      · replace hb : ¬ inV (.str ⟨#[c]⟩) [.str "l", .str "s"] = true := hb
        rw [e1] at hb
        have hb2 : ¬ (c = 108 ∨ c = 115) := by simpa using hb
        have W2 := W.mk_new (o := .tup [.str "l", .str "s"]) np
        refine ⟨_, rfl, true, rfl, iteT ⟨_, rfl, by decide, fun p2 np2 => ⟨p2, _, rfl, .inr (SqT.of upd_same), rfl, rfl, _, rfl, ite2 (fun hc3 => ?_) (fun hc3 => ?_)⟩⟩⟩
        · replace hc3 : inV (.str ⟨#[c]⟩) [.str "[", .str "("] = true := hc3
          rw [e2] at hc3
          have hc4 : c = 91 ∨ c = 40 := by simpa using hc3
          have hrun := live ⟨[], r :: rs, decide (c = 91) :: op, true⟩ (by rw [stp, if_neg (fun z => hb2 z.2), if_pos ⟨rfl, hc4⟩])
          have W3 := W2.mk_new (o := .tup [.str "[", .str "("]) np2
          have asl : as.length = rs.length + 1 := W3.rows.length
          refine ⟨_, rfl, .inl ⟨rfl, _, SqL.of W3.atR⟩, by decide, fun p3 np3 => ?_⟩
          have W4 := W3.opn (b := decide (c = 91)) (w2 := true) np3
          have nRp : R ≠ p3 := ne_of_none W3.atR np3
          have nOp : O ≠ p3 := ne_of_none W3.atO np3
          refine ⟨R, _, _, rfl, rfl, by rw [upd_ne nRp]; exact W3.atR, ?_, ?_⟩
          · rw [List.length_map, List.length_reverse]
            omega
          have hO : upd (upd (upd (upd H2 p (.tup [.str "l", .str "s"])) p2 (.tup [.str "[", .str "("])) p3 (.lst [])) R (.lst (as.reverse.map V.ref ++ [.ref p3])) O = some (.lst (op.reverse.map fun b => V.str (S [oc b]))) := by
            rw [upd_ne (Ne.symm W3.ne), upd_ne nOp]
            exact W3.atO
          refine ⟨_, rfl, .inl ⟨rfl, _, SqL.of hO⟩, _, rfl, O, _, _, rfl, rfl, hO, ?_, ?_⟩
          · rw [List.length_map, List.length_reverse]
            omega
          have eo : (V.str ⟨#[c]⟩ : V) = .str (S [oc (decide (c = 91))]) := by
            rcases hc4 with z | z <;> rw [z] <;> rfl
          rw [eo]
          exact ⟨⟨[], r :: rs, decide (c = 91) :: op, true⟩, _, _, _, rfl, W4, hrun⟩
        · replace hc3 : ¬ inV (.str ⟨#[c]⟩) [.str "[", .str "("] = true := hc3
          rw [e2] at hc3
          have hc4 : ¬ (c = 91 ∨ c = 40) := by simpa using hc3
          have dd : stp ⟨r, rs, op, true⟩ c = none := by
            rw [stp, if_neg (fun z => hb2 z.2), if_neg (fun z => hc4 z.2)]
            cases op <;> simp
          have W3 := W2.mk_new (o := .tup [.str "[", .str "("]) np2
          refine ⟨_, rfl, by decide, fun p3 np3 => ?_⟩
          have W4 := W3.mk_new (o := .lst []) np3
          have dO : Dp K (upd (upd (upd H2 p (.tup [.str "l", .str "s"])) p2 (.tup [.str "[", .str "("])) p3 (.lst [])) (.ref O) (.list (op.reverse.map fun b => PyData.str (S [oc b]))) := .lst (SqL.of W4.atO) (dp_strs op.reverse oc)
          refine ⟨_, _, dO, .lst (SqL.of upd_same) .nil, sh_strs _, rfl, _, rfl, ?_⟩
          have fin := dead dd _ W4.same
          cases eb : PyData.eqv (.list (op.reverse.map fun b => PyData.str (S [oc b]))) (.list []) with
          | true => exact iteT (iteT fin)
          | false => exact iteF ⟨_, rfl, true, rfl, iteT fin⟩
    | false =>
      refine ⟨_, rfl, false, rfl, iteF (iteF ⟨_, rfl, false, rfl, iteF (iteF ⟨_, rfl, by decide, fun p np => ?_⟩)⟩)⟩
      cases op with
      | nil =>
        have W2 := W.mk_new (o := .lst []) np
        refine ⟨_, _, .lst (SqL.of W2.atO) .nil, .lst (SqL.of upd_same) .nil, rfl, rfl, _, rfl, iteT (iteT ?_)⟩
        exact dead (by simp [stp]) _ W2.same
      | cons b op' =>
        have W2 := W.mk_new (o := .lst []) np
        have dO : Dp K (upd H2 p (.lst [])) (.ref O) (.list ((b :: op').reverse.map fun b => PyData.str (S [oc b]))) := .lst (SqL.of W2.atO) (dp_strs (b :: op').reverse oc)
        refine ⟨_, _, dO, .lst (SqL.of upd_same) .nil, sh_strs _, rfl, _, rfl, ?_⟩
        rw [eqv_ne (by simp)]
        refine iteF ⟨_, rfl, false, rfl, iteF ⟨_, rfl, rfl, _, rfl, ite2 (fun hb => ?_) (fun hb => ?_)⟩⟩
        · have h32 : c = 32 := one_eq (of_decide_eq_true hb)
          have hrun := live ⟨r, rs, b :: op', true⟩ (by rw [h32]; exact stp_space b r rs op')
          exact ⟨⟨r, rs, b :: op', true⟩, _, _, _, rfl, W2.w, hrun⟩
        · have h32 : c ≠ 32 := fun e => hb (decide_eq_true (by rw [e, s_sp]))
          have n1 : ∀ {P : Prop}, ¬ (c = 108 ∨ c = 115) ∨ True := fun {P} => .inr trivial
          obtain ⟨a, bs, vs, rfl, hv, hp, hrest⟩ := W2.top
          have hO : upd H2 p (.lst []) O = some (.lst ((op'.reverse.map fun b => V.str (S [oc b])) ++ [.str (S [oc b])])) := by
            rw [W2.atO]
            simp
          have hR : upd H2 p (.lst []) R = some (.lst (bs.reverse.map V.ref ++ [.ref a])) := by
            rw [W2.atR]
            simp
          obtain ⟨u0, eg, rg⟩ := clo_get g1 g2 b
          have lr : vs.length = r.length := hp.length
          refine ⟨_, rfl, _, rfl, _, rfl, O, _, -1, _, rfl, rfl, SqL.of hO, atI_last _ _, _, _, _, rfl, rfl, eg, rg, rfl, _, rfl, ?_⟩
          by_cases hcc : c = cc b
          case neg =>
            rw [decide_eq_false (show ¬ V.str ⟨#[c]⟩ = V.str (S [cc b]) from fun z => hcc (by
              injection z with z
              exact List.singleton_inj.mp (S_inj (a := [c]) (b := [cc b]) z)))]
            refine iteF (iteF ?_)
            exact dead (by simp [stp, h32, hcc]) _ W2.same
          rw [hcc, decide_eq_true (show V.str ⟨#[cc b]⟩ = V.str (S [cc b]) from rfl)]
          refine iteT ⟨_, rfl, _, rfl, R, _, -1, _, rfl, rfl, SqL.of hR, atI_last _ _, a, _, rfl, .inl (SqL.of hv), _, _, rfl, rfl, _, rfl, ?_⟩
          by_cases hr1 : 1 < r.length
          case neg =>
            rw [decide_eq_false (show ¬ ((vs.length : Nat) : Int) > 1 by omega)]
            refine iteF ?_
            exact dead (by simp [stp, h32, hr1]) _ W2.same
          rw [decide_eq_true (show ((vs.length : Nat) : Int) > 1 by omega)]
          cases rs with
          | nil => cases szo
          | cons r' rs' =>
            have hrun := live ⟨r' ++ [.node b r], rs', op', false⟩ (by rw [hcc]; exact stp_close b r r' rs' op' hr1)
            have W3 := W2.cls (w2 := true)
            have lO : (((op'.reverse.map fun b => V.str (S [oc b])) ++ [V.str (S [oc b])]))[((op'.reverse.map fun b => V.str (S [oc b])) ++ [V.str (S [oc b])]).length - 1]? = some (V.str (S [oc b])) := by simp
            have lR : ((bs.reverse.map V.ref ++ [V.ref a]))[(bs.reverse.map V.ref ++ [V.ref a]).length - 1]? = some (V.ref a) := by simp
            refine iteT ⟨_, rfl, .inl ⟨rfl, _, SqL.of hO⟩, O, _, _, rfl, rfl, hO, lO, ?_⟩
            have hR2 : upd (upd H2 p (.lst [])) O (.lst ((op'.reverse.map fun b => V.str (S [oc b])) ++ [V.str (S [oc b])]).dropLast) R = some (.lst (bs.reverse.map V.ref ++ [.ref a])) := by
              rw [upd_ne W2.ne]
              exact hR
            have eOl : (op'.reverse.map fun b => V.str (S [oc b])) ++ [V.str (S [oc b])] = (b :: op').reverse.map fun b => V.str (S [oc b]) := by simp
            have eRl : bs.reverse.map V.ref ++ [V.ref a] = (a :: bs).reverse.map V.ref := by simp
            refine ⟨_, rfl, .inl ⟨rfl, _, SqL.of hR2⟩, R, _, _, rfl, rfl, hR2, lR, ?_⟩
            rw [eOl, eRl]
            have aO : a ≠ O := fun z => W2.oN (by rw [← z]; exact List.mem_cons_self ..)
            have aR : a ≠ R := fun z => W2.rN (by rw [← z]; exact List.mem_cons_self ..)
            have k2 : KT (upd H2 p (.lst [])) (upd (upd H2 p (.lst [])) O (.lst ((b :: op').reverse.map fun b => V.str (S [oc b])).dropLast)) := KT.put W2.atO
            have k3 : KT (upd (upd H2 p (.lst [])) O (.lst ((b :: op').reverse.map fun b => V.str (S [oc b])).dropLast)) (upd (upd (upd H2 p (.lst [])) O (.lst ((b :: op').reverse.map fun b => V.str (S [oc b])).dropLast)) R (.lst ((a :: bs).reverse.map V.ref).dropLast)) :=
              KT.put (by rw [upd_ne W2.ne]; exact hR)
            have hp3 := PnA.mono (k2.trans k3) _ _ hp
            have hv3 : upd (upd (upd H2 p (.lst [])) O (.lst ((b :: op').reverse.map fun b => V.str (S [oc b])).dropLast)) R (.lst ((a :: bs).reverse.map V.ref).dropLast) a = some (.lst vs) := by
              rw [upd_ne aR, upd_ne aO]
              exact hv
            generalize upd (upd (upd H2 p (.lst [])) O (.lst ((b :: op').reverse.map fun b => V.str (S [oc b])).dropLast)) R (.lst ((a :: bs).reverse.map V.ref).dropLast) = H4 at W3 hp3 hv3 ⊢
            refine ⟨a, _, rfl, .inl ⟨SqL.of hv3, fun l nl => ⟨(by show 2 ≤ sizeLine; decide), fun q nq => ?_⟩⟩⟩
            have W4 := (W3.mk_new (o := .tup vs) nl).mk_new (o := .tup [.str (S [oc b]), .ref l]) nq
            have nlq : l ≠ q := fun z => by rw [← z, upd_same] at nq; cases nq
            have hp4 := PnA.mono ((KT.new (o := .tup vs) nl).trans (KT.new (o := .tup [.str (S [oc b]), .ref l]) nq)) _ _ hp3
            have pn : Pn (upd (upd H4 l (.tup vs)) q (.tup [.str (S [oc b]), .ref l])) (.node b r) (.ref q) := by
              rw [Pn]
              exact ⟨q, l, vs, rfl, upd_same, by rw [upd_ne nlq]; exact upd_same, hp4⟩
            obtain ⟨a', bs', vs', rfl, hv', hp', _⟩ := W4.top
            have hR5 : upd (upd H4 l (.tup vs)) q (.tup [.str (S [oc b]), .ref l]) R = some (.lst (bs'.reverse.map V.ref ++ [.ref a'])) := by
              rw [W4.atR]
              simp
            have szr' : r'.length ≤ i := W.sz r' (List.mem_cons_of_mem _ (List.mem_cons_self ..))
            refine ⟨_, rfl, _, rfl, R, _, -1, _, rfl, rfl, SqL.of hR5, atI_last _ _, .inl ⟨rfl, _, SqL.of hv'⟩, _, rfl, a', _, _, rfl, rfl, hv', ?_, ?_⟩
            · have q : vs'.length = r'.length := hp'.length
              omega
            · exact ⟨⟨r' ++ [.node b r], rs', op', false⟩, _, _, _, rfl, W4.push hv' hp' pn, hrun⟩
  · rintro σ H1 ⟨m, as, c4, c5, rfl, W, hrun⟩
    have hz : (S z).cps.size = z.length := by simp
    rw [hz, List.drop_length, Tq.run] at hrun
    refine ⟨_, rfl, by decide, fun p np => ?_⟩
    have W2 := W.mk_new (o := .lst []) np
    have dO : Dp K (upd H1 p (.lst [])) (.ref O) (.list (m.op.reverse.map fun b => PyData.str (S [oc b]))) := .lst (SqL.of W2.atO) (dp_strs m.op.reverse oc)
    refine ⟨_, _, dO, .lst (SqL.of upd_same) .nil, sh_strs _, rfl, _, rfl, ?_⟩
    by_cases ho : m.op = []
    case neg =>
      rw [eqv_ne (by simpa using ho)]
      refine iteF (iteF ?_)
      refine kn (fun t g => ?_) _ W2.same
      rw [goodR, ← hrun] at g
      cases g
      exact ho rfl
    have eb : PyData.eqv (.list (m.op.reverse.map fun b => PyData.str (S [oc b]))) (.list []) = true := by
      rw [ho]
      rfl
    rw [eb]
    refine iteT ⟨_, rfl, _, rfl, ?_⟩
    cases hw : m.w with
    | true =>
      refine iteF ?_
      refine kn (fun t g => ?_) _ W2.same
      rw [goodR, ← hrun] at g
      cases g
      cases hw
    | false =>
      obtain ⟨t, em, wt, lt⟩ := run_tree hrun.symm ho hw
      subst em
      obtain ⟨a, bs, vs, rfl, hv, hp, hb⟩ := W2.top
      rw [show bs = [] from hb] at W2
      rw [PnA] at hp
      obtain ⟨v, us, rfl, hp1, hp2⟩ := hp
      rw [PnA] at hp2
      subst hp2
      have hR2 : upd H1 p (.lst []) R = some (.lst [.ref a]) := W2.atR
      refine iteT ⟨_, rfl, R, _, 0, .ref a, rfl, rfl, SqL.of hR2, atI_nat (j := 0) rfl, a, _, 0, v, rfl, rfl, SqL.of hv, atI_nat (j := 0) rfl, ?_⟩
      exact k t _ _ hrun.symm W2.same hp1
end
end Zq

/-! The plain text. -/
namespace Zq
open PySem PySem.Spec PyProof.Rows L2 SX Tq
/-! ### a comprehension over a comprehension -/
theorem lc2_walk {J : It} {n : Nat} {G : Hp → Prop} {Y : Nat → Hp → V → Hp → Prop} (w : Walk J n G Y) {g : TG} {tt : TT} {wi1 : TI} {g1 : TG} {tt1 : TT} {te : TE} {vs vs1 : List Nat} {σ : L2.St} {H1 : Hp} {D : Addr} {Qd : Hp → Prop} (Pv : Nat → Hp → Prop) (h0 : Pv 0 (upd H1 D (.lst []))) (hG : ∀ i H, i ≤ n → Pv i H → G H)
    (hs : ∀ i x H H', i < n → Pv i H → Y i H x H' → g x (wipe σ vs) H' fun σ2 H2 => wipe σ2 vs = wipe σ vs ∧ tt σ2 H2 fun b H3 =>
      if b = true then wi1 σ2 H3 fun J1 H4 => ∃ W1 : Nat → Nat → Hp → Prop, (∃ m, W1 0 m H4) ∧ ∀ j k H, W1 j k H →
        (J1.stop j H ∧ Pv (i + 1) H) ∨ (J1.go j H ∧ ∃ Nx1 : Hp → Prop, (∀ H', Nx1 H' → ∃ k', k' < k ∧ W1 (j + 1) k' H') ∧ ∀ x H', J1.yld j H x H' → g1 x (wipe σ2 vs1) H' fun σ3 H5 => wipe σ3 vs1 = wipe σ2 vs1 ∧ tt1 σ3 H5 fun b H6 =>
          if b = true then te σ3 H6 fun y H7 => ∃ acc, H7 D = some (.lst acc) ∧ acc.length < sizeLine ∧ Nx1 (upd H7 D (.lst (acc ++ [y]))) else Nx1 H6)
      else Pv (i + 1) H3) (hd : ∀ H, Pv n H → Qd H) :
    ∃ W : Nat → Nat → Hp → Prop, (∃ m, W 0 m (upd H1 D (.lst []))) ∧ ∀ i m H, W i m H →
      (J.stop i H ∧ Qd H) ∨ (J.go i H ∧ ∃ Nx : Hp → Prop, (∀ H', Nx H' → ∃ m', m' < m ∧ W (i + 1) m' H') ∧ ∀ x H', J.yld i H x H' → g x (wipe σ vs) H' fun σ2 H2 => wipe σ2 vs = wipe σ vs ∧ tt σ2 H2 fun b H3 =>
        if b = true then wi1 σ2 H3 fun J1 H4 => ∃ W1 : Nat → Nat → Hp → Prop, (∃ m, W1 0 m H4) ∧ ∀ j k H, W1 j k H →
          (J1.stop j H ∧ Nx H) ∨ (J1.go j H ∧ ∃ Nx1 : Hp → Prop, (∀ H', Nx1 H' → ∃ k', k' < k ∧ W1 (j + 1) k' H') ∧ ∀ x H', J1.yld j H x H' → g1 x (wipe σ2 vs1) H' fun σ3 H5 => wipe σ3 vs1 = wipe σ2 vs1 ∧ tt1 σ3 H5 fun b H6 =>
            if b = true then te σ3 H6 fun y H7 => ∃ acc, H7 D = some (.lst acc) ∧ acc.length < sizeLine ∧ Nx1 (upd H7 D (.lst (acc ++ [y]))) else Nx1 H6)
        else Nx H3) := by
  refine ⟨fun i m H => m = n - i ∧ i ≤ n ∧ Pv i H, ⟨n, by simp, Nat.zero_le _, h0⟩, ?_⟩
  rintro i m H ⟨rfl, hi, p⟩
  have q := hG i H hi p
  by_cases hlt : i < n
  · exact .inr ⟨w.goes i H hlt q, Pv (i + 1), fun H' p' => ⟨n - (i + 1), by omega, rfl, hlt, p'⟩, fun x H' y => hs i x H H' hlt p (w.yields i H x H' hlt q y)⟩
  · have e : i = n := by omega
    subst e
    exact .inl ⟨w.stops H q, hd H p⟩
theorem in_walk {J : It} {n : Nat} {G : Hp → Prop} {Y : Nat → Hp → V → Hp → Prop} (w : Walk J n G Y) {g1 : TG} {tt1 : TT} {te : TE} {vs1 : List Nat} {σ2 : L2.St} {H4 : Hp} {D : Addr} {Nx : Hp → Prop} (Pv : Nat → Hp → Prop) (h0 : Pv 0 H4) (hG : ∀ i H, i ≤ n → Pv i H → G H)
    (hs : ∀ i x H H', i < n → Pv i H → Y i H x H' → g1 x (wipe σ2 vs1) H' fun σ3 H5 => wipe σ3 vs1 = wipe σ2 vs1 ∧ tt1 σ3 H5 fun b H6 =>
      if b = true then te σ3 H6 fun y H7 => ∃ acc, H7 D = some (.lst acc) ∧ acc.length < sizeLine ∧ Pv (i + 1) (upd H7 D (.lst (acc ++ [y]))) else Pv (i + 1) H6) (hd : ∀ H, Pv n H → Nx H) :
    ∃ W1 : Nat → Nat → Hp → Prop, (∃ m, W1 0 m H4) ∧ ∀ j k H, W1 j k H →
      (J.stop j H ∧ Nx H) ∨ (J.go j H ∧ ∃ Nx1 : Hp → Prop, (∀ H', Nx1 H' → ∃ k', k' < k ∧ W1 (j + 1) k' H') ∧ ∀ x H', J.yld j H x H' → g1 x (wipe σ2 vs1) H' fun σ3 H5 => wipe σ3 vs1 = wipe σ2 vs1 ∧ tt1 σ3 H5 fun b H6 =>
        if b = true then te σ3 H6 fun y H7 => ∃ acc, H7 D = some (.lst acc) ∧ acc.length < sizeLine ∧ Nx1 (upd H7 D (.lst (acc ++ [y]))) else Nx1 H6) := by
  refine ⟨fun i m H => m = n - i ∧ i ≤ n ∧ Pv i H, ⟨n, by simp, Nat.zero_le _, h0⟩, ?_⟩
  rintro i m H ⟨rfl, hi, p⟩
  have q := hG i H hi p
  by_cases hlt : i < n
  · exact .inr ⟨w.goes i H hlt q, Pv (i + 1), fun H' p' => ⟨n - (i + 1), by omega, rfl, hlt, p'⟩, fun x H' y => hs i x H H' hlt p (w.yields i H x H' hlt q y)⟩
  · have e : i = n := by omega
    subst e
    exact .inl ⟨w.stops H q, hd H p⟩
end Zq

namespace Zq
open PySem PySem.Spec PyProof.Rows L2 SX Tq
theorem each_str {K : PySem.W.Frag} {H : Hp} : ∀ l : List (List Nat), PySem.W.EachIs (fun x b => Dp K H x (.str (S b))) ((l.map S).map V.str) l
  | [] => .nil
  | x :: r => .cons (.str _) (each_str r)
theorem each_str_inv {K : PySem.W.Frag} {H : Hp} : ∀ {ys : List V} {l : List (List Nat)}, PySem.W.EachIs (fun x b => Dp K H x (.str (S b))) ys l → ys = (l.map S).map V.str
  | _, _, .nil => rfl
  | _, _, .cons h r => by
    rw [each_str_inv r]
    cases h
    rfl
abbrev spPT (n : Nat) : Sp := Prx (α := Tr × V) (fun a => [a.2]) (fun a H Q => Pn H a.1 a.2 ∧ wf a.1 ∧ lv a.1 ≤ n ∧ ∀ H', Same H H' → Q (.str (S (pt a.1))) H')
abbrev spLT (n : Nat) : Sp := Prx (α := Bool × Tr × V) (fun a => [.str (S [oc a.1]), a.2.2]) (fun a H Q => Pn H a.2.1 a.2.2 ∧ wf a.2.1 ∧ lv a.2.1 ≤ n ∧ ∀ l H', Same H H' → H l = none → H' l = some (.lst (((ls a.2.1 a.1).map S).map V.str)) → Q (.ref l) H')
abbrev spLE (n : Nat) : Sp := Prx (α := Bool × List Tr × V) (fun a => [.str (S [oc a.1]), a.2.2]) (fun a H Q => Pn H (.node a.1 a.2.1) a.2.2 ∧ wf (.node a.1 a.2.1) ∧ lv (.node a.1 a.2.1) ≤ n ∧ ∀ l H', Same H H' → H l = none → H' l = some (.lst (((lss a.2.1 a.1).map S).map V.str)) → Q (.ref l) H')
section
variable {P : Program} {w : World} {K : PySem.W.Frag} {mg : Str → Option Value} {base : Heap}
theorem s14 : FnScope ["node"] ["node"] (defScope (top 91)) := (⟨rfl, rfl, rfl, by decide +kernel, rfl, by decide +kernel, by decide +kernel⟩)
theorem c_PT {n : Nat} (hn : n ≤ 12) (D : Df K mg "plain_text" (top 91)) (B : Bl w K mg) (CB : Cal P w K mg base 1 "bracketed" ["kind", "texts"] spBr) {j : Nat} (hj : 1 ≤ j) (CE : Cal P w K mg base j "loose_texts" ["kind", "node"] (spLE n)) : Cal P w K mg base (j + 1) "plain_text" ["node"] (spPT n) := by
  refine mkC D s14 (fun _ _ _ _ _ _ us hl => match us, hl with | [_], _ => rfl) (fun _ => rfl) (fun f cdv A outer s H a Q E hr k => ?_)
  obtain ⟨t, v⟩ := a
  obtain ⟨pn, wt, ln, k⟩ := k
  have pn : Pn H t v := pn
  have wt : wf t := wt
  have ln : lv t ≤ n := ln
  have hu2 : (A.deeper (envOfC "plain_text" (defScope (top 91)) s.heap.objs.size f cdv)).units + 64 < cLine := by have := hr.un; omega
  have hu3 : (A.deeper (envOfC "plain_text" (defScope (top 91)) s.heap.objs.size f cdv)).units + 12 < cLine := by have := hr.un; omega
  refine ⟨_, pss_cons (ps_if (pt_cmpR (op_eqD hu2) ((pe_ix ix_tup (pv 0) pe_int (fun _ _ => rfl))) (pe_tup pa_nil) (nomark _)) (pss_one (ps_ret ((pe_ix ix_tup (pv 0) pe_int (fun _ _ => rfl))))) pss_nil)
    (pss_one (ps_ret (pe_cl CB hr hj (pa_cons ((pe_ix ix_tup (pv 0) pe_int (fun _ _ => rfl))) (pa_cons (pe_callB (cr_srt (β := List Nat) (enc := fun b => .str (S b)) hu3 (fun b c => by simp [PySem.W.alike]) (fun bs => PySem.W.Sortable.others (enc := fun b : List Nat => PyData.str (S b)) fun b => ⟨by simp, by simp⟩) (fun b => by simp [PyData.depth])) (by rfl) B.sorted_ (by decide +kernel)
        (pa_cons (pe_cl CE hr (Nat.le_refl _) (pa_cons ((pe_ix ix_tup (pv 0) pe_int (fun _ _ => rfl))) (pa_cons (pv 0) pa_nil))) pa_nil)) pa_nil))))), ?_⟩
  cases t with
  | leaf b =>
    rw [Pn] at pn
    obtain ⟨p, e, rfl, h1, h2⟩ := pn
    refine ⟨_, rfl, p, _, 1, _, rfl, rfl, SqT.of h1, atI_nat (j := 1) rfl, by decide, fun q nq => ?_⟩
    have k1 := KT.new (o := .tup []) nq
    refine ⟨_, _, .tup (SqT.of (k1 _ _ h2)) .nil, .tup (SqT.of upd_same) .nil, rfl, rfl, _, rfl, ?_⟩
    refine iteT ⟨_, rfl, p, _, 0, _, rfl, rfl, SqT.of (k1 _ _ h1), atI_nat (j := 0) rfl, ?_⟩
    have := k _ (same_new (o := .tup []) nq)
    rw [pt] at this
    exact this
  | node b ps =>
    have pn0 := pn
    rw [Pn] at pn
    obtain ⟨p, e, vs, rfl, h1, h2, h3⟩ := pn
    refine ⟨_, rfl, p, _, 1, _, rfl, rfl, SqT.of h1, atI_nat (j := 1) rfl, by decide, fun q nq => ?_⟩
    have k1 := KT.new (o := .tup []) nq
    have s1 := same_new (o := .tup []) nq
    refine ⟨_, _, .tup (SqT.of (k1 _ _ h2)) (PnA.data ps vs (PnA.mono k1 _ _ h3)), .tup (SqT.of upd_same) .nil, dts_shaped wt (by omega), rfl, _, rfl, ?_⟩
    have ne : PyData.eqv (.tuple (dts ps)) (.tuple []) = false := by
      cases ps with
      | nil =>
        rw [wf] at wt
        exact absurd wt.1 (by simp)
      | cons x r => simp [dts, PyData.eqv, PyData.eqvAll]
    rw [ne]
    refine iteF ⟨_, rfl, p, _, 0, _, rfl, rfl, SqT.of (k1 _ _ h1), atI_nat (j := 0) rfl, _, rfl, p, _, 0, _, rfl, rfl, SqT.of (k1 _ _ h1), atI_nat (j := 0) rfl, _, rfl, (b, ps, .ref p), rfl, Pn.mono k1 _ _ pn0, wt, ln, fun l H' s2 nl hl => ?_⟩
    refine ⟨l, _, lss ps b, rfl, SqL.of hl, each_str _, fun ys p2 he np2 => ?_⟩
    rw [dle_str] at he
    have ey := each_str_inv he
    subst ey
    refine ⟨(b, p2, srt (lss ps b)), rfl, upd_same, ?_, ?_⟩
    · show ((srt (lss ps b)).map (fun x => x.length + 1)).sum ≤ 1000
      rw [sum_perm (srt_perm _)]
      have := ls_sum (.node b ps) wt b
      rw [ls_same] at this
      omega
    · have := k _ (Same.trans (s1.trans s2) (same_new (o := .lst (((srt (lss ps b)).map S).map V.str)) np2))
      rw [pt] at this
      exact this
abbrev nLo : List Str := ["kind", "node", "part", "text"]
theorem s15 : FnScope nLo ["kind", "node"] (defScope (top 92)) := (⟨rfl, rfl, rfl, by decide +kernel, rfl, by decide +kernel, by decide +kernel⟩)
/-- the comprehension of loose_texts -/
abbrev teLo (K : PySem.W.Frag) (n : Nat) : TE := tLc2 (iTup K (tOp (rIxT K) (tVar 1) (tC (.int 1)))) (gName 2) tYes (iList K (tCall (spLT n) [] L2.E0 (tCons (tVar 0) (tCons (tVar 2) tNil)))) (gName 3) tYes (tVar 3) [2, 3] [3]
theorem rd_lo {n : Nat} (hn : n ≤ 12) {b : Bool} {ps : List Tr} {v : V} {c2 c3 : Option V} {H0 H : Hp} {Q : VK} (s0 : Same H0 H) (pn : Pn H (.node b ps) v) (wt : wf (.node b ps)) (ln : lv (.node b ps) ≤ n + 1)
    (k : ∀ l H', Same H0 H' → H0 l = none → H' l = some (.lst (((lss ps b).map S).map V.str)) → Q (.ref l) H') : teLo K n [some (.str (S [oc b])), some v, c2, c3] H Q := by
  rw [Pn] at pn
  obtain ⟨p, e, vs, rfl, h1, h2, h3⟩ := pn
  rw [wf] at wt
  rw [lv] at ln
  have lp := h3.length
  have big : 1000 < sizeLine := by decide
  refine ⟨_, rfl, p, _, 1, _, rfl, rfl, SqT.of h1, atI_nat (j := 1) rfl, e, rfl, ⟨_, SqT.of h2⟩, fun D hD => lc2_walk (walk_tup (xs := vs)) (fun i H' => Same H0 H' ∧ Same H (upd H' D (.lst [])) ∧ H' D = some (.lst (((lss (ps.take i) b).map S).map V.str))) ?_ ?_ ?_ ?_⟩
  · have hD0 : H0 D = none := by
      cases z : H0 D with
      | none => rfl
      | some u =>
        have := s0 D u z
        rw [hD] at this
        cases this
    refine ⟨s0.trans (same_new hD), ?_, ?_⟩
    · rw [upd_upd]
      exact same_new hD
    · refine upd_same.trans ?_
      rw [List.take_zero, lss]
      rfl
  · rintro i H' _ ⟨_, s2, _⟩
    have q := s2 _ _ h2
    rw [upd_ne (ne_of_none h2 hD)] at q
    exact SqT.of q
  · rintro i x H' H'' hi ⟨s1, s2, hDD⟩ ⟨rfl, hx⟩
    obtain ⟨t, ht, pt1⟩ := h3.at hx
    have tm : t ∈ ps := List.mem_of_getElem? ht
    have wft := (wfs_iff _).mp wt.2 t tm
    have lt := lv_part wt.2 wt.1 tm
    have kt : KT H H'' := fun a xs z => by
      have q := s2 _ _ z
      rw [upd_ne (ne_of_none z hD)] at q
      exact q
    have hD0 : H0 D = none := by
      cases z : H0 D with
      | none => rfl
      | some u =>
        have := s0 D u z
        rw [hD] at this
        cases this
    refine ⟨rfl, _, rfl, _, rfl, (b, t, x), rfl, Pn.mono kt _ _ pt1, wft, by show lv t ≤ n; omega, fun l H3 s3 nl hl => ⟨l, rfl, ⟨_, SqL.of hl⟩, ?_⟩⟩
    have hD3 := s3 _ _ hDD
    have lD : l ≠ D := fun z => by
      rw [z, hDD] at nl
      cases nl
    have le1 := lss_len b (ps.take i) ((wfs_iff _).mpr fun u hu => (wfs_iff _).mp wt.2 u (List.mem_of_mem_take hu))
    have le2 := ls_len t wft b
    have le3 : lvs (ps.take i) ≤ lvs ps := by
      have q := lvs_app (ps.take i) (ps.drop i)
      rw [List.take_append_drop] at q
      omega
    refine in_walk (walk_list (xs := ((ls t b).map S).map V.str)) (fun j H' => Same H0 H' ∧ Same H (upd H' D (.lst [])) ∧ H' l = some (.lst (((ls t b).map S).map V.str)) ∧ H' D = some (.lst (((lss (ps.take i) b).map S).map V.str ++ (((ls t b).map S).map V.str).take j))) ?_ ?_ ?_ ?_
    · refine ⟨s1.trans s3, fun a o z => ?_, hl, ?_⟩
      · have q := s2 _ _ z
        rw [upd_ne (ne_of_none z hD)] at q ⊢
        exact s3 _ _ q
      · rw [List.take_zero, List.append_nil]
        exact hD3
    · rintro j H' _ ⟨_, _, hl2, _⟩
      exact SqL.of hl2
    · rintro j y H4 H5 hj ⟨s4, s5, hl4, hD4⟩ ⟨rfl, hy⟩
      refine ⟨rfl, _, rfl, _, hD4, ?_, same_put s4 hD0, ?_, ?_, ?_⟩
      · rw [List.length_append, List.length_take, List.length_map, List.length_map, List.length_map, List.length_map]
        omega
      · rw [upd_upd]
        exact s5
      · rw [upd_ne lD]
        exact hl4
      · refine upd_same.trans ?_
        rw [List.append_assoc, List.take_succ, hy]
        rfl
    · rintro H4 ⟨s4, s5, _, hD4⟩
      refine ⟨s4, s5, ?_⟩
      rw [hD4, List.take_length, lss_take b ht, List.map_append, List.map_append]
  · rintro H' ⟨s1, s2, hDD⟩
    have hD0 : H0 D = none := by
      cases z : H0 D with
      | none => rfl
      | some u =>
        have := s0 D u z
        rw [hD] at this
        cases this
    rw [lp, List.take_length] at hDD
    exact k D H' s1 hD0 hDD
theorem ne_kind {b k : Bool} : decide (V.str (S [oc b]) = V.str (S [oc k])) = decide (b = k) := by cases b <;> cases k <;> decide
theorem ne_leaf {b k : Bool} : decide (V.str (S [lc b]) = V.str (S [oc k])) = false := by cases b <;> cases k <;> decide
theorem c_LE {n : Nat} (hn : n ≤ 12) (D : Df K mg "loose_texts" (top 92)) (B : Bl w K mg) {j : Nat} (CL : Cal P w K mg base j "loose_texts" ["kind", "node"] (spLT n)) : Cal P w K mg base (j + 1) "loose_texts" ["kind", "node"] (spLE (n + 1)) := by
  refine mkC D s15 (fun _ _ _ _ _ _ us hl => match us, hl with | [_, _], _ => rfl) (fun _ => rfl) (fun f cdv A outer s H a Q E hr k => ?_)
  obtain ⟨b, ps, v⟩ := a
  obtain ⟨pn, wt, ln, k⟩ := k
  have pn : Pn H (.node b ps) v := pn
  have pn0 := pn
  refine ⟨_, pss_cons (ps_if ((pt_cmpR op_ne ((pe_ix ix_tup (pv 1) pe_int (fun _ _ => rfl))) (pv 0) (nomark _))) pss_nv pss_nil) (pss_one (ps_ret ((pe_lc2 (wi1 := iList K (tCall (spLT n) [] L2.E0 (tCons (tVar 0) (tCons (tVar 2) tNil)))) (te := tVar 3) (own := [("part", 2), ("text", 3)]) (vs1 := [3]) (g := gName 2) (g1 := gName 3) (tt := tYes) (tt1 := tYes) rfl s15.nd (pi_tup ((pe_ix ix_tup (pv 1) pe_int (fun _ _ => rfl)))) (blkOk_by (N := nLo) (sc := defScope (top 92)) (by decide +kernel)) (by decide) (fun _ _ _ _ _ => (pg_name (i := 2) (FnScope.nd s15) rfl (Or.inl rfl))) (fun _ _ _ _ _ => pts_nil)
    (fun _ _ _ _ _ => pi_list (pe_cl CL hr (Nat.le_refl _) (pa_cons (pv 0) (pa_cons (pv 2) pa_nil)))) (fun _ _ _ _ _ => (pg_name (i := 3) (FnScope.nd s15) rfl (Or.inl rfl))) (fun _ _ _ _ _ => pts_nil) (fun _ _ _ _ _ => pv 3))))), ?_⟩
  rw [Pn] at pn
  obtain ⟨p, e, vs, rfl, h1, h2, h3⟩ := pn
  refine ⟨_, rfl, p, _, 0, _, rfl, rfl, SqT.of h1, atI_nat (j := 0) rfl, _, rfl, rfl, _, rfl, ?_⟩
  rw [decide_eq_true rfl]
  refine iteF ?_
  exact rd_lo hn (Same.refl _) pn0 wt ln k
theorem c_LT {n : Nat} (hn : n ≤ 12) (D : Df K mg "loose_texts" (top 92)) (B : Bl w K mg) {j i : Nat} (CL : Cal P w K mg base j "loose_texts" ["kind", "node"] (spLT n)) (hji : j ≤ i) (CP : Cal P w K mg base i "plain_text" ["node"] (spPT (n + 1))) : Cal P w K mg base (i + 1) "loose_texts" ["kind", "node"] (spLT (n + 1)) := by
  refine mkC D s15 (fun _ _ _ _ _ _ us hl => match us, hl with | [_, _], _ => rfl) (fun _ => rfl) (fun f cdv A outer s H a Q E hr k => ?_)
  obtain ⟨b, t, v⟩ := a
  obtain ⟨pn, wt, ln, k⟩ := k
  have pn : Pn H t v := pn
  have pn0 := pn
  refine ⟨_, pss_cons (ps_if ((pt_cmpR op_ne ((pe_ix ix_tup (pv 1) pe_int (fun _ _ => rfl))) (pv 0) (nomark _))) (pss_one (ps_ret (pe_lst (pa_cons (pe_cl CP hr (Nat.le_refl _) (pa_cons (pv 1) pa_nil)) pa_nil)))) pss_nil) (pss_one (ps_ret ((pe_lc2 (wi1 := iList K (tCall (spLT n) [] L2.E0 (tCons (tVar 0) (tCons (tVar 2) tNil)))) (te := tVar 3) (own := [("part", 2), ("text", 3)]) (vs1 := [3]) (g := gName 2) (g1 := gName 3) (tt := tYes) (tt1 := tYes) rfl s15.nd (pi_tup ((pe_ix ix_tup (pv 1) pe_int (fun _ _ => rfl)))) (blkOk_by (N := nLo) (sc := defScope (top 92)) (by decide +kernel)) (by decide) (fun _ _ _ _ _ => (pg_name (i := 2) (FnScope.nd s15) rfl (Or.inl rfl))) (fun _ _ _ _ _ => pts_nil)
    (fun _ _ _ _ _ => pi_list (pe_cl CL hr hji (pa_cons (pv 0) (pa_cons (pv 2) pa_nil)))) (fun _ _ _ _ _ => (pg_name (i := 3) (FnScope.nd s15) rfl (Or.inl rfl))) (fun _ _ _ _ _ => pts_nil) (fun _ _ _ _ _ => pv 3))))), ?_⟩
  have other : ∀ (c2 c3 : Option V), kd t ≠ some b → tRet (tLst (tCons (tCall (spPT (n + 1)) [] L2.E0 (tCons (tVar 1) tNil)) tNil)) { nx := fun _ H' => Q .non H', rt := Q } [some (.str (S [oc b])), some v, c2, c3] H := by
    intro c2 c3 hk
    refine ⟨_, rfl, (t, v), rfl, pn0, wt, ln, fun H' s1 => ⟨(by show 1 ≤ sizeLine; decide), fun l nl => ?_⟩⟩
    refine k l _ (s1.trans (same_new nl)) ?_ ?_
    · cases z : H l with
      | none => rfl
      | some u =>
        have := s1 l u z
        rw [nl] at this
        cases this
    · refine upd_same.trans ?_
      show _ = some (HO.lst (((ls t b).map S).map V.str))
      rw [ls_other hk]
      rfl
  cases t with
  | leaf c =>
    rw [Pn] at pn
    obtain ⟨p, e, rfl, h1, h2⟩ := pn
    refine ⟨_, rfl, p, _, 0, _, rfl, rfl, SqT.of h1, atI_nat (j := 0) rfl, _, rfl, by cases b <;> cases c <;> rfl, _, rfl, ?_⟩
    rw [ne_leaf]
    exact iteT (other none none nofun)
  | node c ps =>
    rw [Pn] at pn
    obtain ⟨p, e, vs, rfl, h1, h2, h3⟩ := pn
    refine ⟨_, rfl, p, _, 0, _, rfl, rfl, SqT.of h1, atI_nat (j := 0) rfl, _, rfl, by cases b <;> cases c <;> rfl, _, rfl, ?_⟩
    rw [ne_kind]
    by_cases z : c = b
    · subst z
      rw [decide_eq_true rfl]
      refine iteF ?_
      have k2 : ∀ l H', Same H H' → H l = none → H' l = some (.lst (((lss ps c).map S).map V.str)) → Q (.ref l) H' := fun l H' a b h => k l H' a b (by
        show H' l = some (HO.lst (((ls (.node c ps) c).map S).map V.str))
        rw [ls_same]
        exact h)
      exact rd_lo hn (Same.refl _) pn0 wt ln k2
    · rw [decide_eq_false z]
      exact iteT (other none none (fun q => z (Option.some.inj q)))
end
end Zq

namespace Zq
open PySem PySem.Spec PyProof.Rows L2 SX Tq
section
variable {P : Program} {w : World} {K : PySem.W.Frag} {mg : Str → Option Value} {base : Heap}
theorem c_LT0 (D : Df K mg "loose_texts" (top 92)) : Cal P w K mg base 1 "loose_texts" ["kind", "node"] (spLT 0) := by
  refine mkC D s15 (fun _ _ _ _ _ _ us hl => match us, hl with | [_, _], _ => rfl) (fun _ => rfl) (fun f cdv A outer s H a Q E hr k => ?_)
  obtain ⟨b, t, v⟩ := a
  obtain ⟨pn, wt, ln, k⟩ := k
  have h1 := lv_pos t wt
  have h2 : lv t ≤ 0 := ln
  omega
theorem all_LT (D : Df K mg "loose_texts" (top 92)) (D2 : Df K mg "plain_text" (top 91)) (B : Bl w K mg) (CB : Cal P w K mg base 1 "bracketed" ["kind", "texts"] spBr) : ∀ n, n ≤ 12 → Cal P w K mg base (3 * n + 1) "loose_texts" ["kind", "node"] (spLT n)
  | 0, _ => c_LT0 D
  | n + 1, h => by
    have CL := all_LT D D2 B CB n (by omega)
    have CE := c_LE (by omega) D B CL
    have CP := c_PT h D2 B CB (j := 3 * n + 1 + 1) (by omega) CE
    exact c_LT (by omega) D B CL (by omega) CP
theorem c_plain36 (D : Df K mg "loose_texts" (top 92)) (D2 : Df K mg "plain_text" (top 91)) (B : Bl w K mg) (CB : Cal P w K mg base 1 "bracketed" ["kind", "texts"] spBr) : Cal P w K mg base 36 "plain_text" ["node"] (spPT 12) :=
  c_PT (Nat.le_refl _) D2 B CB (j := 35) (by omega) (c_LE (by omega) D B (all_LT D D2 B CB 11 (by omega)))
/-! ### what the law draws -/
abbrev nWe : List Str := ["_law_script", "_law_k", "_law_cell", "_law_mixed", "_law_each"]
theorem s20 : FnScope nWe ["_law_script", "_law_k"] (defScope (top 107)) := (⟨rfl, rfl, rfl, by decide +kernel, rfl, by decide +kernel, by decide +kernel⟩)
abbrev spWell (K : PySem.W.Frag) : Sp := Prx (α := Addr × List Int × Nat) (fun a => [.ref a.1, .int (a.2.2 : Int)]) (fun a H Q => SqL K H a.1 (a.2.1.map V.int) ∧ a.2.1.length ≤ 63 ∧ ∀ p H', Same H H' → H p = none → RkI H' p → Q (.ref p) H')
theorem c_well (D : Df K mg "_law_well" (top 107)) (B : Bl w K mg) : Cal P w K mg base 1 "_law_well" ["_law_script", "_law_k"] (spWell K) := by
  refine mkC D s20 (fun _ _ _ _ _ _ us hl => match us, hl with | [_, _], _ => rfl) (fun _ => rfl) (fun f cdv A outer s H a Q E hr k => ?_)
  obtain ⟨a, ns, j⟩ := a
  obtain ⟨hS, hlen, k⟩ := k
  have hS : SqL K H a (ns.map V.int) := hS
  have hlen : ns.length ≤ 63 := hlen
  refine ⟨_, pss_cons ((ps_set (i := 2) (FnScope.nd s20) rfl (Or.inl rfl) (pe_ifExp ((pt_cmpR op_lt (pv 1) ((pe_callB call_len_seq (by rfl) (Bl.len_ B) PySem.boot_len (pa_cons (pv 0) pa_nil))) (nomark _))) (pe_callTy call_int1 (by rfl) B.int_ PyProof.Rows.boot_int (pa_cons ((pe_ix ix_list (pv 0) (pv 1) (fun _ _ => rfl))) pa_nil)) (pe_op op_add (pe_op op_mul pe_int (pv 1)) pe_int))))
    (pss_cons ((ps_set (i := 3) (FnScope.nd s20) rfl (Or.inl rfl) (pe_op op_add pe_int (pe_op op_mul pe_int (pv 1)))))
    (pss_cons (ps_for PassesOwn.never rfl (pi_list (pe_op op_cat (pe_slice sl_list (pv 0) po_none (po_some pe_int)) (pe_lst (pa_cons (pv 2) pa_nil)))) ((pg_name (i := 4) (FnScope.nd s20) rfl (Or.inl rfl)))
      (pss_one ((ps_set (i := 3) (FnScope.nd s20) rfl (Or.inl rfl) (pe_op op_mod (pe_callTy call_int1 (by rfl) B.int_ PyProof.Rows.boot_int (pa_cons (pe_op op_add (pe_op op_mul (pv 3) pe_int) (pe_callTy call_int1 (by rfl) B.int_ PyProof.Rows.boot_int (pa_cons (pv 4) pa_nil))) pa_nil)) pe_int)))))
    (pss_one (ps_ret (pe_lst (pa_cons (pe_ifExp (PW.pt (pw_or ((pt_cmpR op_lt (pv 2) pe_int (nomark _))) (pw_or1 (pt_cmpR op_ge (pv 2) (pe_op op_pow pe_int pe_int) (nomark _))))) (pe_callB call_abs (by rfl) B.abs_ PyProof.Rows.boot_abs (pa_cons (pv 2) pa_nil)) pe_int) (pa_cons (pv 3) (pa_cons pe_int pa_nil)))))))), ?_⟩
  have e0 : L2.start nWe [V.ref a, V.int (j : Int)] = [some (.ref a), some (.int (j : Int)), none, none, none] := rfl
  rw [e0]
  have five : ∀ cell : Int, ∃ ms : List Int, cutV (ns.map V.int) none (some 5) ++ [V.int cell] = ms.map V.int ∧ ms.length ≤ 64 := by
    intro cell
    refine ⟨(ns.drop (HT.sIx (ns.map V.int).length 0 none)).take (HT.sIx (ns.map V.int).length (ns.map V.int).length (some 5) - HT.sIx (ns.map V.int).length 0 none) ++ [cell], ?_, ?_⟩
    · unfold cutV
      rw [List.map_append, List.map_take, List.map_drop]
      rfl
    · rw [List.length_append, List.length_take, List.length_drop, List.length_singleton]
      omega
  have big : 1000 < sizeLine := by decide
  have c5 : (cutV (ns.map V.int) none (some 5)).length ≤ 63 := by
    have := cutV_length (ns.map V.int) none (some 5)
    rw [List.length_map] at this
    omega
  refine ⟨_, rfl, _, rfl, a, _, rfl, .inl hS, _, _, rfl, rfl, _, rfl, ite2 (fun hb => ?a) (fun hb => ?b)⟩
  case' a =>
    have hj : j < ns.length := by
      have q := of_decide_eq_true hb
      rw [List.length_map] at q
      omega
    have hx : (ns.map V.int)[j]? = some (.int ns[j]) := by rw [List.getElem?_map, List.getElem?_eq_getElem hj]; rfl
    refine ⟨_, rfl, _, rfl, a, _, _, .int ns[j], rfl, rfl, hS, atI_nat hx, .inl ⟨_, rfl, ?_⟩⟩
    generalize ns[j] = cell
  case' b =>
    refine ⟨_, rfl, _, _, rfl, rfl, .inl ⟨by decide, by decide⟩, _, _, rfl, rfl, ?_⟩
    dsimp only
    generalize 7127 * (j : Int) + 53 = cell
  all_goals
    refine ⟨_, rfl, _, _, rfl, rfl, .inl ⟨by decide, by decide⟩, _, _, rfl, rfl, ?_⟩
    obtain ⟨ms, ems, lms⟩ := five cell
    refine ⟨_, rfl, _, rfl, a, _, rfl, hS, fun l nl => ⟨_, rfl, (by show 1 ≤ sizeLine; decide), fun l2 nl2 => ?_⟩⟩
    have nl12 : l ≠ l2 := fun z => by rw [← z, upd_same] at nl2; cases nl2
    refine ⟨l, l2, _, _, rfl, rfl, by rw [upd_ne nl12]; exact upd_same, upd_same, by rw [List.length_singleton]; omega, fun l3 nl3 => ⟨l3, rfl, ?_⟩⟩
    rw [ems]
    have s3 : Same H (upd (upd (upd H l (.lst (cutV (ns.map V.int) none (some 5)))) l2 (.lst [.int cell])) l3 (.lst (ms.map V.int))) := ((same_new nl).trans (same_new nl2)).trans (same_new nl3)
    refine ⟨⟨_, SqL.of upd_same⟩, for_list (xs := ms.map V.int) (fun i σ H' => H' = upd (upd (upd H l (.lst (cutV (ns.map V.int) none (some 5)))) l2 (.lst [.int cell])) l3 (.lst (ms.map V.int)) ∧ ∃ m z, σ = [some (.ref a), some (.int (j : Int)), some (.int cell), some (.int m), z])
      ⟨rfl, _, _, rfl⟩ (fun i σ H' _ q => by rw [q.1]; exact SqL.of upd_same) ?_ ?_⟩
    · rintro i x σ H' hx ⟨rfl, m, z, rfl⟩
      rw [List.getElem?_map] at hx
      obtain ⟨y, _, rfl⟩ := Option.map_eq_some_iff.mp hx
      refine ⟨_, rfl, _, _, rfl, rfl, .inr ⟨by decide, by decide⟩, _, rfl, .inl ⟨_, rfl, _, _, rfl, rfl, .inl ⟨_, rfl, _, _, rfl, rfl, (by show (0 : Int) < 2147483249; decide), rfl, _, _, rfl⟩⟩⟩
    · rintro σ H' ⟨rfl, m, z, rfl⟩
      refine ⟨_, rfl, _, _, rfl, rfl, _, rfl, ite2 (fun hb => ?_) (fun hb => ?_)⟩
      · refine ite2 (fun _ => ?_) (fun q => absurd rfl q)
        refine ⟨_, rfl, _, rfl, _, rfl, (by show 3 ≤ sizeLine; decide), fun p np => ?_⟩
        refine k p _ (s3.trans (same_new np)) ?_ ⟨_, _, _, upd_same⟩
        cases z : H p with
        | none => rfl
        | some u =>
          have := s3 p u z
          rw [np] at this
          cases this
      · refine ⟨_, rfl, 10, 18, rfl, rfl, ⟨by decide, by decide, by decide⟩, _, _, rfl, rfl, _, rfl, ite2 (fun hb => ?_) (fun hb => ?_)⟩
        · refine ⟨_, rfl, _, rfl, _, rfl, (by show 3 ≤ sizeLine; decide), fun p np => ?_⟩
          refine k p _ (s3.trans (same_new np)) ?_ ⟨_, _, _, upd_same⟩
          cases z : H p with
          | none => rfl
          | some u =>
            have := s3 p u z
            rw [np] at this
            cases this
        · refine ⟨_, rfl, (by show 3 ≤ sizeLine; decide), fun p np => ?_⟩
          refine k p _ (s3.trans (same_new np)) ?_ ⟨_, _, _, upd_same⟩
          cases z : H p with
          | none => rfl
          | some u =>
            have := s3 p u z
            rw [np] at this
            cases this
end
end Zq

namespace Zq
open PySem PySem.Spec PyProof.Rows L2 SX Tq
section
variable {P : Program} {w : World} {K : PySem.W.Frag} {mg : Str → Option Value} {base : Heap}
abbrev nDi : List Str := ["_law_well_here", "_law_many", "_law_old", "_law_digit"]
theorem s21 : FnScope nDi ["_law_well_here", "_law_many"] (defScope (top 108)) := (⟨rfl, rfl, rfl, by decide +kernel, rfl, by decide +kernel, by decide +kernel⟩)
abbrev spDip : Sp := Prx (α := Addr × Int) (fun a => [.ref a.1, .int a.2]) (fun a H Q => RkI H a.1 ∧ 1 ≤ a.2 ∧ a.2 ≤ 1000 ∧ ∀ n H', SameX a.1 H H' → RkI H' a.1 → 0 ≤ n → n < a.2 → Q (.int n) H')
theorem c_dip (D : Df K mg "_law_dip" (top 108)) (B : Bl w K mg) : Cal P w K mg base 1 "_law_dip" ["_law_well_here", "_law_many"] spDip := by
  refine mkC D s21 (fun _ _ _ _ _ _ us hl => match us, hl with | [_, _], _ => rfl) (fun _ => rfl) (fun f cdv A outer s H a Q E hr k => ?_)
  obtain ⟨r, m⟩ := a
  obtain ⟨⟨a, b, c, hR⟩, m1, m2, k⟩ := k
  have m1 : 1 ≤ m := m1
  have m2 : m ≤ 1000 := m2
  have hR0 : H r = some (.lst [.int a, .int b, .int c]) := hR
  refine ⟨_, pss_cons (ps_asg (pe_op op_add ((pe_ix ix_list (pv 0) pe_int (fun _ _ => rfl))) pe_int) (pg_sub (pv 0) pe_int set_list (fun _ => rfl)))
    (pss_cons ((ps_set (i := 2) (FnScope.nd s21) rfl (Or.inl rfl) (pe_callTy call_int1 (by rfl) B.int_ PyProof.Rows.boot_int (pa_cons ((pe_ix ix_list (pv 0) pe_int (fun _ _ => rfl))) pa_nil))))
    (pss_cons (ps_asg (pe_op op_mod (pe_callTy call_int1 (by rfl) B.int_ PyProof.Rows.boot_int (pa_cons (pe_op op_add (pe_op op_add
          (pe_op op_mul (pv 2) (pe_op op_add (pe_op op_mod (pe_callTy call_int1 (by rfl) B.int_ PyProof.Rows.boot_int (pa_cons (pv 2) pa_nil)) pe_int) pe_int))
          (pe_op op_mul pe_int ((pe_ix ix_list (pv 0) pe_int (fun _ _ => rfl))))) pe_int) pa_nil)) pe_int) (pg_sub (pv 0) pe_int set_list (fun _ => rfl)))
    (pss_cons (ps_if ((pt_cmpR op_gt ((pe_ix ix_list (pv 0) pe_int (fun _ _ => rfl))) pe_int (nomark _)))
      (pss_cons (ps_asg (pe_callB call_divmodW (by rfl) B.divmod_ PyProof.Rows.boot_divmod (pa_cons ((pe_ix ix_list (pv 0) pe_int (fun _ _ => rfl))) (pa_cons (pv 1) pa_nil)))
          (pg_tup rfl (pgs_cons (pg_sub (pv 0) pe_int set_list (fun _ => rfl)) (pgs_cons ((pg_name (i := 3) (FnScope.nd s21) rfl (Or.inl rfl))) pgs_nil))))
        (pss_one (ps_ret (pv 3)))) pss_nil)
    (pss_one (ps_ret (pe_op op_mod (pe_callTy call_int1 (by rfl) B.int_ PyProof.Rows.boot_int (pa_cons (pe_op op_fdiv ((pe_ix ix_list (pv 0) pe_int (fun _ _ => rfl))) pe_int) pa_nil)) (pv 1))))))), ?_⟩
  have e0 : L2.start nDi [V.ref r, V.int m] = [some (.ref r), some (.int m), none, none] := rfl
  rw [e0]
  refine ⟨_, rfl, r, _, 2, .int c, rfl, rfl, SqL.of hR0, atI_nat (j := 2) rfl, _, _, rfl, rfl, ?_⟩
  refine ⟨_, rfl, r, [.int a, .int b, .int c], 2, 2, rfl, rfl, hR0, rfl, ?_⟩
  refine ⟨_, rfl, r, _, 1, .int b, rfl, rfl, SqL.of upd_same, atI_nat (j := 1) rfl, .inl ⟨_, rfl, ?_⟩⟩
  refine ⟨_, rfl, _, rfl, .inl ⟨_, rfl, ?_⟩⟩
  refine ⟨_, _, rfl, rfl, (by show (0 : Int) < 17011; decide), _, _, rfl, rfl, _, _, rfl, rfl, .inr ⟨by omega, by omega⟩, ?_⟩
  refine ⟨_, rfl, r, _, 2, .int (c + 1), rfl, rfl, SqL.of upd_same, atI_nat (j := 2) rfl, _, _, rfl, rfl, .inl ⟨by decide, by decide⟩, ?_⟩
  refine ⟨_, _, rfl, rfl, _, _, rfl, rfl, .inl ⟨_, rfl, ?_⟩⟩
  refine ⟨_, _, rfl, rfl, (by show (0 : Int) < 2147483249; decide), ?_⟩
  refine ⟨_, rfl, r, [.int a, .int b, .int (c + 1)], 1, 1, rfl, rfl, upd_same, rfl, ?_⟩
  refine ⟨_, rfl, r, _, 0, .int a, rfl, rfl, SqL.of upd_same, atI_nat (j := 0) rfl, _, _, rfl, rfl, _, rfl, ?_⟩
  rw [upd_upd]
  refine ite2 (fun hb => ?_) (fun hb => ?_)
  · refine ⟨_, rfl, r, _, 0, .int a, rfl, rfl, SqL.of upd_same, atI_nat (j := 0) rfl, _, rfl, _, _, rfl, ⟨by omega, PyProof.noPylong_of_log2 (Nat.lt_of_lt_of_le (PySem.Flt.log2_lt_of (show 0 < 150 by decide) (show m.natAbs < 2 ^ 150 from Nat.lt_of_le_of_lt (show m.natAbs ≤ 1000 by omega) (by decide))) (by decide))⟩, fun p hp => ?_⟩
    have nrp : r ≠ p := fun e => by rw [← e, upd_same] at hp; cases hp
    refine ⟨p, _, rfl, SqT.of upd_same, rfl, _, _, rfl, ?_⟩
    refine ⟨_, rfl, r, _, 0, 0, rfl, rfl, (by rw [upd_ne nrp]; exact upd_same), rfl, _, _, rfl, rfl, ?_⟩
    refine ⟨_, rfl, ?_⟩
    refine k (a % m) _ (fun b o n e => ?_) ⟨_, _, _, upd_same⟩ (Int.emod_nonneg _ (by omega)) (Int.emod_lt_of_pos _ (by omega))
    rw [upd_ne n, upd_ne (fun z => by rw [← z, upd_ne n, e] at hp; cases hp), upd_ne n]
    exact e
  · refine ⟨_, rfl, r, _, 1, _, rfl, rfl, SqL.of upd_same, atI_nat (j := 1) rfl, ?_⟩
    refine ⟨_, _, rfl, rfl, ⟨by decide, by decide⟩, .inl ⟨_, rfl, ?_⟩⟩
    refine ⟨_, rfl, _, _, rfl, rfl, (by show (0 : Int) < m; omega), ?_⟩
    exact k _ _ SameX.put ⟨_, _, _, upd_same⟩ (Int.emod_nonneg _ (by omega)) (Int.emod_lt_of_pos _ (by omega))
theorem s22 : FnScope ["_law_well_here", "_law_things"] ["_law_well_here", "_law_things"] (defScope (top 109)) := (⟨rfl, rfl, rfl, by decide +kernel, rfl, by decide +kernel, by decide +kernel⟩)
abbrev spOf : Sp := Prx (α := Addr × Addr × List V) (fun a => [.ref a.1, .ref a.2.1]) (fun a H Q => RkI H a.1 ∧ a.2.1 ≠ a.1 ∧ H a.2.1 = some (.lst a.2.2) ∧ 1 ≤ a.2.2.length ∧ a.2.2.length ≤ 1000 ∧ ∀ v H', SameX a.1 H H' → RkI H' a.1 → v ∈ a.2.2 → Q v H')
theorem c_of (D : Df K mg "_law_of" (top 109)) (B : Bl w K mg) (CD : Cal P w K mg base 1 "_law_dip" ["_law_well_here", "_law_many"] spDip) : Cal P w K mg base 2 "_law_of" ["_law_well_here", "_law_things"] spOf := by
  refine mkC D s22 (fun _ _ _ _ _ _ us hl => match us, hl with | [_, _], _ => rfl) (fun _ => rfl) (fun f cdv A outer s H a Q E hr k => ?_)
  obtain ⟨r, l, vs⟩ := a
  obtain ⟨hR, nlr, hl, h1, h2, k⟩ := k
  have hl : H l = some (.lst vs) := hl
  have nlr : l ≠ r := nlr
  have h1 : 1 ≤ vs.length := h1
  have h2 : vs.length ≤ 1000 := h2
  refine ⟨_, pss_one (ps_ret ((pe_ix ix_list (pv 1) (pe_cl CD hr (by decide) (pa_cons (pv 0) (pa_cons ((pe_callB call_len_seq (by rfl) (Bl.len_ B) PySem.boot_len (pa_cons (pv 1) pa_nil))) pa_nil))) (fun _ _ => rfl)))), ?_⟩
  refine ⟨_, rfl, _, rfl, _, rfl, l, _, rfl, .inl (SqL.of hl), (r, ((vs.length : Nat) : Int)), rfl, hR, (by show 1 ≤ ((vs.length : Nat) : Int); omega), (by show ((vs.length : Nat) : Int) ≤ 1000; omega), fun n H' s1 hR' n0 n1 => ?_⟩
  have hn : n.toNat < vs.length := by
    have : n < (vs.length : Int) := n1
    omega
  have en : n = ((n.toNat : Nat) : Int) := by omega
  rw [en]
  exact ⟨l, vs, _, vs[n.toNat], rfl, rfl, SqL.of (s1 l _ nlr hl), atI_nat (List.getElem?_eq_getElem hn), k _ _ s1 hR' (List.getElem_mem _)⟩
end
end Zq

namespace Zq
open PySem PySem.Spec PyProof.Rows L2 SX Tq
theorem none_of {r : Addr} {H H' : Hp} (hR : RkI H' r) (s : SameX r H H') {a : Addr} (h : H' a = none) : H a = none := by
  by_cases e : a = r
  · obtain ⟨x, y, z, q⟩ := hR
    rw [e, q] at h
    cases h
  · cases z : H a with
    | none => rfl
    | some u =>
      have := s a u e z
      rw [h] at this
      cases this
theorem none_same {H H' : Hp} (s : Same H H') {a : Addr} (h : H' a = none) : H a = none := by
  cases z : H a with
  | none => rfl
  | some u =>
    have := s a u z
    rw [h] at this
    cases this
section
variable {P : Program} {w : World} {K : PySem.W.Frag} {mg : Str → Option Value} {base : Heap}
def nI (ss : List Nat) : List V := ss.map fun n : Nat => V.int (n : Int)
theorem dp_nats {K : PySem.W.Frag} {H : Hp} (l : List Nat) : DpAll K H (nI l) (l.map fun n : Nat => PyData.int (n : Int)) := by
  induction l with
  | nil => exact .nil
  | cons b r ih => exact .cons (.int _) ih
theorem sh_nats (l : List Nat) : SeqAt.shaped (.list (l.map fun n : Nat => PyData.int (n : Int))) = true := by
  have e1 : PyData.canLayAll0 (l.map fun n : Nat => PyData.int (n : Int)) = true := by
    induction l with
    | nil => rfl
    | cons b r ih =>
      show (PyData.canLay0 (.int (b : Int)) && PyData.canLayAll0 (r.map fun n : Nat => PyData.int (n : Int))) = true
      rw [ih]
      first | done | rfl
  have e2 : ∀ l : List Nat, PyData.depthAll (l.map fun n : Nat => PyData.int (n : Int)) = 0 := by
    intro l
    induction l with
    | nil => rfl
    | cons b r ih =>
      simp only [List.map_cons, PyData.depthAll, PyData.depth, ih]
      rfl
  unfold SeqAt.shaped
  rw [Bool.and_eq_true]
  refine ⟨e1, decide_eq_true ?_⟩
  simp only [PyData.depth, e2]
  decide
abbrev nSi : List Str := ["_law_well_here", "_law_many", "_law_found", "_law_left", "_law_turn", "_law_take"]
theorem s23 : FnScope nSi ["_law_well_here", "_law_many"] (defScope (top 110)) := (⟨rfl, rfl, rfl, by decide +kernel, rfl, by decide +kernel, by decide +kernel⟩)
abbrev spSi : Sp := Prx (α := Addr × Nat) (fun a => [.ref a.1, .int (a.2 : Int)]) (fun a H Q => RkI H a.1 ∧ 2 ≤ a.2 ∧ a.2 ≤ 64 ∧ ∀ ss l H', SameX a.1 H H' → RkI H' a.1 → H l = none → H' l = some (.lst (nI ss)) → (∀ s ∈ ss, 1 ≤ s ∧ s < a.2) → ss.sum = a.2 → 2 ≤ ss.length → Q (.ref l) H')
structure SiI (H H' : Hp) (r fl : Addr) (m i L : Nat) (ss : List Nat) : Prop where
  s : SameX r H H'
  R : RkI H' r
  nw : H fl = none
  ne : fl ≠ r
  at_ : H' fl = some (.lst (nI ss))
  pos : ∀ s ∈ ss, 1 ≤ s ∧ s < m
  sum : ss.sum + L = m
  lt : ss ≠ [] → L < m
  dn : L + i ≤ m
  len : ss.length ≤ i
theorem len_two {ss : List Nat} {m : Nat} (hm : 2 ≤ m) (h : ∀ s ∈ ss, 1 ≤ s ∧ s < m) (e : ss.sum = m) : 2 ≤ ss.length := by
  match ss, h, e with
  | [], _, e => simp at e; omega
  | [x], h, e =>
    have := h x (by simp)
    simp at e
    omega
  | _ :: _ :: _, _, _ => simp
theorem c_si (D : Df K mg "_law_sizes" (top 110)) (B : Bl w K mg) (CD : Cal P w K mg base 1 "_law_dip" ["_law_well_here", "_law_many"] spDip) : Cal P w K mg base 2 "_law_sizes" ["_law_well_here", "_law_many"] spSi := by
  refine mkC D s23 (fun _ _ _ _ _ _ us hl => match us, hl with | [_, _], _ => rfl) (fun _ => rfl) (fun f cdv A outer s H a Q E hr k => ?_)
  obtain ⟨r, m⟩ := a
  obtain ⟨hR, m2, m64, k⟩ := k
  have hR : RkI H r := hR
  have m2 : 2 ≤ m := m2
  have m64 : m ≤ 64 := m64
  have big : 1000 < sizeLine := by decide
  have hu2 : (A.deeper (envOfC "_law_sizes" (defScope (top 110)) s.heap.objs.size f cdv)).units + 64 < cLine := by have := hr.un; omega
  refine ⟨_, pss_cons (ps_par (i := 2) (j := 3) rfl s23.nd rfl rfl (by decide) rfl rfl (pa_cons (pe_lst pa_nil) (pa_cons (pv 1) pa_nil)) rfl)
    (pss_cons (ps_for PassesOwn.never rfl (pi_range1 (by rfl) B.range_ (pa_cons (pv 1) pa_nil)) ((pg_name (i := 4) (FnScope.nd s23) rfl (Or.inl rfl)))
      (pss_one (ps_if ((pt_cmpR op_gt (pv 3) pe_int (nomark _)))
        (pss_cons ((ps_set (i := 5) (FnScope.nd s23) rfl (Or.inl rfl) (pe_op op_add pe_int (pe_cl CD hr (by decide) (pa_cons (pv 0) (pa_cons (pe_op op_sub (pv 3) (pe_callTy call_int1 (by rfl) B.int_ PyProof.Rows.boot_int (pa_cons (pe_cmpR (op_eqD hu2) (pv 2) (pe_lst pa_nil) (nomark _)) pa_nil))) pa_nil))))))
          (pss_one (ps_par (i := 2) (j := 3) rfl s23.nd rfl rfl (by decide) rfl rfl (pa_cons (pe_op op_cat (pv 2) (pe_lst (pa_cons (pv 5) pa_nil))) (pa_cons (pe_op op_sub (pv 3) (pv 5)) pa_nil)) rfl))) pss_nil)))
    (pss_one (ps_ret (pv 2)))), ?_⟩
  have e0 : L2.start nSi [V.ref r, V.int (m : Int)] = [some (.ref r), some (.int (m : Int)), none, none, none, none] := rfl
  rw [e0]
  refine ⟨by decide, fun l0 n0 => ⟨_, rfl, _, _, rfl, ?_⟩⟩
  have nr0 : l0 ≠ r := fun z => by
    obtain ⟨x, y, zz, q⟩ := hR
    rw [z, q] at n0
    cases n0
  refine ⟨_, rfl, _, rfl, by omega, by omega, for_range (fun i σ H' => ∃ fl L ss z4 z5, σ = [some (.ref r), some (.int (m : Int)), some (.ref fl), some (.int ((L : Nat) : Int)), z4, z5] ∧ SiI H H' r fl m i L ss)
    ⟨l0, m, [], none, none, rfl, ⟨(SameX.of (same_new n0)), hR.putN (Ne.symm nr0), n0, nr0, upd_same, (by simp), (by simp), (fun z => absurd rfl z), (by omega), Nat.le_refl _⟩⟩ ?_ ?_⟩
  · rintro i σ H' hi ⟨fl, L, ss, z4, z5, rfl, I⟩
    refine ⟨_, rfl, _, _, rfl, rfl, _, rfl, ite2 (fun hb => ?_) (fun hb => ?_)⟩
    · have hL : 0 < L := by
        have q := of_decide_eq_true hb
        omega
      refine ⟨_, rfl, _, rfl, _, rfl, by decide, fun p np => ?_⟩
      have s1 := same_new (o := .lst []) np
      have npr : p ≠ r := fun z => by
        obtain ⟨x, y, zz, q⟩ := I.R
        rw [z, q] at np
        cases np
      have hfl := s1 _ _ I.at_
      refine ⟨_, _, .lst (SqL.of hfl) (dp_nats ss), .lst (SqL.of upd_same) .nil, sh_nats ss, rfl, .inr ⟨_, rfl, _, _, rfl, rfl, ?_⟩⟩
      obtain ⟨q, hq1, hq2, hqe⟩ : ∃ q : Nat, 1 ≤ q ∧ (q < L ∨ (q = L ∧ L < m)) ∧ (fun i j => V.int (i - j)) ((L : Nat) : Int) (if PyData.eqv (.list (ss.map fun n : Nat => PyData.int (n : Int))) (.list []) = true then 1 else 0) = V.int ((q : Nat) : Int) := by
        by_cases e : ss = []
        · subst e
          have hLm : L = m := by
            have := I.sum
            simp at this
            exact this
          refine ⟨L - 1, by omega, .inl (by omega), ?_⟩
          show V.int (((L : Nat) : Int) - (if PyData.eqv (.list []) (.list []) = true then 1 else 0)) = _
          rw [if_pos (by rfl)]
          exact congrArg V.int (by omega)
        · refine ⟨L, by omega, .inr ⟨rfl, I.lt e⟩, ?_⟩
          rw [eqv_ne (by simpa using e)]
          show V.int (((L : Nat) : Int) - (if false = true then 1 else 0)) = _
          rw [if_neg (by decide)]
          exact congrArg V.int (by omega)
      rw [hqe]
      have iqm := I.dn
      refine ⟨(r, ((q : Nat) : Int)), rfl, I.R.putN (Ne.symm npr), (by show 1 ≤ ((q : Nat) : Int); omega), (by show ((q : Nat) : Int) ≤ 1000; omega), fun n H2 s2 R2 g0 g1 => ?_⟩
      have g1 : n < ((q : Nat) : Int) := g1
      refine ⟨_, _, rfl, rfl, ?_⟩
      have hfl2 := s2 _ _ I.ne hfl
      obtain ⟨tk, etk⟩ : ∃ tk : Nat, (1 : Int) + n = ((tk : Nat) : Int) := ⟨(1 + n).toNat, by omega⟩
      refine ⟨_, rfl, _, rfl, (by show 1 ≤ sizeLine; decide), fun l2 nl2 => ?_⟩
      have nfl2 : fl ≠ l2 := ne_of_none hfl2 nl2
      have lq := I.len
      refine ⟨fl, l2, _, _, rfl, rfl, by rw [upd_ne nfl2]; exact hfl2, upd_same, by show (nI ss).length + 1 ≤ sizeLine; rw [nI, List.length_map]; omega, fun l3 nl3 => ⟨_, rfl, _, rfl, _, _, rfl, rfl, _, _, rfl, ?_⟩⟩
      have nl3' : H2 l3 = none := none_same (same_new nl2) nl3
      have r3 : l3 ≠ r := fun z => by
        obtain ⟨x, y, zz, q⟩ := R2
        rw [z, q] at nl3'
        cases nl3'
      have r2 : l2 ≠ r := fun z => by
        obtain ⟨x, y, zz, q⟩ := R2
        rw [z, q] at nl2
        cases nl2
      have sx : SameX r H H2 := (I.s.trans (SameX.of s1)).trans s2
      refine ⟨l3, L - tk, ss ++ [tk], some (.int (0 + (i : Int))), some (.int (1 + n)), ?_, ⟨(sx.trans (SameX.of (same_new nl2))).trans (SameX.of (same_new nl3)), (R2.putN (Ne.symm r2)).putN (Ne.symm r3), none_of R2 sx nl3', r3, ?_, ?_, ?_, ?_, ?_, ?_⟩⟩
      · show [some (V.ref r), some (V.int ((m : Nat) : Int)), some (V.ref l3), some (V.int (((L : Nat) : Int) - (1 + n))), some (V.int (0 + (i : Int))), some (V.int (1 + n))] = _
        have e5 : ((L : Nat) : Int) - (1 + n) = ((L - tk : Nat) : Int) := by omega
        rw [e5]
      · refine upd_same.trans ?_
        show some (HO.lst (nI ss ++ [V.int (1 + n)])) = _
        rw [etk]
        simp [nI]
      · intro x hx
        rcases List.mem_append.mp hx with hx | hx
        · exact I.pos x hx
        · rw [List.mem_singleton.mp hx]
          omega
      · have := I.sum
        rw [List.sum_append]
        simp
        omega
      · intro _
        have := I.sum
        omega
      · have := I.dn
        omega
      · have := I.len
        rw [List.length_append, List.length_singleton]
        omega
    · have hL : L = 0 := by
        have q : ¬ ((L : Nat) : Int) > 0 := fun z => hb (decide_eq_true z)
        omega
      refine ⟨fl, L, ss, _, _, rfl, ⟨I.s, I.R, I.nw, I.ne, I.at_, I.pos, I.sum, I.lt, by omega, Nat.le_succ_of_le I.len⟩⟩
  · rintro σ H' ⟨fl, L, ss, z4, z5, rfl, I⟩
    have hL : L = 0 := by
      have := I.dn
      omega
    have sm : ss.sum = m := by
      have := I.sum
      omega
    exact ⟨_, rfl, k ss fl H' I.s I.R I.nw I.at_ I.pos sm (len_two m2 I.pos sm)⟩
end
end Zq

namespace Zq
open PySem PySem.Spec PyProof.Rows L2 SX Tq
section
variable {P : Program} {w : World} {K : PySem.W.Frag} {mg : Str → Option Value} {base : Heap}
theorem s24 : FnScope ["_law_well_here", "_law_many", "_law_size"] ["_law_well_here", "_law_many"] (defScope (top 111)) := (⟨rfl, rfl, rfl, by decide +kernel, rfl, by decide +kernel, by decide +kernel⟩)
abbrev spGr (n : Nat) : Sp := Prx (α := Addr × Nat) (fun a => [.ref a.1, .int (a.2 : Int)]) (fun a H Q => RkI H a.1 ∧ 1 ≤ a.2 ∧ a.2 ≤ n ∧ ∀ t v H', SameX a.1 H H' → RkI H' a.1 → Lw (fun a => H a = none) H' t v → wf t → lv t = a.2 → Q v H')
theorem c_gr0 (D : Df K mg "_law_grown" (top 111)) : Cal P w K mg base 2 "_law_grown" ["_law_well_here", "_law_many"] (spGr 0) := by
  refine mkC (k := 1) D s24 (fun _ _ _ _ _ _ us hl => match us, hl with | [_, _], _ => rfl) (fun _ => rfl) (fun f cdv A outer s H a Q E hr k => ?_)
  obtain ⟨r, m⟩ := a
  obtain ⟨_, h1, h2, _⟩ := k
  have h1 : 1 ≤ m := h1
  have h2 : m ≤ 0 := h2
  omega
theorem c_gr {n j : Nat} (hn : n ≤ 20) (hj : 2 ≤ j) (D : Df K mg "_law_grown" (top 111)) (B : Bl w K mg) (CO : Cal P w K mg base 2 "_law_of" ["_law_well_here", "_law_things"] spOf) (CS : Cal P w K mg base 2 "_law_sizes" ["_law_well_here", "_law_many"] spSi)
    (CG : Cal P w K mg base j "_law_grown" ["_law_well_here", "_law_many"] (spGr n)) : Cal P w K mg base (j + 1) "_law_grown" ["_law_well_here", "_law_many"] (spGr (n + 1)) := by
  refine mkC D s24 (fun _ _ _ _ _ _ us hl => match us, hl with | [_, _], _ => rfl) (fun _ => rfl) (fun f cdv A outer s H a Q E hr k => ?_)
  obtain ⟨r, m⟩ := a
  obtain ⟨hR, m1, mn, k⟩ := k
  have hR : RkI H r := hR
  have m1 : 1 ≤ m := m1
  have mn : m ≤ n + 1 := mn
  have big : 1000 < sizeLine := by decide
  refine ⟨_, pss_cons (ps_if ((pt_cmpR op_eq (pv 1) pe_int (nomark _))) (pss_one (ps_ret (pe_cl CO hr hj (pa_cons (pv 0) (pa_cons (pe_lst (pa_cons pe_str (pa_cons pe_str pa_nil))) pa_nil))))) pss_nil)
    (pss_one (ps_ret (pe_tup (pa_cons (pe_cl CO hr hj (pa_cons (pv 0) (pa_cons (pe_lst (pa_cons pe_str (pa_cons pe_str pa_nil))) pa_nil))) (pa_cons
      (pe_lc (own := [("_law_size", 2)]) (g := gName 2) (tt := tYes) (te := tCall (spGr n) [] L2.E0 (tCons (tVar 0) (tCons (tVar 2) tNil))) rfl s24.nd (pi_list (pe_cl CS hr hj (pa_cons (pv 0) (pa_cons (pv 1) pa_nil))))
        (blkOk_by (N := ["_law_well_here", "_law_many", "_law_size"]) (sc := defScope (top 111)) (by decide +kernel)) (fun _ _ _ _ _ => (pg_name (i := 2) (FnScope.nd s24) rfl (Or.inl rfl))) (fun _ _ _ _ _ => pts_nil)
        (fun _ _ _ _ _ => pe_cl CG hr (Nat.le_refl _) (pa_cons (pv 0) (pa_cons (pv 2) pa_nil)))) pa_nil))))), ?_⟩
  refine ⟨_, rfl, rfl, _, rfl, ?_⟩
  rw [dec_int]
  have ne : ∀ {p : Addr}, H p = none → p ≠ r := fun {p} hp z => by
    obtain ⟨x, y, zz, q⟩ := hR
    rw [z, q] at hp
    cases hp
  refine ite2 (fun hb => ?_) (fun hb => ?_)
  · have hm : m = 1 := by
      have q : ((m : Nat) : Int) = 1 := by simpa using hb
      omega
    subst hm
    refine ⟨_, rfl, (by show 2 ≤ sizeLine; decide), fun l nl => ⟨(r, l, _), rfl, hR.putN (Ne.symm (ne nl)), ne nl, upd_same, (by show 1 ≤ 2; decide), (by show 2 ≤ 1000; decide), fun v H' s1 R1 hv => ?_⟩⟩
    have sx := (SameX.of (same_new (o := .lst [.str "l", .str "s"]) nl)).trans s1
    have : ∃ b : Bool, v = .str (S [lc b]) := by
      have hv : v ∈ [V.str "l", V.str "s"] := hv
      rcases List.mem_cons.mp hv with e | e
      · exact ⟨true, by rw [e, sl]; rfl⟩
      · exact ⟨false, by rw [List.mem_singleton.mp e, ss]; rfl⟩
    obtain ⟨b, rfl⟩ := this
    exact k (.leaf b) _ H' sx R1 (by rw [Lw]) (by rw [wf]; trivial) (by rw [lv])
  · have hm : 2 ≤ m := by
      have q : ¬ ((m : Nat) : Int) = 1 := by simpa using hb
      omega
    refine ⟨_, rfl, (by show 2 ≤ sizeLine; decide), fun l nl => ⟨(r, l, _), rfl, hR.putN (Ne.symm (ne nl)), ne nl, upd_same, (by show 1 ≤ 2; decide), (by show 2 ≤ 1000; decide), fun v H1 s1 R1 hv => ?_⟩⟩
    have sx1 := (SameX.of (same_new (o := .lst [.str "[", .str "("]) nl)).trans s1
    have : ∃ b : Bool, v = .str (S [oc b]) := by
      have hv : v ∈ [V.str "[", V.str "("] := hv
      rcases List.mem_cons.mp hv with e | e
      · exact ⟨true, by rw [e, so1]; rfl⟩
      · exact ⟨false, by rw [List.mem_singleton.mp e, so2]; rfl⟩
    obtain ⟨b, rfl⟩ := this
    refine ⟨_, rfl, _, rfl, (r, m), rfl, R1, hm, by show m ≤ 64; omega, fun ss l2 H2 s2 R2 nl2 hl2 pos sum two => ⟨l2, rfl, ⟨_, SqL.of hl2⟩, fun D hD => ?_⟩⟩
    have pos : ∀ s ∈ ss, 1 ≤ s ∧ s < m := pos
    have sum : ss.sum = m := sum
    have sx2 := sx1.trans s2
    have rD : D ≠ r := fun z => by
      obtain ⟨x, y, zz, q⟩ := R2
      rw [z, q] at hD
      cases hD
    have rl2 : l2 ≠ r := fun z => by
      obtain ⟨x, y, zz, q⟩ := R1
      rw [z, q] at nl2
      cases nl2
    have lD : l2 ≠ D := ne_of_none hl2 hD
    have nD : H D = none := none_of R2 sx2 hD
    have nL : H l2 = none := none_of R1 sx1 nl2
    have lss : ss.length ≤ m := by
      have : ∀ l : List Nat, (∀ s ∈ l, 1 ≤ s) → l.length ≤ l.sum := by
        intro l
        induction l with
        | nil => intro _; exact Nat.le_refl _
        | cons a r ih =>
          intro h
          have h1 := h a (List.mem_cons_self ..)
          have h2 := ih fun x hx => h x (List.mem_cons_of_mem _ hx)
          rw [List.length_cons, List.sum_cons]
          omega
      have := this ss fun s hs => (pos s hs).1
      omega
    refine lc_list (xs := nI ss) (fun i H' => SameX r H H' ∧ RkI H' r ∧ H' l2 = some (.lst (nI ss)) ∧ ∃ ts vs, H' D = some (.lst vs) ∧ LwA (fun a => H a = none ∧ a ≠ D) H' ts vs ∧ wfs ts ∧ ts.length = i ∧ lvs ts = (ss.take i).sum) ?_ ?_ ?_ ?_
    · refine ⟨sx2.trans (SameX.of (same_new hD)), R2.putN (Ne.symm rD), by rw [upd_ne lD]; exact hl2, [], [], upd_same, LwA.nil, trivial, rfl, rfl⟩
    · rintro i H' _ ⟨_, _, h, _⟩
      exact SqL.of h
    · rintro i x H' hx ⟨s3, R3, hl3, ts, vs, hvs, hA, wts, lts, sts⟩
      have hx2 : ∃ q, ss[i]? = some q ∧ x = V.int (q : Int) := by
        rw [nI, List.getElem?_map] at hx
        obtain ⟨q, hq, e⟩ := Option.map_eq_some_iff.mp hx
        exact ⟨q, hq, e.symm⟩
      obtain ⟨q, hq, rfl⟩ := hx2
      have hqm := pos q (List.mem_of_getElem? hq)
      have hi : i < ss.length := by
        rw [List.getElem?_eq_some_iff] at hq
        exact hq.1
      refine ⟨rfl, _, rfl, _, rfl, (r, q), rfl, R3, hqm.1, by show q ≤ n; omega, fun t v H4 s4 R4 hL wt lt => ?_⟩
      have hD4 := s4 _ _ rD hvs
      have lvl : vs.length = i := by rw [hA.length]; exact lts
      refine ⟨vs, hD4, by omega, (s3.trans s4).putN nD, R4.putN (Ne.symm rD), by rw [upd_ne lD]; exact s4 _ _ rl2 hl3, ts ++ [t], vs ++ [v], upd_same, ?_, ?_, ?_, ?_⟩
      · have a1 : LwA (fun a => H a = none ∧ a ≠ D) H4 ts vs := hA.sameX R3 s4
        have a2 : Lw (fun a => H a = none ∧ a ≠ D) H4 t v := Lw.mono (fun a o f e => ⟨⟨none_of R3 s3 f, fun z => by rw [z, hvs] at f; cases f⟩, e⟩) t v hL
        have a3 := a1.app (LwA.one a2)
        exact LwA.mono (fun a o f e => ⟨f, by rw [upd_ne f.2]; exact e⟩) _ _ a3
      · exact (wfs_iff _).mpr fun x hx => (List.mem_append.mp hx).elim (fun h => (wfs_iff _).mp wts x h) (fun h => by rw [List.mem_singleton.mp h]; exact wt)
      · rw [List.length_append, List.length_singleton, lts]
      · rw [lvs_app, sts, List.take_succ, hq]
        have : lvs [t] = q := by
          have lt : lv t = q := lt
          rw [lvs, lvs, lt]
          rfl
        rw [this, List.sum_append]
        simp
    · rintro H3 ⟨s3, R3, hl3, ts, vs, hvs, hA, wts, lts, sts⟩
      refine ⟨(by show 2 ≤ sizeLine; decide), fun p np => ?_⟩
      have rp : p ≠ r := fun z => by
        obtain ⟨x, y, zz, q⟩ := R3
        rw [z, q] at np
        cases np
      have nP : H p = none := none_of R3 s3 np
      have Dp0 : D ≠ p := ne_of_none hvs np
      have ln : (nI ss).length = ss.length := by rw [nI, List.length_map]
      rw [ln] at lts sts
      rw [List.take_length] at sts
      refine k (.node b ts) (.ref p) _ (s3.trans (SameX.of (same_new np))) (R3.putN (Ne.symm rp)) ?_ ?_ ?_
      · rw [Lw]
        refine ⟨p, D, vs, rfl, nP, nD, upd_same, by rw [upd_ne Dp0]; exact hvs, ?_⟩
        exact LwA.mono (fun a o f e => ⟨f.1, by rw [upd_ne (ne_of_none e np)]; exact e⟩) _ _ hA
      · rw [wf]
        exact ⟨by rw [lts]; exact two, wts⟩
      · show lv (.node b ts) = m
        rw [lv, sts, sum]
end
end Zq

namespace Zq
open PySem PySem.Spec PyProof.Rows L2 SX Tq
abbrev LwT (H : Hp) (t : Tr) (v : V) : Prop := Lw (fun _ => True) H t v
theorem clo_disp (b : Bool) : valV (mergeK [] [((Sum.inr "[" : Key), V.str "]"), ((Sum.inr "(" : Key), V.str ")")]) (Sum.inr (S [oc b])) = some (.str (S [cc b])) := by
  cases b <;> decide +kernel
theorem txs_at {ps : List Tr} {i : Nat} {t : Tr} (h : ps[i]? = some t) : (txs ps).take (i + 1) = (txs ps).take i ++ [tx t] := by
  rw [List.take_succ, txs_map, List.getElem?_map, h]
  rfl
section
variable {P : Program} {w : World} {K : PySem.W.Frag} {mg : Str → Option Value} {base : Heap}
theorem s25 : FnScope ["_law_node", "_law_part"] ["_law_node"] (defScope (top 112)) := (⟨rfl, rfl, rfl, by decide +kernel, rfl, by decide +kernel, by decide +kernel⟩)
abbrev spSd (n : Nat) : Sp := Prx (α := Tr × V) (fun a => [a.2]) (fun a H Q => LwT H a.1 a.2 ∧ wf a.1 ∧ lv a.1 ≤ n ∧ ∀ H', Same H H' → Q (.str (S (tx a.1))) H')
theorem c_sd {n j : Nat} (hn : n ≤ 20) (D : Df K mg "_law_said" (top 112)) (B : Bl w K mg) (CS : 0 < n → Cal P w K mg base j "_law_said" ["_law_node"] (spSd (n - 1))) : Cal P w K mg base (j + 1) "_law_said" ["_law_node"] (spSd n) := by
  refine mkC D s25 (fun _ _ _ _ _ _ us hl => match us, hl with | [_], _ => rfl) (fun _ => rfl) (fun f cdv A outer s H a Q E hr k => ?_)
  obtain ⟨t, v⟩ := a
  obtain ⟨pn, wt, ln, k⟩ := k
  have pn : LwT H t v := pn
  have wt : wf t := wt
  have ln : lv t ≤ n := ln
  have CS := CS (by have := lv_pos t wt; omega)
  have hu1 : (A.deeper (envOfC "_law_said" (defScope (top 112)) s.heap.objs.size f cdv)).units + 1 < cLine := by have := hr.un; omega
  have big : 1000 < sizeLine := by decide
  have big2 : (1000 : Nat) ≤ 16777216 := by decide
  refine ⟨_, pss_cons (ps_if (pt_val (pe_isi (v := .ty "str") (by rfl) B.isinstance_ (pv 0) (by rfl) B.str_ PyProof.Rows.boot_str rfl)) (pss_one (ps_ret (pv 0))) pss_nil)
    (pss_one (ps_ret (pe_op op_add_str (pe_op op_add_str ((pe_ix ix_tup (pv 0) pe_int (fun _ _ => rfl))) (pe_join pe_str
        (pe_lc (own := [("_law_part", 1)]) (g := gName 1) (tt := tYes) (te := tCall (spSd (n - 1)) [] L2.E0 (tCons (tVar 1) tNil)) rfl s25.nd (pi_list ((pe_ix ix_tup (pv 0) pe_int (fun _ _ => rfl))))
          (blkOk_by (N := ["_law_node", "_law_part"]) (sc := defScope (top 112)) (by decide +kernel)) (fun _ _ _ _ _ => (pg_name (i := 1) (FnScope.nd s25) rfl (Or.inl rfl))) (fun _ _ _ _ _ => pts_nil)
          (fun _ _ _ _ _ => pe_cl CS hr (Nat.le_refl _) (pa_cons (pv 1) pa_nil)))))
      (pe_dget hu1 (pe_disp (pps_cons pe_str pe_str (pps_cons pe_str pe_str pps_nil)) rfl rfl (by decide) (by decide)) ((pe_ix ix_tup (pv 0) pe_int (fun _ _ => rfl))) (fun _ _ => rfl))))), ?_⟩
  cases t with
  | leaf b =>
    rw [LwT, Lw] at pn
    subst pn
    refine ⟨_, rfl, _, _, _, _, true, rfl, .ty _, .base (.str _), kit_ty (by decide +kernel), _, rfl, iteT ⟨_, rfl, ?_⟩⟩
    have := k H (Same.refl _)
    rw [tx] at this
    exact this
  | node b ps =>
    have l1 := len_lv _ wt
    rw [LwT, Lw] at pn
    obtain ⟨p, l, vs, rfl, _, _, h1, h2, h3⟩ := pn
    rw [wf] at wt
    rw [lv] at ln
    refine ⟨_, rfl, _, _, _, _, false, rfl, .ty _, .base (.tup h1), kit_ty (by decide +kernel), _, rfl, iteF ?_⟩
    refine ⟨_, rfl, p, _, 0, _, rfl, rfl, SqT.of h1, atI_nat (j := 0) rfl, ⟨_, rfl⟩, _, rfl, p, _, 1, _, rfl, rfl, SqT.of h1, atI_nat (j := 1) rfl, l, rfl, ⟨_, SqL.of h2⟩, fun D hD => ?_⟩
    have fin : ∀ H', Same H H' → H' D = some (.lst (((txs ps).map S).map V.str)) → ∃ a p, ∃ ys : List Str, V.str " " = .str a ∧ [V.ref D] = [.ref p] ∧ (SqL K H' p (ys.map V.str) ∨ SqT K H' p (ys.map V.str)) ∧ (ys.map (·.length)).sum + ys.length * a.length ≤ 16777216 ∧ Txt.join a ys = S (jn (txs ps)) := by
      intro H' s1 hd
      refine ⟨_, D, (txs ps).map S, rfl, rfl, .inl (SqL.of hd), ?_, by rw [s_sp, join_jn]⟩
      have e2 : ∀ zs : List (List Nat), ((zs.map S).map (·.length)).sum + (zs.map S).length = (zs.map (fun x => x.length + 1)).sum := by
        intro zs
        induction zs with
        | nil => rfl
        | cons x r ih =>
          simp only [List.map_cons, List.sum_cons, List.length_cons, ← ih, S_len]
          omega
      have e3 := e2 (txs ps)
      have e4 : (" " : Str).length = 1 := by decide
      have jl := jn_len (txs ps)
      rw [tx, List.length_cons, List.length_append, List.length_singleton, lv] at l1
      rw [e4]
      rcases jl with jl | jl
      · omega
      · rw [jl]
        show 0 ≤ _
        exact Nat.zero_le _
    refine lc_it (walk_list (xs := vs)) (fun i H' => Same H H' ∧ H' D = some (.lst ((((txs ps).take i).map S).map V.str))) ?_ ?_ ?_ ?_
    · exact ⟨same_new hD, upd_same⟩
    · rintro i H' _ ⟨s1, _⟩
      exact SqL.of (s1 _ _ h2)
    · rintro i x H' _ hi ⟨s1, hd⟩ ⟨rfl, hx⟩
      obtain ⟨t, ht, lt⟩ := h3.at hx
      have tm : t ∈ ps := List.mem_of_getElem? ht
      have q3 := lv_part wt.2 wt.1 tm
      refine ⟨rfl, _, rfl, (t, x), rfl, Lw.same s1 lt, (wfs_iff _).mp wt.2 t tm, by show lv t ≤ n - 1; omega, fun H2 s2 => ⟨_, s2 _ _ hd, ?_, same_put (s1.trans s2) hD, ?_⟩⟩
      · have lg := lvs_ge ps wt.2
        have : (txs ps).length = ps.length := by rw [txs_map, List.length_map]
        rw [List.length_map, List.length_map, List.length_take]
        omega
      · refine upd_same.trans ?_
        rw [txs_at ht]
        simp
    · rintro H' ⟨s1, hd⟩
      have e : vs.length = (txs ps).length := by rw [h3.length, txs_map, List.length_map]
      rw [e, List.take_length] at hd
      obtain ⟨a, p', ys, ea, ep, hq, hz, ej⟩ := fin H' s1 hd
      refine ⟨a, p', ys, ea, ep, hq, hz, ?_⟩
      rw [ej]
      refine ⟨_, _, rfl, rfl, ?_, fun dd ndd => ⟨upd_same, [((Sum.inr "[" : Key), V.str "]"), ((Sum.inr "(" : Key), V.str ")")], rfl, (by decide), ?_⟩⟩
      · rw [S_len, S_len, List.length_singleton]
        rw [tx, List.length_cons, List.length_append, List.length_singleton, lv] at l1
        omega
      · have s3 : Same H (upd (upd H' dd (.dK [])) dd (.dK (mergeK [] [((Sum.inr "[" : Key), V.str "]"), ((Sum.inr "(" : Key), V.str ")")]))) := by
          rw [upd_upd]
          exact s1.trans (same_new ndd)
        have dg : DGet (upd (upd H' dd (.dK [])) dd (.dK (mergeK [] [((Sum.inr "[" : Key), V.str "]"), ((Sum.inr "(" : Key), V.str ")")]))) dd (.str (S [oc b])) (some (.str (S [cc b]))) := by
          have q := DGet.k (k := (Sum.inr (S [oc b]) : Key)) (upd_same (H := upd H' dd (.dK [])) (a := dd) (o := .dK (mergeK [] [((Sum.inr "[" : Key), V.str "]"), ((Sum.inr "(" : Key), V.str ")")])))
          rw [clo_disp] at q
          exact q
        refine ⟨_, rfl, p, _, 0, _, rfl, rfl, SqT.of (s3 _ _ h1), atI_nat (j := 0) rfl, dd, _, rfl, dg, _, _, rfl, rfl, ?_, ?_⟩
        · rw [S_cat, S_len, S_len, List.length_append, List.length_singleton, List.length_singleton]
          rw [tx, List.length_cons, List.length_append, List.length_singleton, lv] at l1
          omega
        · rw [S_cat, S_cat]
          have := k _ s3
          rw [tx] at this
          simpa using this
theorem all_sd (D : Df K mg "_law_said" (top 112)) (B : Bl w K mg) : ∀ n, n ≤ 20 → Cal P w K mg base (n + 1) "_law_said" ["_law_node"] (spSd n)
  | 0, h => c_sd (j := 0) h D B (fun z => absurd z (by omega))
  | n + 1, h => c_sd h D B (fun _ => all_sd D B n (by omega))
end
end Zq

/-! InvalidTree is raised. -/
namespace Zq
open PySem PySem.Spec PyProof.Rows L2 SX Tq Xk
/-- a promise that may end in an exception -/
abbrev CXw (P : Program) (w : World) : CXT := L2.CX P w
structure CalX (P : Program) (w : World) (K : PySem.W.Frag) (mg : Str → Option Value) (base : Heap) (k : Nat) (x : Str) (ps : List Str) (sp : Sp) : Prop where
  ex : ∃ f fd, FnOk P w K mg base (L2.CX P w) k f fd ps sp ∧ Binds K fd ps [] ∧ mg x = some (.ref f) ∧ PySem.W.keepIn K (.ref f) = true ∧ ∃ oc od osl, K.lookup f = some ⟨oc, od, .func fd, osl⟩
section
variable {X : Cx} {k j : Nat} {ps : List Str} {sp : Sp} {x : Str} {p pos : Pos} {e : Expr} {es : List Expr} {t : TA} {E : XK}
theorem pe_cx (C : CalX X.prog X.w X.K X.mg X.base k x ps sp) (hr : Room j X.A) (hkj : k ≤ j) (hx : Passes (L2.CX X.prog X.w) X E) (ha : PA X (e :: es) t) (hg : Gl X x := by rfl) (hdb : (x == ("__debug__" : Str)) = false := by decide)
    (he : starEach (e :: es) X.env = (false, eval e X.env) :: starEach es X.env := by rfl) (hpl : (backTo pos (starEach es X.env)).any (·.1) = false := by rfl) :
    PE X (.Call (.Name x p) (e :: es) [] pos) (tCall sp [] E t) := by
  obtain ⟨f, fd, F, b, m, kp, _⟩ := C.ex
  exact pe_call F (hr.mono hkj) hg m kp b .nil hx ha hdb he hpl
end
theorem mkX {P : Program} {w : World} {K : PySem.W.Frag} {mg : Str → Option Value} {base : Heap} {N ps : List Str} {x : Str} {st : Stmt} {k : Nat} {sp : Sp}
    (D : Df K mg x st) (S : FnScope N ps (defScope st))
    (hb : ∀ (kV doc pm : Value) (an : Option Addr) (cdv ct : Value) (us : List Value), us.length = ps.length → bindArgs (PySem.W.fnOf x x (defArgs st) (defBody st) (defScope st) .none kV doc pm an cdv ct) ⟨us, []⟩ = pure (ps.zip us))
    (hl : ∀ vs H Q E, sp vs H Q E → vs.length = ps.length)
    (h : ∀ (f : Addr) (cdv : Value) (A : Around) (outer : List Env) (s : Shared) (H : Hp) (vs : List V) (Q : VK) (E : XK), Room k (A.deeper (envOfC x (defScope st) s.heap.objs.size f cdv)) → sp vs H Q E →
      ∃ t, PSs (cxOf (L2.CX P w) P w K mg base N x (defScope st) f cdv A outer s H E) (defBody st) t ∧ t { nx := fun _ H' => Q .non H', rt := Q } (L2.start N vs) H) :
    CalX P w K mg base (k + 1) x ps sp := by
  obtain ⟨f, fd, F, m⟩ := D.ex
  have lk : ∃ oc od osl, K.lookup f = some ⟨oc, od, .func fd, osl⟩ := by
    obtain ⟨oc, od, kV, doc, pm, an, cdv, ct, osl, _, lk, _⟩ := F.ex
    exact ⟨oc, od, osl, lk⟩
  exact ⟨f, fd, F.okX S hl (fun cdv A outer s H vs Q E hr hp => h f cdv A outer s H vs Q E hr hp), F.binds hb, m, F.kp, lk⟩
/-! ### the class -/
def ini (i : Nat) : Stmt := inClass (top i) 0
def spIni (C : Addr) : Sp := fun vs H Q _ => ∃ (a : Addr) (v : V), vs = [.ref a, v] ∧ H a = some (exo a C none) ∧ ∀ dx, H dx = none → dx ≠ a → Q .non (upd (upd H dx (exd dx [("given", v)])) a (exo a C (some dx)))
structure TErr (K : PySem.W.Frag) (mg : Str → Option Value) (C Bc fI : Addr) : Prop where
  T : OxC K C Bc "ValueError.__new__" tlV
  tyC : PySem.W.typeIn K (.ref C) = some (.type "type")
  iC : PySem.W.findIn K (.ref C) "__init__" = some (some (.ref fI))
  tI : PySem.W.typeIn K (.ref fI) = some (.type "function")
  F : ∃ fd, Fun K "__init__" "InvalidTree.__init__" (ini 6) fI fd
  R : BoC K Bc "ValueError.__init__"
  mB : mg "BadValue" = some (.ref Bc)
  mC : mg "InvalidTree" = some (.ref C)
  hno : PySem.W.findIn K (.ref C) "given" = some none
section
variable {P : Program} {w : World} {K : PySem.W.Frag} {mg : Str → Option Value} {base : Heap} {C Bc fI : Addr}
theorem sI : FnScope ["self", "given"] ["self", "given"] (defScope (ini 6)) := ⟨rfl, rfl, rfl, by decide +kernel, rfl, by decide +kernel, by decide +kernel⟩
theorem ok_ini (Y : TErr K mg C Bc fI) : ∃ fd, FnOk P w K mg base L2.CX0 1 fI fd ["self", "given"] (spIni C) ∧ Binds K fd ["self", "given"] [] := by
  obtain ⟨fd, F⟩ := Y.F
  refine ⟨fd, F.ok sI (fun vs H Q E h => ?_) (fun cdv A outer s H vs Q E hr h => ?_), F.binds (fun _ _ _ _ _ _ us hl => match us, hl with | [_, _], _ => rfl)⟩
  · obtain ⟨a, v, rfl, _⟩ := h
    rfl
  · obtain ⟨a, v, rfl, ha, k⟩ := h
    refine ⟨_, pss_cons (ps_expr (pe_bin Y.R bseV rfl Y.mB (pa_cons (pv 0) (pa_cons pe_str pa_nil)) rfl)) (pss_one (ps_ox (Bc := Bc) bseV (pv 0) (pv 1))), ?_⟩
    refine ⟨_, rfl, a, C, [.str _], rfl, by decide, Y.T, ha, _, rfl, _, rfl, a, C, rfl, Y.T, Y.hno, .inl ⟨ha, fun dx hdx ne => ?_⟩⟩
    exact k dx hdx ne
/-- what is no tree -/
def BadT (K : PySem.W.Frag) (H : Hp) (v : V) : Prop := (∃ l, v = .str (S l) ∧ l.length ≤ 5000 ∧ ∀ t, goodR l t → 12 < ct l) ∨ ∃ ty, TyX K H v ty ∧ PySem.W.kitOne K ty (.type "str") = some false
def GoodT (v : V) (l : List Nat) (t : Tr) : Prop := v = .str (S l) ∧ l.length ≤ 5000 ∧ goodR l t ∧ ct l ≤ 12
/-- the exception that says so -/
def Says (C : Addr) (v : V) (H : Hp) (E : XK) : Prop := ∀ d H', Same H H' → H d = none → H' d = some (.xd [("given", v)]) → E (.ref C) (some d) H'
def spChk (K : PySem.W.Frag) (C : Addr) : Sp := fun vs H Q E => ∃ v, vs = [v] ∧ ((∃ l t, GoodT v l t ∧ ∀ v' H', Same H H' → Pn H' t v' → Q v' H') ∨ (BadT K H v ∧ Says C v H E))
def askTN (K : PySem.W.Frag) : V → Hp → VK → Prop := fun v H Q => (∃ l t, GoodT v l t ∧ ∀ v' H', Same H H' → Pn H' t v' → Q v' H') ∨ (BadT K H v ∧ ∀ H', Same H H' → Q .non H')
theorem s87 : FnScope ["value"] ["value"] (defScope (top 87)) := (⟨rfl, rfl, rfl, by decide +kernel, rfl, by decide +kernel, by decide +kernel⟩)
theorem c_tn (D : Df K mg "told_node" (top 87)) (B : Bl w K mg) (CL : Cal P w K mg base 1 "leaves_in" ["text"] spLeaves) (CN : Cal P w K mg base 1 "node_of" ["text"] spNode) : Cal P w K mg base 2 "told_node" ["value"] (Prx (fun v => [v]) (askTN K)) := by
  refine mkC D s87 (fun _ _ _ _ _ _ us hl => match us, hl with | [_], _ => rfl) (fun _ => rfl) (fun f cdv A outer s H v Q E hr h => ?_)
  obtain ⟨t1, h1⟩ := B.leaves_
  refine ⟨_, pss_one (ps_ret (pe_ifExp (PW.pt (pw_and (pt_val (pe_isi (v := .ty "str") (by rfl) B.isinstance_ (pv 0) (by rfl) B.str_ PyProof.Rows.boot_str rfl)) (pw_and1 (pt_cmpR op_le (pe_cl CL hr (by decide) (pa_cons (pv 0) pa_nil)) (pe_glob (v := .int 12) (by rfl) h1 ⟨_, rfl⟩) (nomark _)))))
      (pe_cl CN hr (by decide) (pa_cons (pv 0) pa_nil)) pe_non)), ?_⟩
  rcases h with ⟨l, t, ⟨rfl, ll, g, c12⟩, k⟩ | ⟨bad, k⟩
  · refine ⟨_, rfl, _, _, _, _, true, rfl, .ty _, .base (.str _), kit_ty (by decide +kernel), _, rfl, iteT ⟨_, rfl, l, rfl, _, _, rfl, rfl, _, rfl, ?_⟩⟩
    rw [decide_eq_true (show ((ct l : Nat) : Int) ≤ 12 by omega)]
    refine iteT ⟨_, rfl, l, rfl, ll, fun t' v' H' g' s1 pn => ?_, fun no => absurd g (no t)⟩
    have et : t' = t := by
      have q : some (⟨[t'], [], [], false⟩ : MS) = some ⟨[t], [], [], false⟩ := g'.symm.trans g
      cases q
      rfl
    subst et
    exact k _ _ s1 pn
  · rcases bad with ⟨l, rfl, ll, no⟩ | ⟨ty, hty, hk⟩
    · refine ⟨_, rfl, _, _, _, _, true, rfl, .ty _, .base (.str _), kit_ty (by decide +kernel), _, rfl, iteT ⟨_, rfl, l, rfl, _, _, rfl, rfl, _, rfl, ?_⟩⟩
      by_cases c12 : ct l ≤ 12
      · rw [decide_eq_true (show ((ct l : Nat) : Int) ≤ 12 by omega)]
        exact iteT ⟨_, rfl, l, rfl, ll, fun t' v' H' g' => absurd (no t' g') (by omega), fun _ H1 s1 => k H1 s1⟩
      · rw [decide_eq_false (show ¬ ((ct l : Nat) : Int) ≤ 12 by omega)]
        exact iteF (k H (Same.refl _))
    · exact ⟨_, rfl, _, _, _, _, false, rfl, .ty _, hty, hk, _, rfl, iteF (iteF (k H (Same.refl _)))⟩
theorem s86 : FnScope ["tree", "node"] ["tree"] (defScope (top 86)) := (⟨rfl, rfl, rfl, by decide +kernel, rfl, by decide +kernel, by decide +kernel⟩)
theorem c_chk (D : Df K mg "checked" (top 86)) (Y : TErr K mg C Bc fI) (CT : Cal P w K mg base 2 "told_node" ["value"] (Prx (fun v => [v]) (askTN K))) : CalX P w K mg base 3 "checked" ["tree"] (spChk K C) := by
  refine mkX D s86 (fun _ _ _ _ _ _ us hl => match us, hl with | [_], _ => rfl) (fun vs H Q E h => ?_) (fun f cdv A outer s H vs Q E hr h => ?_)
  · obtain ⟨v, rfl, _⟩ := h
    rfl
  obtain ⟨v, rfl, h⟩ := h
  obtain ⟨fdI, FI, bI⟩ := ok_ini (P := P) (w := w) (base := base) Y
  refine ⟨_, pss_cons ((ps_set (i := 1) (FnScope.nd s86) rfl (Or.inl rfl) (pe_cl CT hr (by decide) (pa_cons (pv 0) pa_nil))))
    (pss_cons (ps_if (pt_cmpR op_isN (pv 1) pe_non (nomark _)) (pss_one (ps_raise rfl (takes_of rfl rfl rfl rfl) (pmk_ox Y.T bseV Y.tyC Y.iC Y.tI FI hr bI .nil L2.pass0 (by rfl) Y.mC (pa_cons (pv 0) pa_nil)))) pss_nil)
    (pss_one (ps_ret (pv 1)))), ?_⟩
  have boom : ∀ H1, Same H H1 → Says C v H E → ∀ z : Option V, (fun σ H2 => tMkO C (spIni C) [] (tCons (tVar 0) tNil) σ H2 fun cls d H' => E cls d H') [some v, z] H1 := by
    intro H1 s1 k z
    refine ⟨_, rfl, (by show 1 ≤ 1000; decide), fun a na => ⟨a, v, rfl, upd_same, fun dx hdx ne => ⟨rfl, dx, [("given", v)], upd_same, ?_, ?_, ?_⟩⟩⟩
    · rw [upd_ne ne]
      exact upd_same
    · rw [upd_ne ne] at hdx
      exact hdx
    · have hd1 : H1 dx = none := by
        rw [upd_ne ne] at hdx
        exact hdx
      refine k dx _ (fun b o e => ?_) ?_ upd_same
      · have e1 := s1 b o e
        have nb : b ≠ a := ne_of_none e1 na
        have nd : b ≠ dx := ne_of_none e1 hd1
        rw [upd_ne nd, del_ne nb, upd_ne nb, upd_ne nd, upd_ne nb]
        exact e1
      · exact none_same s1 hd1
  rcases h with ⟨l, t, hg, k⟩ | ⟨bad, k⟩
  · refine ⟨_, rfl, v, rfl, .inl ⟨l, t, hg, fun v' H' s1 pn => ⟨_, rfl, rfl, _, rfl, ?_⟩⟩⟩
    have e2 : decide (v' = V.non) = false := by
      cases t with
      | leaf b =>
        rw [Pn] at pn
        obtain ⟨a, e, rfl, _⟩ := pn
        rfl
      | node b ps =>
        rw [Pn] at pn
        obtain ⟨a, e, vs, rfl, _⟩ := pn
        rfl
    rw [e2]
    exact iteF ⟨_, rfl, k _ _ s1 pn⟩
  · exact ⟨_, rfl, v, rfl, .inr ⟨bad, fun H1 s1 => ⟨_, rfl, rfl, _, rfl, iteT (boom H1 s1 k _)⟩⟩⟩
end
end Zq

/-! The functions of trees where the tree is none, and panes_of and plain where it is one. -/
namespace Zq
open PySem PySem.Spec PyProof.Rows L2 SX Tq Xk
/-- called by keywords -/
structure CalXK (P : Program) (w : World) (K : PySem.W.Frag) (mg : Str → Option Value) (base : Heap) (k : Nat) (x : Str) (ps ks : List Str) (g : List Value → List Value → List Value) (gV : List V → List V → List V) (sp : Sp) : Prop where
  ex : ∃ f fd, FnOk P w K mg base (L2.CX P w) k f fd ps sp ∧ KBinds K fd ps ks g gV ∧ mg x = some (.ref f) ∧ PySem.W.keepIn K (.ref f) = true
section
variable {X : Cx} {k j : Nat} {ps ks : List Str} {sp : Sp} {x : Str} {p pos : Pos} {kws : List Keyword} {tk : TA} {E : XK} {g : List Value → List Value → List Value} {gV : List V → List V → List V}
theorem pe_cxk (C : CalXK X.prog X.w X.K X.mg X.base k x ps ks g gV sp) (hr : Room j X.A) (hkj : k ≤ j) (hx : Passes (L2.CX X.prog X.w) X E) (hkw : PK X kws tk) (hg : Gl X x := by rfl)
    (hall : (backToKw pos (keywordEach kws X.env)).all (·.1.isSome) = true := by rfl) (hks : (backToKw pos (keywordEach kws X.env)).filterMap (·.1) = ks := by rfl)
    (hdb : (x == ("__debug__" : Str)) = false := by decide)
    (hpl : ((backTo pos (starEach [] X.env)).any (·.1) || (backToKw pos (keywordEach kws X.env)).any (·.1.isNone)) = false := by rfl) :
    PE X (.Call (.Name x p) [] kws pos) (fun σ H Q => tk σ H fun zs H2 => sp (gV [] zs) H2 Q E) := by
  obtain ⟨f, fd, F, hb, hm, hk⟩ := C.ex
  refine ⟨fun pins s σ H Q I h => ?_⟩
  refine wpAny_Call_Name_kw (ld_glob I hg hm ?_ hdb)
  refine PySem.W.callWith_KW0 (h₀ := X.base) I.ok.mod.kin hk hall (thn (hkw.run pos pins s σ H _ I h) fun ws s2 ⟨zs, H2, I2, rz, q2⟩ => ⟨I2.kIn, ?_⟩) hpl
  rw [hks]
  exact run_fnk (us := []) (vs := []) F (hr.mono hkj) hb hx I2 .nil rz q2
end
def g1 {α : Type} (us ws : List α) : List α := us ++ ws
def g2 {α : Type} (us ws : List α) : List α := match us with
  | [] => ws.reverse
  | _ => []
theorem CalX.k1 {P : Program} {w : World} {K : PySem.W.Frag} {mg : Str → Option Value} {base : Heap} {k : Nat} {x y : Str} {st : Stmt} {sp : Sp} (C : CalX P w K mg base k x [y] sp) (D : Df K mg x st)
    (hb : ∀ (kV doc pm : Value) (an : Option Addr) (cdv ct u : Value), bindArgs (PySem.W.fnOf x x (defArgs st) (defBody st) (defScope st) .none kV doc pm an cdv ct) ⟨[u], []⟩ = pure [(y, u)])
    (hb2 : ∀ (kV doc pm : Value) (an : Option Addr) (cdv ct u : Value), bindArgs (PySem.W.fnOf x x (defArgs st) (defBody st) (defScope st) .none kV doc pm an cdv ct) ⟨[], [(y, u)]⟩ = pure [(y, u)]) :
    CalXK P w K mg base k x [y] [y] g1 g1 sp := by
  obtain ⟨f, fd, F, b, m, kp, oc, od, osl, lk⟩ := C.ex
  obtain ⟨f', fd', F', m'⟩ := D.ex
  rw [m] at m'
  cases m'
  obtain ⟨oc', od', kV, doc, pm, an, cdv, ct, osl', rfl, lk', _⟩ := F'.ex
  rw [lk] at lk'
  cases lk'
  refine ⟨f, _, F, ⟨fun s us ws X hlen => ?_, fun r rz => r.append rz⟩, m, kp⟩
  have two : (us = [] ∧ ∃ u, ws = [u]) ∨ ((∃ u, us = [u]) ∧ ws = []) := by
    match us, ws, hlen with
    | [], [u], _ => exact .inl ⟨rfl, u, rfl⟩
    | [u], [], _ => exact .inr ⟨⟨u, rfl⟩, rfl⟩
  rcases two with ⟨rfl, u, rfl⟩ | ⟨⟨u, rfl⟩, rfl⟩
  · exact BindsTo.of_eq (hb2 kV doc pm an cdv ct u)
  · exact BindsTo.of_eq (hb kV doc pm an cdv ct u)
theorem CalX.k2 {P : Program} {w : World} {K : PySem.W.Frag} {mg : Str → Option Value} {base : Heap} {k : Nat} {x y z : Str} {st : Stmt} {sp : Sp} (C : CalX P w K mg base k x [y, z] sp) (D : Df K mg x st)
    (hb2 : ∀ (kV doc pm : Value) (an : Option Addr) (cdv ct u v : Value), bindArgs (PySem.W.fnOf x x (defArgs st) (defBody st) (defScope st) .none kV doc pm an cdv ct) ⟨[], [(z, v), (y, u)]⟩ = pure [(y, u), (z, v)]) :
    CalXK P w K mg base k x [y, z] [z, y] g2 g2 sp := by
  obtain ⟨f, fd, F, b, m, kp, oc, od, osl, lk⟩ := C.ex
  obtain ⟨f', fd', F', m'⟩ := D.ex
  rw [m] at m'
  cases m'
  obtain ⟨oc', od', kV, doc, pm, an, cdv, ct, osl', rfl, lk', _⟩ := F'.ex
  rw [lk] at lk'
  cases lk'
  refine ⟨f, _, F, ⟨fun s us ws X hlen => ?_, fun {vs us zs ws} r rz => ?_⟩, m, kp⟩
  · cases us with
    | cons a r => cases hlen
    | nil =>
      have h2 : ws.length = 2 := by
        have q : ws.reverse.length = 2 := hlen
        rw [List.length_reverse] at q
        exact q
      match ws, h2 with
      | [v, u], _ => exact BindsTo.of_eq (hb2 kV doc pm an cdv ct u v)
  · cases r with
    | nil => exact rz.reverse
    | cons _ _ => exact .nil
section
variable {P : Program} {w : World} {K : PySem.W.Frag} {mg : Str → Option Value} {base : Heap} {C CS : Addr}
/-- a promise for one that is never called -/
theorem never {x : Str} {N ps : List Str} {st : Stmt} (D : Df K mg x st) (S : FnScope N ps (defScope st))
    (hb : ∀ (kV doc pm : Value) (an : Option Addr) (cdv ct : Value) (us : List Value), us.length = ps.length → bindArgs (PySem.W.fnOf x x (defArgs st) (defBody st) (defScope st) .none kV doc pm an cdv ct) ⟨us, []⟩ = pure (ps.zip us)) :
    Cal P w K mg base 1 x ps (fun _ _ _ _ => False) := by
  obtain ⟨f, fd, F, m⟩ := D.ex
  have lk : ∃ oc od osl, K.lookup f = some ⟨oc, od, .func fd, osl⟩ := by
    obtain ⟨oc, od, kV, doc, pm, an, cdv, ct, osl, _, lk, _⟩ := F.ex
    exact ⟨oc, od, osl, lk⟩
  exact ⟨f, fd, F.ok S (fun vs H Q E h => h.elim) (fun cdv A outer s H vs Q E hr hp => hp.elim), F.binds hb, m, F.kp, lk⟩
def spPan (K : PySem.W.Frag) (C : Addr) : Sp := fun vs H Q E => ∃ v, vs = [v] ∧ ((∃ l t, GoodT v l t ∧ ∀ H', Same H H' → Q (.int ((ct l : Nat) : Int)) H') ∨ (BadT K H v ∧ Says C v H E))
theorem s97 : FnScope ["tree"] ["tree"] (defScope (top 97)) := (⟨rfl, rfl, rfl, by decide +kernel, rfl, by decide +kernel, by decide +kernel⟩)
theorem c_pan (D : Df K mg "panes_of" (top 97)) (CC : CalX P w K mg base 3 "checked" ["tree"] (spChk K C)) (CL : Cal P w K mg base 1 "leaves_in" ["text"] spLeaves) : CalX P w K mg base 4 "panes_of" ["tree"] (spPan K C) := by
  refine mkX D s97 (fun _ _ _ _ _ _ us hl => match us, hl with | [_], _ => rfl) (fun vs H Q E h => ?_) (fun f cdv A outer s H vs Q E hr h => ?_)
  · obtain ⟨v, rfl, _⟩ := h
    rfl
  obtain ⟨v, rfl, h⟩ := h
  refine ⟨_, pss_cons (ps_expr (pe_cx CC hr (by decide) (passes_call (takes_of rfl rfl rfl rfl) (fun _ _ _ _ h => h)) (pa_cons (pv 0) pa_nil))) (pss_one (ps_ret (pe_cl CL hr (by decide) (pa_cons (pv 0) pa_nil)))), ?_⟩
  rcases h with ⟨l, t, ⟨rfl, ll, g, c12⟩, k⟩ | ⟨bad, k⟩
  · refine ⟨_, rfl, _, rfl, .inl ⟨l, t, ⟨rfl, ll, g, c12⟩, fun v' H' s1 pn => ?_⟩⟩
    exact ⟨_, rfl, l, rfl, k _ s1⟩
  · exact ⟨_, rfl, v, rfl, .inr ⟨bad, k⟩⟩
def spPla (K : PySem.W.Frag) (C : Addr) : Sp := fun vs H Q E => ∃ v, vs = [v] ∧ ((∃ l t, GoodT v l t ∧ ∀ y H', Same H H' → Q (.str y) H') ∨ (BadT K H v ∧ Says C v H E))
theorem s98 : FnScope ["tree"] ["tree"] (defScope (top 98)) := (⟨rfl, rfl, rfl, by decide +kernel, rfl, by decide +kernel, by decide +kernel⟩)
theorem c_pla (D : Df K mg "plain" (top 98)) (CC : CalX P w K mg base 3 "checked" ["tree"] (spChk K C)) (CP : Cal P w K mg base 36 "plain_text" ["node"] (spPT 12)) : CalX P w K mg base 37 "plain" ["tree"] (spPla K C) := by
  refine mkX D s98 (fun _ _ _ _ _ _ us hl => match us, hl with | [_], _ => rfl) (fun vs H Q E h => ?_) (fun f cdv A outer s H vs Q E hr h => ?_)
  · obtain ⟨v, rfl, _⟩ := h
    rfl
  obtain ⟨v, rfl, h⟩ := h
  refine ⟨_, pss_one (ps_ret (pe_cl CP hr (by decide) (pa_cons (pe_cx CC hr (by decide) (passes_call (takes_of rfl rfl rfl rfl) (fun _ _ _ _ h => h)) (pa_cons (pv 0) pa_nil)) pa_nil))), ?_⟩
  rcases h with ⟨l, t, ⟨rfl, ll, g, c12⟩, k⟩ | ⟨bad, k⟩
  · refine ⟨_, rfl, _, rfl, .inl ⟨l, t, ⟨rfl, ll, g, c12⟩, fun v' H' s1 pn => ?_⟩⟩
    obtain ⟨t2, e2, w2, l2⟩ := run_tree g rfl rfl
    cases e2
    exact ⟨(t, v'), rfl, pn, w2, by show lv t ≤ 12; omega, fun H2 s2 => k _ _ (s1.trans s2)⟩
  · exact ⟨_, rfl, v, rfl, .inr ⟨bad, k⟩⟩
/-- an instance of the class at CS -/
def InS (CS : Addr) (H : Hp) (v : V) : Prop := ∃ sh dx fs, v = .ref sh ∧ H sh = some (.ins CS dx fs)
structure ShF (K : PySem.W.Frag) (mg : Str → Option Value) (CS : Addr) : Prop where
  m : mg "Shape" = some (.ref CS)
  cl : Cls K CS
  one : PySem.W.kitOne K (.ref CS) (.ref CS) = some true
  ca : PySem.W.findIn K (.ref CS) "__class__" = some (some (.builtin "object.__class__"))
  cn : PySem.W.specialIn K (.builtin "object.__class__") "__get__" = some (some (.builtin "getset_descriptor.__get__"))
  ct : PySem.W.takesIn K (.builtin "object.__class__") = some true
  cm : PySem.W.mroIn K CS (.type "object") = some true
theorem s60 : FnScope ["value"] ["value"] (defScope (top 60)) := (⟨rfl, rfl, rfl, by decide +kernel, rfl, by decide +kernel, by decide +kernel⟩)
abbrev spCS (CS : Addr) : Sp := Prx (α := V) (fun v => [v]) (fun v H Q => InS CS H v ∧ Q .non H)
theorem pe_isC {X : Cx} {e : Expr} {te : TE} {p p2 pos : Pos} {x : Str} {CS : Addr} (hg : Gl X "isinstance") (hm : X.mg "isinstance" = none) (he : PE X e te) (hg2 : Gl X x) (hm2 : X.mg x = some (.ref CS)) (hd : (x == ("__debug__" : Str)) = false)
    (hst : starEach [e, .Name x p2] X.env = (false, eval e X.env) :: starEach [.Name x p2] X.env := by rfl) :
    PE X (.Call (.Name "isinstance" p) [e, .Name x p2] [] pos) (tCB (rIsi X.K) (tCons te (tCons (tC (.ref CS)) tNil))) :=
  pe_callB call_isi hg hm (by decide +kernel) (pa_cons he (pa_cons (pe_glob hg2 hm2 rfl hd) pa_nil) hst) (by decide) (by decide) hst
theorem c_cs (D : Df K mg "check_shape" (top 60)) (B : Bl w K mg) (Z : ShF K mg CS) : Cal P w K mg base 1 "check_shape" ["value"] (spCS CS) := by
  refine mkC D s60 (fun _ _ _ _ _ _ us hl => match us, hl with | [_], _ => rfl) (fun _ => rfl) (fun f cdv A outer s H v Q E hr k => ?_)
  obtain ⟨⟨sh, dx, fs, ev, hs⟩, k⟩ := k
  have ev : v = .ref sh := ev
  subst ev
  refine ⟨_, pss_one (ps_if (pt_not (pt_val (pe_isC (by rfl) B.isinstance_ (pv 0) (by rfl) Z.m (by decide)))) pss_nv pss_nil), ?_⟩
  exact ⟨_, rfl, _, _, _, _, true, rfl, .own _, .base (.ins hs Z.cl Z.ca Z.cn Z.ct Z.cm), Z.one, _, rfl, iteF k⟩
/-- of a shape and what is no tree -/
def spBad (K : PySem.W.Frag) (C CS : Addr) : Sp := fun vs H Q E => ∃ sv v, vs = [sv, v] ∧ InS CS H sv ∧ BadT K H v ∧ Says C v H E
theorem s99 : FnScope ["shape", "tree"] ["shape", "tree"] (defScope (top 99)) := (⟨rfl, rfl, rfl, by decide +kernel, rfl, by decide +kernel, by decide +kernel⟩)
theorem c_rat (D : Df K mg "ratio" (top 99)) (CK : Cal P w K mg base 1 "check_shape" ["value"] (spCS CS)) (CC : CalX P w K mg base 3 "checked" ["tree"] (spChk K C)) (CN : Cal P w K mg base 1 "node_ratio" ["shape", "node"] (fun _ _ _ _ => False)) : CalX P w K mg base 4 "ratio" ["shape", "tree"] (spBad K C CS) := by
  refine mkX D s99 (fun _ _ _ _ _ _ us hl => match us, hl with | [_, _], _ => rfl) (fun vs H Q E h => ?_) (fun f cdv A outer s H vs Q E hr h => ?_)
  · obtain ⟨sv, v, rfl, _⟩ := h
    rfl
  obtain ⟨sv, v, rfl, hs, bad, k⟩ := h
  refine ⟨_, pss_cons (ps_expr (pe_cl CK hr (by decide) (pa_cons (pv 0) pa_nil))) (pss_one (ps_ret (pe_cl CN hr (by decide) (pa_cons (pv 0) (pa_cons (pe_cx CC hr (by decide) (passes_call (takes_of rfl rfl rfl rfl) (fun _ _ _ _ h => h)) (pa_cons (pv 1) pa_nil)) pa_nil))))), ?_⟩
  exact ⟨_, rfl, sv, rfl, hs, _, rfl, _, rfl, v, rfl, .inr ⟨bad, k⟩⟩
theorem s100 : FnScope ["shape", "tree", "node", "nought"] ["shape", "tree"] (defScope (top 100)) := (⟨rfl, rfl, rfl, by decide +kernel, rfl, by decide +kernel, by decide +kernel⟩)
theorem c_lai (D : Df K mg "laid" (top 100)) (CK : Cal P w K mg base 1 "check_shape" ["value"] (spCS CS)) (CC : CalX P w K mg base 3 "checked" ["tree"] (spChk K C)) (CN : Cal P w K mg base 1 "number_of" ["shape", "fraction"] (fun _ _ _ _ => False)) : CalX P w K mg base 4 "laid" ["shape", "tree"] (spBad K C CS) := by
  refine mkX D s100 (fun _ _ _ _ _ _ us hl => match us, hl with | [_, _], _ => rfl) (fun vs H Q E h => ?_) (fun f cdv A outer s H vs Q E hr h => ?_)
  · obtain ⟨sv, v, rfl, _⟩ := h
    rfl
  obtain ⟨sv, v, rfl, hs, bad, k⟩ := h
  refine ⟨_, pss_cons (ps_expr (pe_cl CK hr (by decide) (pa_cons (pv 0) pa_nil)))
    (pss_cons (ps_par (i := 2) (j := 3) rfl s100.nd rfl rfl (by decide) rfl rfl (pa_cons (pe_cx CC hr (by decide) (passes_call (takes_of rfl rfl rfl rfl) (fun _ _ _ _ h => h)) (pa_cons (pv 1) pa_nil))
        (pa_cons (pe_cl CN hr (by decide) (pa_cons (pv 0) (pa_cons (pe_tup (pa_cons pe_int (pa_cons pe_int pa_nil))) pa_nil))) pa_nil)) rfl) pss_nv), ?_⟩
  exact ⟨_, rfl, sv, rfl, hs, _, rfl, v, rfl, .inr ⟨bad, k⟩⟩
theorem s101 : FnScope ["tree", "node", "top", "bottom"] ["tree"] (defScope (top 101)) := (⟨rfl, rfl, rfl, by decide +kernel, rfl, by decide +kernel, by decide +kernel⟩)
def spSho (K : PySem.W.Frag) (C : Addr) : Sp := fun vs H Q E => ∃ v, vs = [v] ∧ BadT K H v ∧ Says C v H E
theorem c_sho (D : Df K mg "shapes_of" (top 101)) (CC : CalX P w K mg base 3 "checked" ["tree"] (spChk K C)) : CalX P w K mg base 4 "shapes_of" ["tree"] (spSho K C) := by
  refine mkX D s101 (fun _ _ _ _ _ _ us hl => match us, hl with | [_], _ => rfl) (fun vs H Q E h => ?_) (fun f cdv A outer s H vs Q E hr h => ?_)
  · obtain ⟨v, rfl, _⟩ := h
    rfl
  obtain ⟨v, rfl, bad, k⟩ := h
  refine ⟨_, pss_cons ((ps_set (i := 1) (FnScope.nd s101) rfl (Or.inl rfl) (pe_cx CC hr (by decide) (passes_call (takes_of rfl rfl rfl rfl) (fun _ _ _ _ h => h)) (pa_cons (pv 0) pa_nil)))) pss_nv, ?_⟩
  exact ⟨_, rfl, v, rfl, .inr ⟨bad, k⟩⟩
end
end Zq

/-! The law's own reader. -/
namespace Zq
open PySem PySem.Spec PyProof.Rows L2 SX Tq Xk
def bf (p : Option Nat) : List Nat := match p with
  | none => []
  | some c => [c]
theorem in_end (p : Option Nat) : inV (.str (S (bf p))) [.str "l", .str "s", .str "]", .str ")"] = endE p := by
  rw [sl, ss, sc1, sc2]
  simp only [inV, eqV, List.any_cons, List.any_nil, Bool.or_false, S_beq_eq]
  cases p with
  | none => rfl
  | some c =>
    unfold bf endE isE
    have e : ∀ x : Nat, decide ([x] = [c]) = decide (c = x) := fun x => by
      by_cases h : x = c
      · simp [h]
      · have h2 : c ≠ x := fun z => h z.symm
        simp [h, h2]
    simp only [e]
    by_cases h1 : c = 108 <;> by_cases h2 : c = 115 <;> by_cases h3 : c = 93 <;> by_cases h4 : c = 41 <;> simp [h1, h2, h3, h4]
theorem cut0 {l : List Nat} (h : 1 ≤ l.length) : cutS (S l) (some (-1)) (some 0) = S [] := by
  unfold cutS
  rw [S_len]
  have e1 : HT.sIx l.length l.length (some 0) = 0 := by
    have := HT.sIx_nat l.length l.length 0
    rw [Nat.zero_min] at this
    exact this
  rw [e1, Nat.zero_sub, List.take_zero]
theorem cut1 {l : List Nat} {i c : Nat} (h : l[i]? = some c) : cutS (S l) (some ((i : Nat) : Int)) (some (((i + 1 : Nat)) : Int)) = S [c] := by
  have hi : i < l.length := by
    rw [List.getElem?_eq_some_iff] at h
    exact h.1
  unfold cutS
  rw [S_len, HT.sIx_nat, HT.sIx_nat, Nat.min_eq_left (by omega), Nat.min_eq_left (by omega)]
  have e : i + 1 - i = 1 := by omega
  rw [e]
  show (⟨((l.drop i).take 1).toArray⟩ : Str) = S [c]
  rw [List.drop_eq_getElem_cons hi]
  rw [List.getElem?_eq_getElem hi] at h
  rw [Option.some.inj h]
  rfl
def StA (H : Hp) : List V → List (Bool × Nat) → Prop := PySem.W.EachIs (fun x b => ∃ t, x = V.ref t ∧ H t = some (.tup [.str (S [oc b.1]), .int ((b.2 : Nat) : Int)]))
theorem StA.kt {H H' : Hp} {xs : List V} {bs : List (Bool × Nat)} (k : KT H H') (h : StA H xs bs) : StA H' xs bs := PySem.W.EachIs.mono (fun _ _ ⟨t, e, q⟩ => ⟨t, e, k _ _ q⟩) h
theorem each_snoc {α β : Type} {R : α → β → Prop} : ∀ {as : List α} {bs : List β} {a : α} {b : β}, PySem.W.EachIs R as bs → R a b → PySem.W.EachIs R (as ++ [a]) (bs ++ [b])
  | _, _, _, _, .nil, h => .cons h .nil
  | _, _, _, _, .cons x r, h => .cons x (each_snoc r h)
theorem each_last {α β : Type} {R : α → β → Prop} : ∀ {bs : List β} {as : List α} {b : β}, PySem.W.EachIs R as (bs ++ [b]) → ∃ as' a, as = as' ++ [a] ∧ PySem.W.EachIs R as' bs ∧ R a b
  | [], _, _, h => by
    cases h with
    | cons h r =>
      cases r
      exact ⟨[], _, rfl, .nil, h⟩
  | c :: bs, _, _, h => by
    cases h with
    | cons h r =>
      obtain ⟨as', a, rfl, h1, h2⟩ := each_last r
      exact ⟨_ :: as', a, rfl, .cons h h1, h2⟩
structure PlA (H0 H : Hp) (P : Addr) (s : LS) (n : Nat) (ts : List V) : Prop where
  same : Same H0 H
  new : H0 P = none
  at_ : H P = some (.lst (.int ((s.c0 : Nat) : Int) :: ts))
  st : StA H ts s.st.reverse
  len : s.st.length ≤ n
theorem PlA.mk_new {H0 H : Hp} {P : Addr} {s : LS} {n : Nat} {ts : List V} {p : Addr} {o : HO} (h : PlA H0 H P s n ts) (hp : H p = none) : PlA H0 (upd H p o) P s n ts :=
  ⟨h.same.trans (same_new hp), h.new, by rw [upd_ne (ne_of_none h.at_ hp)]; exact h.at_, h.st.kt (KT.new hp), h.len⟩
theorem PlA.dp {K : PySem.W.Frag} {H0 H : Hp} {P : Addr} {s : LS} {n : Nat} {ts : List V} (h : PlA H0 H P s n ts) : Dp K H (.ref P) (.list (.int ((s.c0 : Nat) : Int) :: s.st.reverse.map fun b => .tuple [.str (S [oc b.1]), .int ((b.2 : Nat) : Int)])) := by
  refine .lst (SqL.of h.at_) (.cons (.int _) ?_)
  have : ∀ {xs : List V} {bs : List (Bool × Nat)}, StA H xs bs → DpAll K H xs (bs.map fun b => .tuple [.str (S [oc b.1]), .int ((b.2 : Nat) : Int)]) := by
    intro xs bs h
    induction h with
    | nil => exact .nil
    | cons h _ ih =>
      obtain ⟨t, rfl, e⟩ := h
      exact .cons (.tup (SqT.of e) (.cons (.str _) (.cons (.int _) .nil))) ih
  exact this h.st
theorem pl_sh (c : Nat) (bs : List (Bool × Nat)) : SeqAt.shaped (.list (.int ((c : Nat) : Int) :: bs.map fun b => .tuple [.str (S [oc b.1]), .int ((b.2 : Nat) : Int)])) = true := by
  have e1 : ∀ bs : List (Bool × Nat), PyData.canLayAll0 (bs.map fun b => .tuple [.str (S [oc b.1]), .int ((b.2 : Nat) : Int)]) = true := by
    intro bs
    induction bs with
    | nil => rfl
    | cons b r ih =>
      show ((PyData.canLay0 (.str (S [oc b.1])) && (true && true)) && PyData.canLayAll0 (r.map fun b => .tuple [.str (S [oc b.1]), .int ((b.2 : Nat) : Int)])) = true
      rw [ih]
      cases b.1 <;> decide +kernel
  have e2 : ∀ bs : List (Bool × Nat), PyData.depthAll (bs.map fun b => PyData.tuple [.str (S [oc b.1]), .int ((b.2 : Nat) : Int)]) ≤ 1 := by
    intro bs
    induction bs with
    | nil => simp [PyData.depthAll]
    | cons b r ih =>
      simp only [List.map_cons, PyData.depthAll, PyData.depth]
      omega
  unfold SeqAt.shaped
  rw [Bool.and_eq_true]
  refine ⟨?_, decide_eq_true ?_⟩
  · show (true && PyData.canLayAll0 (bs.map fun b => .tuple [.str (S [oc b.1]), .int ((b.2 : Nat) : Int)])) = true
    rw [e1 bs]
    rfl
  · have := e2 bs
    simp only [PyData.depth, PyData.depthAll]
    omega
theorem pl_eqv (c : Nat) (bs : List (Bool × Nat)) : PyData.eqv (.list (.int ((c : Nat) : Int) :: bs.map fun b => .tuple [.str (S [oc b.1]), .int ((b.2 : Nat) : Int)])) (.list [.int 1]) = decide (bs = [] ∧ c = 1) := by
  cases bs with
  | nil =>
    simp only [List.map_nil, PyData.eqv, PyData.eqvAll, Bool.and_true]
    by_cases h : c = 1
    · subst h
      rfl
    · have : ¬ ((c : Nat) : Int) = 1 := by omega
      simp [h, this]
  | cons b r => simp [PyData.eqv, PyData.eqvAll]
theorem clo_disp2 (b : Bool) : valV (mergeK [] [((Sum.inr "]" : Key), V.str "["), ((Sum.inr ")" : Key), V.str "(")]) (Sum.inr (S [cc b])) = some (.str (S [oc b])) := by
  cases b <;> decide +kernel
theorem cut_last (xs : List V) (x : V) : cutV (xs ++ [x]) none (some (-1)) = xs := by
  unfold cutV
  rw [HT.sIx_none]
  have e : HT.sIx (xs ++ [x]).length (xs ++ [x]).length (some (-1)) = xs.length := by
    rw [List.length_append, List.length_singleton]
    simp [HT.sIx]
    try omega
  rw [e]
  simp
section
variable {P : Program} {w : World} {K : PySem.W.Frag} {mg : Str → Option Value} {base : Heap}
abbrev nRd : List Str := ["_law_said_here", "_law_pile", "_law_many", "_law_at", "_law_sign", "_law_before"]
theorem s113 : FnScope nRd ["_law_said_here"] (defScope (top 113)) := (⟨rfl, rfl, rfl, by decide +kernel, rfl, by decide +kernel, by decide +kernel⟩)
abbrev spRd : Sp := Prx (α := List Nat) (fun l => [.str (S l)]) (fun l H Q => l.length ≤ 5000 ∧ ∀ H', Same H H' → Q (.int ((lrun ⟨0, [], 0⟩ none l : Nat) : Int)) H')
theorem c_rd (D : Df K mg "_law_reads" (top 113)) (B : Bl w K mg) : Cal P w K mg base 1 "_law_reads" ["_law_said_here"] spRd := by
  refine mkC D s113 (fun _ _ _ _ _ _ us hl => match us, hl with | [_], _ => rfl) (fun _ => rfl) (fun f cdv A outer s H l Q E hr k => ?_)
  obtain ⟨ll, k⟩ := k
  have ll : l.length ≤ 5000 := ll
  have hu1 : (A.deeper (envOfC "_law_reads" (defScope (top 113)) s.heap.objs.size f cdv)).units + 1 < cLine := by have := hr.un; omega
  have hu2 : (A.deeper (envOfC "_law_reads" (defScope (top 113)) s.heap.objs.size f cdv)).units + 64 < cLine := by have := hr.un; omega
  have big : 20000 < sizeLine := by decide
  refine ⟨_, pss_cons (ps_par (i := 1) (j := 2) rfl s113.nd rfl rfl (by decide) rfl rfl (pa_cons (pe_lst (pa_cons pe_int pa_nil)) (pa_cons pe_int pa_nil)) rfl)
    (pss_cons (ps_for PassesOwn.never rfl (pi_range1 (by rfl) B.range_ (pa_cons (pe_callB call_len_str (by rfl) B.len_ PySem.boot_len (pa_cons (pv 0) pa_nil)) pa_nil)) ((pg_name (i := 3) (FnScope.nd s113) rfl (Or.inl rfl)))
      (pss_cons (ps_par (i := 4) (j := 5) rfl s113.nd rfl rfl (by decide) rfl rfl (pa_cons (pe_ix ix_str (pv 0) (pv 3) (fun _ _ => rfl)) (pa_cons (pe_slice sl_str (pv 0) (po_some (pe_op op_sub (pv 3) pe_int)) (po_some (pv 3))) pa_nil)) rfl)
      (pss_one (ps_if ((pt_cmpR op_eq (pv 4) pe_str (nomark _)))
        (pss_one (ps_if (PW.pt (pw_or (pt_cmpR op_notIn_seq (pv 5) (pe_lst (pa_cons pe_str (pa_cons pe_str (pa_cons pe_str (pa_cons pe_str pa_nil))))) (by rfl)) (pw_or ((pt_cmpR op_eq (pe_op op_add (pv 3) pe_int) (pe_callB call_len_str (by rfl) B.len_ PySem.boot_len (pa_cons (pv 0) pa_nil)) (nomark _)))
            (pw_or (pt_cmpR op_in_sign (pe_ix ix_str (pv 0) (pe_op op_add (pv 3) pe_int) (fun _ _ => rfl)) pe_str (by rfl)) (pw_or1 ((pt_cmpR op_lt ((pe_callB call_len_seq (by rfl) (Bl.len_ B) PySem.boot_len (pa_cons (pv 1) pa_nil))) pe_int (nomark _))))))))
          (pss_one (ps_ret pe_int)) pss_nil))
        (pss_one (ps_if (pt_cmpR op_in_sign (pv 4) pe_str (by rfl))
          (pss_cons (ps_if (pt_cmpR op_in_seq (pv 5) (pe_lst (pa_cons pe_str (pa_cons pe_str (pa_cons pe_str (pa_cons pe_str pa_nil))))) (by rfl)) (pss_one (ps_ret pe_int)) pss_nil)
          (pss_cons (ps_asg (pe_ifExp (pt_val (pe_isi (v := .ty "int") (by rfl) B.isinstance_ ((pe_ix ix_list (pv 1) (pe_un un_neg pe_int) (fun _ _ => rfl))) (by rfl) B.int_ PyProof.Rows.boot_int rfl)) (pe_op op_add ((pe_ix ix_list (pv 1) (pe_un un_neg pe_int) (fun _ _ => rfl))) pe_int) (pe_tup (pa_cons ((pe_ix ix_tup ((pe_ix ix_list (pv 1) (pe_un un_neg pe_int) (fun _ _ => rfl))) pe_int (fun _ _ => rfl))) (pa_cons (pe_op op_add ((pe_ix ix_tup ((pe_ix ix_list (pv 1) (pe_un un_neg pe_int) (fun _ _ => rfl))) pe_int (fun _ _ => rfl))) pe_int) pa_nil))))
              (pg_sub (pv 1) (pe_un un_neg pe_int) set_list (fun _ => rfl)))
          (pss_cons ((ps_set (i := 2) (FnScope.nd s113) rfl (Or.inl rfl) (pe_op op_add (pv 2) (pe_callTy call_int1 (by rfl) B.int_ PyProof.Rows.boot_int (pa_cons (pe_cmpR op_in_sign (pv 4) pe_str (by rfl)) pa_nil)))))
          (pss_one ((ps_set (i := 1) (FnScope.nd s113) rfl (Or.inl rfl) (pe_op op_cat (pv 1) (pe_ifExp (pt_cmpR op_in_sign (pv 4) pe_str (by rfl)) (pe_lst (pa_cons (pe_tup (pa_cons (pv 4) (pa_cons pe_int pa_nil))) pa_nil)) (pe_lst pa_nil)))))))))
        (pss_one (ps_if (pt_cmpR op_in_sign (pv 4) pe_str (by rfl))
          (pss_cons (ps_if (PW.pt (pw_or ((pt_cmpR op_lt ((pe_callB call_len_seq (by rfl) (Bl.len_ B) PySem.boot_len (pa_cons (pv 1) pa_nil))) pe_int (nomark _))) (pw_or ((pt_cmpR op_ne ((pe_ix ix_tup ((pe_ix ix_list (pv 1) (pe_un un_neg pe_int) (fun _ _ => rfl))) pe_int (fun _ _ => rfl))) (pe_dget hu1 (pe_disp (pps_cons pe_str pe_str (pps_cons pe_str pe_str pps_nil)) rfl rfl (by decide) (by decide)) (pv 4) (fun _ _ => rfl)) (nomark _))) (pw_or1 ((pt_cmpR op_lt ((pe_ix ix_tup ((pe_ix ix_list (pv 1) (pe_un un_neg pe_int) (fun _ _ => rfl))) pe_int (fun _ _ => rfl))) pe_int (nomark _)))))))
              (pss_one (ps_ret pe_int)) pss_nil)
            (pss_one ((ps_set (i := 1) (FnScope.nd s113) rfl (Or.inl rfl) (pe_slice sl_list (pv 1) po_none (po_some (pe_un un_neg pe_int)))))))
          (pss_one (ps_ret pe_int))))))))))
    (pss_one (ps_ret (pe_ifExp (PW.pt (pw_and (pt_cmpR (op_eqD hu2) (pv 1) (pe_lst (pa_cons pe_int pa_nil)) (nomark _)) (pw_and1 ((pt_cmpR op_lt (pv 2) pe_int (nomark _)))))) (pv 2) pe_int)))), ?_⟩
  have e0 : L2.start nRd [V.str (S l)] = [some (.str (S l)), none, none, none, none, none] := rfl
  rw [e0]
  refine ⟨(by show 1 ≤ sizeLine; decide), fun P0 nP => ⟨_, _, rfl, ?_⟩⟩
  have hlen : (S l).length = l.length := S_len l
  have kz : lrun ⟨0, [], 0⟩ none l = 0 → ∀ H', Same H H' → Q (.int 0) H' := fun e H' s1 => by
    have := k H' s1
    rw [e] at this
    exact this
  refine ⟨_, rfl, _, rfl, by omega, _, rfl, by omega, by omega, for_range (n := (S l).length) (fun i σ H' => ∃ (s : LS) (P : Addr) (ts : List V) (z3 z4 z5 : Option V) (p : Option Nat), σ = [some (.str (S l)), some (.ref P), some (.int ((s.many : Nat) : Int)), z3, z4, z5] ∧ PlA H H' P s i ts ∧ (i = 0 → p = none) ∧ (∀ j, i = j + 1 → p = l[j]?) ∧ lrun s p (l.drop i) = lrun ⟨0, [], 0⟩ none l)
    ⟨⟨0, [], 0⟩, P0, [], none, none, none, none, rfl, ⟨same_new nP, nP, upd_same, .nil, Nat.le_refl _⟩, fun _ => rfl, fun j e => by omega, rfl⟩ ?_ ?_⟩
  · rintro i σ H1 hi ⟨s, P, ts, z3, z4, z5, p, rfl, W, hp0, hp1, hrun⟩
    rw [hlen] at hi
    have hc : l[i]? = some l[i] := List.getElem?_eq_getElem hi
    generalize l[i] = c at hc
    have hd : l.drop i = c :: l.drop (i + 1) := by
      rw [List.drop_eq_getElem_cons hi]
      rw [List.getElem?_eq_getElem hi] at hc
      rw [Option.some.inj hc]
    rw [hd, lrun] at hrun
    have hcut : cutS (S l) (some (0 + (i : Int) - 1)) (some (0 + (i : Int))) = S (bf p) := by
      cases i with
      | zero =>
        rw [hp0 rfl]
        exact cut0 (by omega)
      | succ j =>
        have hj : j < l.length := by omega
        have e := hp1 j rfl
        rw [List.getElem?_eq_getElem hj] at e
        rw [e]
        have q := cut1 (l := l) (i := j) (List.getElem?_eq_getElem hj)
        have e1 : 0 + ((j + 1 : Nat) : Int) - 1 = ((j : Nat) : Int) := by omega
        have e2 : 0 + ((j + 1 : Nat) : Int) = ((j + 1 : Nat) : Int) := by omega
        rw [e1, e2]
        exact q
    have next : ∀ s' : LS, lst s p c (l.drop (i + 1)) = some s' → lrun s' (some c) (l.drop (i + 1)) = lrun ⟨0, [], 0⟩ none l := fun s' e => by
      rw [e] at hrun
      exact hrun
    have fail : lst s p c (l.drop (i + 1)) = none → lrun ⟨0, [], 0⟩ none l = 0 := fun e => by
      rw [e] at hrun
      exact hrun.symm
    have hn1 : ∀ j, i + 1 = j + 1 → some c = l[j]? := fun j e => by
      have : j = i := by omega
      rw [this, hc]
    have szt : ts.length = s.st.length := by
      have := W.st.length
      rw [List.length_reverse] at this
      exact this
    have szs := W.len
    refine ⟨_, rfl, _, rfl, S l, _, c, rfl, rfl, by omega, (by rw [Int.zero_add]; exact atI_nat hc), _, rfl, _, rfl, _, _, rfl, rfl, _, rfl, _, rfl, _, rfl, S l, rfl, by omega, _, _, rfl, ?_⟩
    rw [hcut]
    refine ⟨_, rfl, rfl, _, rfl, ite2 (fun hb => ?_) (fun hb => ?_)⟩
    · have h32 : c = 32 := one_eq (of_decide_eq_true hb)
      subst h32
      refine ⟨_, rfl, (by show 4 ≤ sizeLine; decide), fun q nq => ⟨q, _, rfl, .inl (SqL.of upd_same), rfl, rfl, _, rfl, ?_⟩⟩
      have W2 := W.mk_new (o := .lst [.str "l", .str "s", .str "]", .str ")"]) nq
      show if (!inV (.str (S (bf p))) [.str "l", .str "s", .str "]", .str ")"]) = true then _ else _
      rw [in_end]
      cases he : endE p with
      | false => exact iteT (iteT (kz (fail (by rw [lst, if_pos rfl, if_pos (.inl he)])) _ W2.same))
      | true =>
        refine iteF ⟨_, rfl, _, _, rfl, rfl, _, rfl, _, rfl, by omega, rfl, _, rfl, ite2 (fun hb2 => ?_) (fun hb2 => ?_)⟩
        · have hl : l.drop (i + 1) = [] := by
            have q := of_decide_eq_true hb2
            injection q with q
            exact List.drop_eq_nil_of_le (by omega)
          exact iteT (kz (fail (by rw [lst, if_pos rfl, if_pos (.inr (.inl hl))])) _ W2.same)
        · have hl : i + 1 < l.length := by
            have q : ¬ (0 + (i : Int) + 1 = (((S l).length : Nat) : Int)) := fun z => hb2 (decide_eq_true (congrArg V.int z))
            omega
          have hd1 : l[i + 1]? = some l[i + 1] := List.getElem?_eq_getElem hl
          generalize l[i + 1] = d at hd1
          have hdd : (l.drop (i + 1)).head? = some d := by
            rw [List.head?_drop, hd1]
          have e7 : 0 + (i : Int) + 1 = ((i + 1 : Nat) : Int) := by omega
          refine ⟨_, rfl, _, rfl, _, _, rfl, rfl, S l, _, d, rfl, rfl, by omega, (by rw [e7]; exact atI_nat hd1), d, _, rfl, rfl, _, rfl, ?_⟩
          have ec : (" ])" : Str).cps.toList = [32, 93, 41] := by decide
          rw [ec]
          refine ite2 (fun hb3 => ?_) (fun hb3 => ?_)
          · have hx : d = 32 ∨ d = 93 ∨ d = 41 := by simpa using hb3
            exact iteT (kz (fail (by rw [lst, if_pos rfl, if_pos (.inr (.inr (.inl ⟨d, hdd, hx⟩)))])) _ W2.same)
          · have hx : ¬ (d = 32 ∨ d = 93 ∨ d = 41) := by simpa using hb3
            refine ⟨_, rfl, P, _, rfl, .inl (SqL.of W2.at_), _, _, rfl, rfl, _, rfl, ?_⟩
            by_cases hst : s.st = []
            · have ht : ts = [] := by
                rw [hst] at szt
                exact List.length_eq_zero_iff.mp szt
              rw [ht]
              exact iteT (kz (fail (by rw [lst, if_pos rfl, if_pos (.inr (.inr (.inr hst)))])) _ W2.same)
            · have h2 : ¬ (((V.int ((s.c0 : Nat) : Int) :: ts).length : Nat) : Int) < 2 := by
                have : 0 < s.st.length := List.length_pos_iff.mpr hst
                rw [List.length_cons, szt]
                omega
              rw [decide_eq_false h2]
              refine iteF ⟨s, P, ts, _, _, _, some 32, rfl, ⟨W2.same, W2.new, W2.at_, W2.st, Nat.le_succ_of_le W2.len⟩, nofun, hn1, next s ?_⟩
              rw [lst, if_pos rfl, if_neg]
              rintro (z | z | ⟨d', z1, z2⟩ | z)
              · rw [he] at z; cases z
              · rw [z] at hdd; cases hdd
              · rw [hdd] at z1
                cases z1
                exact hx z2
              · exact hst z
    · have n32 : ¬ c = 32 := fun e => hb (decide_eq_true (by rw [e, s_sp]))
      refine ⟨_, rfl, c, _, rfl, rfl, _, rfl, ?_⟩
      have ec1 : ("ls[(" : Str).cps.toList = [108, 115, 91, 40] := by decide
      have ec2 : ("])" : Str).cps.toList = [93, 41] := by decide
      have ec3 : ("ls" : Str).cps.toList = [108, 115] := by decide
      have ec4 : ("[(" : Str).cps.toList = [91, 40] := by decide
      rw [ec1]
      refine ite2 (fun hb2 => ?_) (fun hb2 => ?_)
      · have hx : (c = 108 ∨ c = 115) ∨ (c = 91 ∨ c = 40) := by
          have : c = 108 ∨ c = 115 ∨ c = 91 ∨ c = 40 := by simpa using hb2
          rcases this with z | z | z | z
          · exact .inl (.inl z)
          · exact .inl (.inr z)
          · exact .inr (.inl z)
          · exact .inr (.inr z)
        refine ⟨_, rfl, (by show 4 ≤ sizeLine; decide), fun q nq => ⟨q, _, rfl, .inl (SqL.of upd_same), rfl, rfl, _, rfl, ?_⟩⟩
        have W2 := W.mk_new (o := .lst [.str "l", .str "s", .str "]", .str ")"]) nq
        show if (inV (.str (S (bf p))) [.str "l", .str "s", .str "]", .str ")"]) = true then _ else _
        rw [in_end]
        cases he : endE p with
        | true =>
          refine iteT (kz (fail ?_) _ W2.same)
          rw [lst, if_neg n32]
          rcases hx with z | z
          · rw [if_pos z, if_pos he]
          · rw [if_neg (by rcases z with z | z <;> subst z <;> decide), if_pos z, if_pos he]
        | false =>
          refine iteF ?_
          have hP : upd H1 q (.lst [.str "l", .str "s", .str "]", .str ")"]) P = some (.lst (.int ((s.c0 : Nat) : Int) :: ts)) := W2.at_
          have opA : s.st = [] ∨ ∃ bt n r ts' t, s.st = (bt, n) :: r ∧ ts = ts' ++ [V.ref t] ∧ StA (upd H1 q (.lst [.str "l", .str "s", .str "]", .str ")"])) ts' r.reverse ∧ upd H1 q (.lst [.str "l", .str "s", .str "]", .str ")"]) t = some (.tup [.str (S [oc bt]), .int ((n : Nat) : Int)]) := by
            cases hs : s.st with
            | nil => exact .inl rfl
            | cons b r =>
              have q2 := W2.st
              rw [hs, List.reverse_cons] at q2
              obtain ⟨as', a, e1, e2, t, e3, e4⟩ := each_last q2
              exact .inr ⟨b.1, b.2, r, as', t, rfl, by rw [e1, e3], e2, e4⟩
          rcases opA with hst | ⟨bt, n, rr, ts', t, hst, hts, hstA, hT⟩
          case' inl =>
            have ht : ts = [] := by
              rw [hst] at szt
              exact List.length_eq_zero_iff.mp szt
            rw [ht] at hP
            refine ⟨_, rfl, _, rfl, P, [.int ((s.c0 : Nat) : Int)], -1, _, rfl, rfl, SqL.of hP, atI_last [] _, _, _, _, _, true, rfl, .ty _, .base (.int _), kit_ty (by decide +kernel), _, rfl, iteT ?_⟩
            refine ⟨_, rfl, _, rfl, P, [.int ((s.c0 : Nat) : Int)], -1, _, rfl, rfl, SqL.of hP, atI_last [] _, _, _, rfl, rfl, ?_⟩
            refine ⟨_, rfl, _, rfl, P, [.int ((s.c0 : Nat) : Int)], -1, 0, rfl, rfl, hP, rfl, ?_⟩
            obtain ⟨ts3, W3⟩ : ∃ ts3, PlA H (upd (upd H1 q (.lst [.str "l", .str "s", .str "]", .str ")"])) P (.lst [.int ((s.c0 : Nat) + 1 : Int)])) P s.inc i ts3 := by
              refine ⟨[], same_put W2.same W2.new, W2.new, ?_, ?_, ?_⟩
              · refine upd_same.trans ?_
                unfold LS.inc
                rw [hst]
                rfl
              · unfold LS.inc
                rw [hst]
                exact .nil
              · unfold LS.inc
                rw [hst]
                exact Nat.zero_le _
            have W3 : PlA H (upd (upd H1 q (.lst [.str "l", .str "s", .str "]", .str ")"])) P (.lst ([V.int ((s.c0 : Nat) : Int)].set 0 ((fun i j => V.int (i + j)) ((s.c0 : Nat) : Int) 1)))) P s.inc i ts3 := W3
            generalize upd (upd H1 q (.lst [.str "l", .str "s", .str "]", .str ")"])) P (.lst ([V.int ((s.c0 : Nat) : Int)].set 0 ((fun i j => V.int (i + j)) ((s.c0 : Nat) : Int) 1))) = H3 at W3 ⊢
          case' inr =>
            rw [hts] at hP
            have hP2 : upd H1 q (.lst [.str "l", .str "s", .str "]", .str ")"]) P = some (.lst ((V.int ((s.c0 : Nat) : Int) :: ts') ++ [V.ref t])) := hP
            refine ⟨_, rfl, _, rfl, P, _, -1, _, rfl, rfl, SqL.of hP2, atI_last _ _, _, _, _, _, false, rfl, .ty _, .base (.tup hT), kit_ty (by decide +kernel), _, rfl, iteF ?_⟩
            refine ⟨_, rfl, _, rfl, P, _, -1, _, rfl, rfl, SqL.of hP2, atI_last _ _, t, _, 0, _, rfl, rfl, SqT.of hT, atI_nat (j := 0) rfl, _, rfl, _, rfl, P, _, -1, _, rfl, rfl, SqL.of hP2, atI_last _ _, t, _, 1, _, rfl, rfl, SqT.of hT, atI_nat (j := 1) rfl, _, _, rfl, rfl, (by show 2 ≤ sizeLine; decide), fun u nu => ?_⟩
            have nPu : P ≠ u := ne_of_none hP2 nu
            have eset : ((V.int ((s.c0 : Nat) : Int) :: ts') ++ [V.ref t]).set (ts'.length + 1) (.ref u) = (V.int ((s.c0 : Nat) : Int) :: (ts' ++ [V.ref u])) := by
              simp
            refine ⟨_, rfl, _, rfl, P, _, -1, ts'.length + 1, rfl, rfl, by rw [upd_ne nPu]; exact hP2, ?_, ?_⟩
            · unfold ixN
              rw [if_neg (by decide), if_pos (by simp; omega)]
              simp
              omega
            rw [eset]
            obtain ⟨ts3, W3⟩ : ∃ ts3, PlA H (upd (upd (upd H1 q (.lst [.str "l", .str "s", .str "]", .str ")"])) u (.tup [.str (S [oc bt]), (fun i j => V.int (i + j)) ((n : Nat) : Int) 1])) P (.lst (V.int ((s.c0 : Nat) : Int) :: (ts' ++ [V.ref u])))) P s.inc i ts3 := by
              have kt1 := KT.new (o := .tup [.str (S [oc bt]), (fun i j => V.int (i + j)) ((n : Nat) : Int) 1]) nu
              have kt2 : KT (upd (upd H1 q (.lst [.str "l", .str "s", .str "]", .str ")"])) u (.tup [.str (S [oc bt]), (fun i j => V.int (i + j)) ((n : Nat) : Int) 1])) (upd (upd (upd H1 q (.lst [.str "l", .str "s", .str "]", .str ")"])) u (.tup [.str (S [oc bt]), (fun i j => V.int (i + j)) ((n : Nat) : Int) 1])) P (.lst (V.int ((s.c0 : Nat) : Int) :: (ts' ++ [V.ref u])))) :=
                KT.put (xs := (V.int ((s.c0 : Nat) : Int) :: ts') ++ [V.ref t]) (by rw [upd_ne nPu]; exact hP2)
              refine ⟨ts' ++ [V.ref u], same_put (W2.same.trans (same_new nu)) W2.new, W2.new, ?_, ?_, ?_⟩
              · refine upd_same.trans ?_
                unfold LS.inc
                rw [hst]
              · unfold LS.inc
                rw [hst]
                show StA _ _ ((bt, n + 1) :: rr).reverse
                rw [List.reverse_cons]
                refine each_snoc (hstA.kt (kt1.trans kt2)) ⟨u, rfl, ?_⟩
                rw [upd_ne (Ne.symm nPu)]
                exact upd_same
              · unfold LS.inc
                rw [hst]
                have := W.len
                rw [hst] at this
                exact this
            generalize upd (upd (upd H1 q (.lst [.str "l", .str "s", .str "]", .str ")"])) u (.tup [.str (S [oc bt]), (fun i j => V.int (i + j)) ((n : Nat) : Int) 1])) P (.lst (V.int ((s.c0 : Nat) : Int) :: (ts' ++ [V.ref u]))) = H3 at W3 ⊢
          all_goals
            have em : s.inc.many = s.many := by
              unfold LS.inc
              cases s.st <;> rfl
            have el3 : s.inc.st.length ≤ i := W3.len
            have et3 : ts3.length = s.inc.st.length := by
              have := W3.st.length
              rw [List.length_reverse] at this
              exact this
            refine ⟨_, rfl, _, rfl, c, _, rfl, rfl, .inr ⟨_, rfl, _, _, rfl, rfl, ?_⟩⟩
            refine ⟨_, rfl, _, rfl, c, _, rfl, rfl, _, rfl, ?_⟩
            rw [ec3, ec4]
            by_cases hO : c = 91 ∨ c = 40
            · have nL : ¬ (c = 108 ∨ c = 115) := by rcases hO with z | z <;> subst z <;> decide
              rw [decide_eq_true (show c ∈ [91, 40] by simpa using hO), decide_eq_false (show ¬ c ∈ [108, 115] by simpa using nL)]
              refine iteT ⟨_, rfl, (by show 2 ≤ sizeLine; decide), fun t2 nt2 => ⟨(by show 1 ≤ sizeLine; decide), fun l2 nl2 => ?_⟩⟩
              have W4 := (W3.mk_new (o := .tup [.str ⟨#[c]⟩, .int 0]) nt2).mk_new (o := .lst [.ref t2]) nl2
              have ntl : t2 ≠ l2 := fun z => by rw [← z, upd_same] at nl2; cases nl2
              refine ⟨P, l2, _, _, rfl, rfl, W4.at_, upd_same, by rw [List.length_cons, List.length_singleton]; omega, fun P2 nP2 => ?_⟩
              have W5 := W4.mk_new (o := .lst (V.int ((s.inc.c0 : Nat) : Int) :: ts3 ++ [V.ref t2])) nP2
              have ntP : t2 ≠ P2 := ne_of_none (show upd (upd H3 t2 (.tup [.str ⟨#[c]⟩, .int 0])) l2 (.lst [.ref t2]) t2 = some (.tup [.str ⟨#[c]⟩, .int 0]) by rw [upd_ne ntl]; exact upd_same) nP2
              refine ⟨s.inc.push (decide (c = 91)), P2, ts3 ++ [.ref t2], some (.int (0 + (i : Int))), some (.str ⟨#[c]⟩), some (.str (S (bf p))), some c, ?_, ⟨W5.same, none_same W4.same nP2, upd_same, ?_, ?_⟩, nofun, hn1, next _ ?_⟩
              · have : ((s.many : Nat) : Int) + (if false = true then 1 else 0) = (((s.inc.push (decide (c = 91))).many : Nat) : Int) := by
                  show _ = ((s.inc.many : Nat) : Int)
                  rw [em]
                  simp
                rw [← this]
                rfl
              · show StA _ _ ((decide (c = 91), 0) :: s.inc.st).reverse
                rw [List.reverse_cons]
                refine each_snoc W5.st ⟨t2, rfl, ?_⟩
                rw [upd_ne ntP, upd_ne ntl]
                refine upd_same.trans ?_
                rcases hO with z | z <;> subst z <;> rfl
              · show s.inc.st.length + 1 ≤ i + 1
                omega
              · rw [lst, if_neg n32, if_neg nL, if_pos hO, he, if_neg (by decide)]
            · have hL : c = 108 ∨ c = 115 := by
                rcases hx with z | z
                · exact z
                · exact absurd z hO
              rw [decide_eq_false (show ¬ c ∈ [91, 40] by simpa using hO), decide_eq_true (show c ∈ [108, 115] by simpa using hL)]
              refine iteF ⟨by decide, fun l2 nl2 => ?_⟩
              have W4 := W3.mk_new (o := .lst []) nl2
              refine ⟨P, l2, _, _, rfl, rfl, W4.at_, upd_same, by rw [List.length_cons, List.length_nil]; omega, fun P2 nP2 => ?_⟩
              rw [List.append_nil]
              have W5 := W4.mk_new (o := .lst (V.int ((s.inc.c0 : Nat) : Int) :: ts3)) nP2
              refine ⟨s.inc.one, P2, ts3, some (.int (0 + (i : Int))), some (.str ⟨#[c]⟩), some (.str (S (bf p))), some c, ?_, ⟨W5.same, none_same W4.same nP2, upd_same, W5.st, Nat.le_succ_of_le W5.len⟩, nofun, hn1, next _ ?_⟩
              · have : ((s.many : Nat) : Int) + (if true = true then 1 else 0) = ((s.inc.one.many : Nat) : Int) := by
                  show _ = ((s.inc.many + 1 : Nat) : Int)
                  rw [em]
                  simp
                rw [← this]
                rfl
              · rw [lst, if_neg n32, if_pos hL, he, if_neg (by decide)]
      · have hx : ¬ (c = 108 ∨ c = 115 ∨ c = 91 ∨ c = 40) := by simpa using hb2
        have nL : ¬ (c = 108 ∨ c = 115) := fun z => hx (by rcases z with z | z <;> simp [z])
        have nO : ¬ (c = 91 ∨ c = 40) := fun z => hx (by rcases z with z | z <;> simp [z])
        refine ⟨_, rfl, c, _, rfl, rfl, _, rfl, ?_⟩
        rw [ec2]
        by_cases hC : c = 93 ∨ c = 41
        case neg =>
          rw [decide_eq_false (show ¬ c ∈ [93, 41] by simpa using hC)]
          refine iteF (kz (fail ?_) _ W.same)
          rw [lst, if_neg n32, if_neg nL, if_neg nO, if_neg hC]
        rw [decide_eq_true (show c ∈ [93, 41] by simpa using hC)]
        refine iteT ⟨_, rfl, P, _, rfl, .inl (SqL.of W.at_), _, _, rfl, rfl, _, rfl, ?_⟩
        have opA : s.st = [] ∨ ∃ bt n r ts' t, s.st = (bt, n) :: r ∧ ts = ts' ++ [V.ref t] ∧ StA H1 ts' r.reverse ∧ H1 t = some (.tup [.str (S [oc bt]), .int ((n : Nat) : Int)]) := by
          cases hs : s.st with
          | nil => exact .inl rfl
          | cons b r =>
            have q2 := W.st
            rw [hs, List.reverse_cons] at q2
            obtain ⟨as', a, e1, e2, t, e3, e4⟩ := each_last q2
            exact .inr ⟨b.1, b.2, r, as', t, rfl, by rw [e1, e3], e2, e4⟩
        rcases opA with hst | ⟨bt, n, rr, ts', t, hst, hts, hstA, hT⟩
        · have ht : ts = [] := by
            rw [hst] at szt
            exact List.length_eq_zero_iff.mp szt
          rw [ht]
          refine iteT (iteT (kz (fail ?_) _ W.same))
          rw [lst, if_neg n32, if_neg nL, if_neg nO, if_pos hC, hst]
        · have h2 : ¬ (((V.int ((s.c0 : Nat) : Int) :: ts).length : Nat) : Int) < 2 := by
            rw [hts, List.length_cons, List.length_append, List.length_singleton]
            omega
          rw [decide_eq_false h2]
          have hP2 : H1 P = some (.lst ((V.int ((s.c0 : Nat) : Int) :: ts') ++ [V.ref t])) := by
            rw [W.at_, hts]
            rfl
          have eb : S [c] = S [cc (decide (c = 93))] := by rcases hC with z | z <;> subst z <;> rfl
          refine iteF ⟨_, rfl, _, rfl, P, _, -1, _, rfl, rfl, SqL.of hP2, atI_last _ _, t, _, 0, _, rfl, rfl, SqT.of hT, atI_nat (j := 0) rfl, fun dd ndd => ⟨upd_same, [((Sum.inr "]" : Key), V.str "["), ((Sum.inr ")" : Key), V.str "(")], rfl, (by decide), ?_⟩⟩
          have dg : DGet (upd (upd H1 dd (.dK [])) dd (.dK (mergeK [] [((Sum.inr "]" : Key), V.str "["), ((Sum.inr ")" : Key), V.str "(")]))) dd (.str (S [c])) (some (.str (S [oc (decide (c = 93))]))) := by
            have q := DGet.k (k := (Sum.inr (S [cc (decide (c = 93))]) : Key)) (upd_same (H := upd H1 dd (.dK [])) (a := dd) (o := .dK (mergeK [] [((Sum.inr "]" : Key), V.str "["), ((Sum.inr ")" : Key), V.str "(")])))
            rw [clo_disp2] at q
            rw [eb]
            exact q
          have W3 : PlA H (upd (upd H1 dd (.dK [])) dd (.dK (mergeK [] [((Sum.inr "]" : Key), V.str "["), ((Sum.inr ")" : Key), V.str "(")]))) P s i ts := by
            rw [upd_upd]
            exact W.mk_new ndd
          have hT3 : upd (upd H1 dd (.dK [])) dd (.dK (mergeK [] [((Sum.inr "]" : Key), V.str "["), ((Sum.inr ")" : Key), V.str "(")])) t = some (.tup [.str (S [oc bt]), .int ((n : Nat) : Int)]) := by
            rw [upd_upd, upd_ne (ne_of_none hT ndd)]
            exact hT
          have hA3 : StA (upd (upd H1 dd (.dK [])) dd (.dK (mergeK [] [((Sum.inr "]" : Key), V.str "["), ((Sum.inr ")" : Key), V.str "(")]))) ts' rr.reverse := by
            rw [upd_upd]
            exact hstA.kt (KT.new ndd)
          generalize upd (upd H1 dd (.dK [])) dd (.dK (mergeK [] [((Sum.inr "]" : Key), V.str "["), ((Sum.inr ")" : Key), V.str "(")])) = H3 at dg W3 hT3 hA3 ⊢
          have hP3 : H3 P = some (.lst ((V.int ((s.c0 : Nat) : Int) :: ts') ++ [V.ref t])) := by
            rw [W3.at_, hts]
            rfl
          refine ⟨_, rfl, dd, _, rfl, dg, by cases bt <;> rfl, _, rfl, ?_⟩
          rw [ne_kind]
          by_cases hk : bt = decide (c = 93)
          case neg =>
            rw [decide_eq_false hk]
            refine iteT (iteT (kz (fail ?_) _ W3.same))
            rw [lst, if_neg n32, if_neg nL, if_neg nO, if_pos hC, hst]
            simp only
            rw [if_pos (.inl hk)]
          rw [decide_eq_true hk]
          refine iteF ⟨_, rfl, _, rfl, P, _, -1, _, rfl, rfl, SqL.of hP3, atI_last _ _, t, _, 1, _, rfl, rfl, SqT.of hT3, atI_nat (j := 1) rfl, _, _, rfl, rfl, _, rfl, ?_⟩
          by_cases hn : n < 2
          case pos =>
            rw [decide_eq_true (show ((n : Nat) : Int) < 2 by omega)]
            refine iteT (kz (fail ?_) _ W3.same)
            rw [lst, if_neg n32, if_neg nL, if_neg nO, if_pos hC, hst]
            simp only
            rw [if_pos (.inr hn)]
          rw [decide_eq_false (show ¬ ((n : Nat) : Int) < 2 by omega)]
          refine iteF ⟨_, rfl, _, rfl, _, rfl, P, _, rfl, SqL.of hP3, fun P2 nP2 => ?_⟩
          have ecut : cutV ((V.int ((s.c0 : Nat) : Int) :: ts') ++ [V.ref t]) none (some (-1)) = V.int ((s.c0 : Nat) : Int) :: ts' := cut_last _ _
          rw [ecut]
          have W5 := W3.mk_new (o := .lst (V.int ((s.c0 : Nat) : Int) :: ts')) nP2
          refine ⟨{ s with st := rr }, P2, ts', some (.int (0 + (i : Int))), some (.str ⟨#[c]⟩), some (.str (S (bf p))), some c, rfl, ⟨W5.same, none_same W3.same nP2, upd_same, hA3.kt (KT.new nP2), ?_⟩, nofun, hn1, next _ ?_⟩
          · have := W.len
            rw [hst, List.length_cons] at this
            show rr.length ≤ i + 1
            omega
          · rw [lst, if_neg n32, if_neg nL, if_neg nO, if_pos hC, hst]
            simp only
            rw [if_neg]
            rintro (z | z)
            · exact z hk
            · exact hn z
  · rintro σ H1 ⟨s, P, ts, z3, z4, z5, p, rfl, W, _, _, hrun⟩
    rw [hlen, List.drop_length, lrun] at hrun
    refine ⟨_, rfl, (by show 1 ≤ sizeLine; decide), fun q nq => ?_⟩
    have W2 := W.mk_new (o := .lst [.int 1]) nq
    refine ⟨_, _, W2.dp, .lst (SqL.of upd_same) (.cons (.int _) .nil), pl_sh _ _, rfl, _, rfl, ?_⟩
    rw [pl_eqv]
    by_cases h1 : s.st = [] ∧ s.c0 = 1
    · rw [decide_eq_true (show s.st.reverse = [] ∧ s.c0 = 1 from ⟨by rw [h1.1]; rfl, h1.2⟩)]
      refine iteT ⟨_, rfl, _, _, rfl, rfl, _, rfl, ?_⟩
      by_cases h13 : s.many < 13
      · rw [decide_eq_true (show ((s.many : Nat) : Int) < 13 by omega)]
        refine iteT ⟨_, rfl, ?_⟩
        have := k _ W2.same
        rw [← hrun, if_pos ⟨h1.1, h1.2, h13⟩] at this
        exact this
      · rw [decide_eq_false (show ¬ ((s.many : Nat) : Int) < 13 by omega)]
        refine iteF (kz ?_ _ W2.same)
        rw [← hrun, if_neg (fun z => h13 z.2.2)]
    · rw [decide_eq_false (show ¬ (s.st.reverse = [] ∧ s.c0 = 1) from fun z => h1 ⟨by simpa using z.1, z.2⟩)]
      refine iteF (iteF (kz ?_ _ W2.same))
      rw [← hrun, if_neg (fun z => h1 ⟨z.1, z.2.1⟩)]
end
end Zq

/-! Where a token is out; a text backwards; a text so many times. -/
namespace Yk
open PySem PySem.Spec PyProof.Rows L2 SX Tq Zq CwR
structure PEK (X : Cx) (e : Expr) (t : TE) : Prop where
  run : ∀ (pins : List (Addr × Obj)) (s : Shared) (σ : L2.St) (H : Hp) (Q : VK), Inv X pins σ H s → t σ H Q → wpAny (model X.prog X.w) X.A (eval e X.env) (fun v s' => 1 ≤ s'.toks ∧ EP X pins σ Q v s') X.xe s
structure PAK (X : Cx) (es : List Expr) (t : TA) : Prop where
  run : ∀ (pos : Pos) (pins : List (Addr × Obj)) (s : Shared) (σ : L2.St) (H : Hp) (Q : List V → Hp → Prop), Inv X pins σ H s → t σ H Q → wpAny (model X.prog X.w) X.A (spliced (backTo pos (starEach es X.env))) (fun us s' => 1 ≤ s'.toks ∧ AP X pins σ Q us s') X.xe s
structure PSK (X : Cx) (st : Stmt) (t : TS) : Prop where
  run : ∀ (pins : List (Addr × Obj)) (s : Shared) (σ : L2.St) (H : Hp) (D : Ends), Inv X pins σ H s → t D σ H → wpAny (model X.prog X.w) X.A (exec st X.env) (fun f s' => 1 ≤ s'.toks ∧ SP X pins D f s') X.xe s
section
variable {X : Cx} {e : Expr} {es : List Expr} {te : TE} {t : TA} {st : Stmt} {rest : List Stmt} {u v : TS} {y : Str} {j : Nat} {p pos : Pos}
/-- what follows has it still -/
theorem keepK {α : Type} {m : Sem α} {M : Model} {A : Around} {Q : α → Shared → Prop} {E : Value → Shared → Prop} {s : Shared} (hs : 1 ≤ s.toks) (h : wpAny M A m Q E s) : wpAny M A m (fun a s' => 1 ≤ s'.toks ∧ Q a s') E s :=
  wpAny_mono (PySem.wpAny_toks_of hs h) (fun _ _ q => q) fun _ _ q => q.2
theorem ek_str : PEK X (.Constant (.str y) j pos) (tC (.str y)) := ⟨fun _ _ _ H _ I h => Calls.Constant_str ⟨Nat.le_add_left _ _, .str y, H, I.tok _, ⟨_, rfl⟩, h⟩⟩
theorem ak_hd (ha : PEK X e te) (hr : PA X es t) (hs : starEach (e :: es) X.env = (false, eval e X.env) :: starEach es X.env := by rfl) : PAK X (e :: es) (tCons te t) := by
  refine ⟨fun pos pins s σ H Q I h => ?_⟩
  rw [hs]
  show wpAny _ _ (spliced ((false, eval e X.env) :: backTo pos (starEach es X.env))) _ _ s
  refine Calls.spliced_cons (thn (ha.run pins s σ H _ I h) fun u s1 ⟨k1, x, H1, I1, r1, q1⟩ => ?_)
  exact thn (keepK k1 (hr.run pos pins s1 σ H1 _ I1 q1)) fun us s2 ⟨k2, xs, H2, I2, r2, q2⟩ => ⟨k2, x :: xs, H2, I2, .cons r1 r2, q2⟩
theorem ak_tl (ha : PE X e te) (hr : PAK X es t) (hs : starEach (e :: es) X.env = (false, eval e X.env) :: starEach es X.env := by rfl) : PAK X (e :: es) (tCons te t) := by
  refine ⟨fun pos pins s σ H Q I h => ?_⟩
  rw [hs]
  show wpAny _ _ (spliced ((false, eval e X.env) :: backTo pos (starEach es X.env))) _ _ s
  refine Calls.spliced_cons (thn (ha.run pins s σ H _ I h) fun u s1 ⟨x, H1, I1, r1, q1⟩ => ?_)
  exact thn (hr.run pos pins s1 σ H1 _ I1 q1) fun us s2 ⟨k2, xs, H2, I2, r2, q2⟩ => ⟨k2, x :: xs, H2, I2, .cons r1 r2, q2⟩
theorem ek_lst (h : PAK X es t) : PEK X (.List es pos) (tLst t) := by
  refine ⟨fun pins s σ H Q I hq => ?_⟩
  refine wpAny_List_spliced (thn (h.run pos pins s σ H _ I hq) fun us s1 ⟨k1, xs, H1, I1, r, z, q⟩ => ⟨by rw [← r.length]; exact z, ?_⟩)
  have hf : H1 s1.heap.objs.size = none := I1.hok.fresh (Nat.le_refl _)
  refine ⟨k1, .ref s1.heap.objs.size, upd H1 s1.heap.objs.size (.lst xs), I1.laid (t' := s1.toks) (fun b u e => Heap.get?_push_of_some _ e) (Nat.le_refl _) ?_, rfl, q _ hf⟩
  exact ⟨z, us, 0, r, Heap.get?_push_size _ rfl⟩
theorem ek_cl {k j : Nat} {x : Str} {ps : List Str} {sp : Sp} (C : Cal X.prog X.w X.K X.mg X.base k x ps sp) (hr : Room j X.A) (hkj : k ≤ j) (ha : PAK X (e :: es) t) (hg : Gl X x := by rfl) (hdb : (x == ("__debug__" : Str)) = false := by decide)
    (he : starEach (e :: es) X.env = (false, eval e X.env) :: starEach es X.env := by rfl) (hpl : (backTo pos (starEach es X.env)).any (·.1) = false := by rfl) :
    PEK X (.Call (.Name x p) (e :: es) [] pos) (tCall sp [] L2.E0 t) := by
  obtain ⟨f, fd, F, b, m, kp, _⟩ := C.ex
  refine ⟨fun pins s σ H Q I h => ?_⟩
  refine wpAny_Call_Name_kw (ld_glob I hg m ?_ hdb)
  refine PySem.W.callWith_K (h₀ := X.base) I.ok.mod.kin kp (thn (ha.run pos pins s σ H _ I h) fun us s1 ⟨k1, vs, H1, I1, r, q⟩ => ⟨I1.kIn, ?_⟩) he hpl
  exact keepK k1 (run_fn F (hr.mono hkj) b .nil L2.pass0 I1 r q)
theorem psk_set {i : Nat} {x : Str} {pos' : Pos} (hN : X.N.Nodup) (hi : X.N[i]? = some x) (hx : Loc X.env.scope x) (he : PEK X e te) (hs : swapsWith e (some (.Name x pos')) pos.line X.env = pure false := by rfl) (hf : X.fn x = true ∨ X.env.scope.names.lookup x = some .local := by first | exact .inl rfl | exact .inr rfl | assumption) :
    PSK X (.Assign [.Name x pos'] e pos) (tAsg te (gName i)) := by
  refine ⟨fun pins s σ H D I h => ?_⟩
  refine wpAny_Assign_Name (thn (he.run pins s σ H _ I h) fun v s1 ⟨k1, y, H1, I1, r1, q1⟩ => ?_) hs
  refine keepK k1 (store_ok I1 hN hi hx r1 (fun s2 I2 => ?_) hf)
  exact ⟨_, H1, I2, q1⟩
theorem pss_consK (h1 : PSK X st u) (h2 : PSsT X rest v) : PSs X (st :: rest) (tSeq u v) := by
  refine ⟨fun pins s σ H D I h => ?_⟩
  refine wpAny_execs_cons (thn (h1.run pins s σ H { D with nx := v D } I h) fun f s1 q => ?_)
  obtain ⟨hk, q⟩ := q
  cases f with
  | next =>
    obtain ⟨σ', H', I', q⟩ := q
    exact h2 pins s1 σ' H' D hk I' q
  | ret v => exact q
  | brk => exact q
  | cont => exact q
theorem pet_cl {k j : Nat} {x : Str} {ps : List Str} {sp : Sp} (C : Cal X.prog X.w X.K X.mg X.base k x ps sp) (hr : Room j X.A) (hkj : k ≤ j) (ha : PAT X (e :: es) t) (hg : Gl X x := by rfl) (hdb : (x == ("__debug__" : Str)) = false := by decide)
    (he : starEach (e :: es) X.env = (false, eval e X.env) :: starEach es X.env := by rfl) (hpl : (backTo pos (starEach es X.env)).any (·.1) = false := by rfl) :
    PET X (.Call (.Name x p) (e :: es) [] pos) (tCall sp [] L2.E0 t) := by
  obtain ⟨f, fd, F, b, m, kp, _⟩ := C.ex
  intro pins s σ H Q h0 I h
  refine wpAny_Call_Name_kw (ld_glob I hg m ?_ hdb)
  refine PySem.W.callWith_K (h₀ := X.base) I.ok.mod.kin kp (thn (ha pos pins s σ H _ h0 I h) fun us s1 ⟨vs, H1, I1, r, q⟩ => ⟨I1.kIn, ?_⟩) he hpl
  exact run_fn F (hr.mono hkj) b .nil L2.pass0 I1 r q
/-- x * n of a text -/
theorem op_mul_str : OpR X (binaryOp .Mult) (fun x y H Q => ∃ z n, x = .str z ∧ y = .int n ∧ PySem.MulOk z n ∧ Q (.str (Txt.mul z n)) H) := by
  intro pins s σ H x y v u Q I rx ry h
  obtain ⟨z, n, rfl, rfl, hz, q⟩ := h
  obtain ⟨t, rfl⟩ := rx
  obtain ⟨t', rfl⟩ := ry
  exact PySem.SB.mul hz fun t' k => ⟨.str _, H, I.tok _, ⟨_, rfl⟩, q⟩
end
theorem rng_len (a b : Int) : (sliceRange a b (-1)).length = (a - b).toNat := by
  unfold sliceRange
  rw [List.length_map, List.length_range, if_neg (by decide)]
  by_cases h : a > b
  · rw [if_pos h]
    have : (a - b - -1 - 1) / (- -1) = a - b := by
      have e : (a - b - -1 - 1) = a - b := by omega
      rw [e]
      exact Int.ediv_one _
    rw [this]
  · rw [if_neg h]
    show (0 : Int).toNat = _
    omega
theorem rev_ix (n : Nat) : (Builtin.Str.strSliceIndices none none (-1) n).length = n := by
  unfold Builtin.Str.strSliceIndices
  show (sliceRange ((n : Int) - 1) (-1) (-1)).length = n
  rw [rng_len]
  omega
/-- some text of the same signs, not longer -/
def tRevS (te : TE) : TE := fun σ H Q => te σ H fun x H1 => ∃ l, x = .str (S l) ∧ l.length ≤ sizeLine ∧ ∀ l', (∀ c ∈ l', c ∈ l) → l'.length ≤ l.length → Q (.str (S l')) H1
theorem pe_revS {X : Cx} {e : Expr} {te : TE} {k : Nat} {p1 p2 p3 pos : Pos} (he : PE X e te) : PE X (.Subscript e (.Slice none none (some (.UnaryOp .USub (.Constant (.int 1) k p1) p2)) p3) pos) (tRevS te) := by
  refine ⟨fun pins s σ H Q I h => ?_⟩
  refine Subscript_ (thn (he.run pins s σ H _ I h) fun v s1 ⟨x, H1, I1, r1, q1⟩ => ?_)
  obtain ⟨l, ex, hl, q⟩ := q1
  subst ex
  obtain ⟨tk, rfl⟩ := r1
  have hst : PO X (some (.UnaryOp .USub (.Constant (.int 1) k p1) p2)) (tPart (tUn (rU fun i => .int (-i)) (tC (.int 1)))) := po_some (pe_un un_neg pe_int)
  refine wpAny_Slice (thn (po_none.run pins s1 σ H1 (fun o H2 => o = none ∧ H2 = H1) I1 ⟨rfl, rfl⟩) fun vl s2 ⟨lo, H2, I2, pl, el, e2⟩ => ?_)
  subst el e2
  refine thn (po_none.run pins s2 σ H2 (fun o H3 => o = none ∧ H3 = H2) I2 ⟨rfl, rfl⟩) fun vu s3 ⟨u, H3, I3, pu, eu, e3⟩ => ?_
  subst eu e3
  refine thn (hst.run pins s3 σ H3 (fun o H4 => o = some (-1) ∧ H4 = H3) I3 ⟨1, rfl, -1, rfl, rfl, rfl⟩) fun vs s4 ⟨o, H4, I4, ps, eo, e4⟩ => ?_
  subst eo e4
  have I5 : Inv X pins σ H4 { s4 with heap := s4.heap.push { cls := .type "slice", data := .fields #[vl, vu, vs] } } := I4.kept (t' := s4.toks) fun b ob q => Heap.get?_push_of_some _ q
  obtain ⟨l1, rfl, el⟩ := IsPart.raw pl
  obtain ⟨u1, rfl, eu⟩ := IsPart.raw pu
  obtain ⟨t1, rfl, et⟩ := IsPart.raw ps
  show wpAny (model X.prog X.w) X.A (subscriptTail e (.Slice none none (some (.UnaryOp .USub (.Constant (.int 1) k p1) p2)) p3) (.str (S l) tk) (.ref s4.heap.objs.size)) (EP X pins σ Q) X.xe { s4 with heap := s4.heap.push { cls := .type "slice", data := .fields #[partValue l1, partValue u1, partValue t1] } }
  refine tail_any (ops := [.ref s4.heap.objs.size, .str (S l) tk]) (typeIs_str _ _ _) F.slot_str_getitem.lookup ?_ (by with_unfolding_all rfl)
  obtain ⟨os, hos, hcs, hds⟩ : Heap.IsSliceOf _ _ _ _ _ := Heap.IsSliceOf.new s4.heap (partValue l1) (partValue u1) (partValue t1)
  refine wpAny_getItem_str_slice (l := l1) (u := u1) (st := t1) ⟨os, hos, hcs, hds⟩ (by rw [et]; rfl) ?_
  have hp : slicePicked (S l) l1 u1 t1 = Builtin.Str.strSliceIndices none none (-1) l.length := by
    unfold slicePicked
    rw [el, eu, et]
    rfl
  unfold sliceMade
  rw [hp, et]
  rw [if_neg (by simp)]
  have eS : (⟨((Builtin.Str.strSliceIndices none none (-1) l.length).filterMap ((S l).cps[·]?)).toArray⟩ : Str) = S ((Builtin.Str.strSliceIndices none none (-1) l.length).filterMap (l[·]?)) := by
    show (⟨((Builtin.Str.strSliceIndices none none (-1) l.length).filterMap (l.toArray[·]?)).toArray⟩ : Str) = _
    simp only [List.getElem?_toArray]
  have hlen : ((Builtin.Str.strSliceIndices none none (-1) l.length).filterMap (l[·]?)).length ≤ l.length := by
    refine Nat.le_trans (List.length_filterMap_le _ _) ?_
    rw [rev_ix]
    exact Nat.le_refl _
  rw [eS]
  refine ⟨?_, .str _, H4, I5.tok _, ⟨_, rfl⟩, q _ (fun c hc => ?_) hlen⟩
  · rw [S_len]
    exact Nat.le_trans hlen hl
  · obtain ⟨i, _, hi⟩ := List.mem_filterMap.mp hc
    exact List.mem_of_getElem? hi
end Yk

/-! A text that is bent. -/
namespace Yk
open PySem PySem.Spec PyProof.Rows L2 SX Tq Zq CwR
def Asc (l : List Nat) : Prop := ∀ c ∈ l, c < 128
theorem Asc.app {a b : List Nat} (x : Asc a) (y : Asc b) : Asc (a ++ b) := fun c h => (List.mem_append.mp h).elim (x c) (y c)
theorem Asc.sub {a b : List Nat} (x : Asc a) (h : ∀ c ∈ b, c ∈ a) : Asc b := fun c hc => x c (h c hc)
theorem cut_S (l : List Nat) (lo hi : Option Int) : ∃ l', cutS (S l) lo hi = S l' ∧ (∀ c ∈ l', c ∈ l) ∧ l'.length ≤ l.length := by
  refine ⟨(l.drop (HT.sIx (S l).length 0 lo)).take (HT.sIx (S l).length (S l).length hi - HT.sIx (S l).length 0 lo), rfl, fun c h => List.mem_of_mem_drop (List.mem_of_mem_take h), ?_⟩
  rw [List.length_take, List.length_drop]
  omega
theorem repl1 (c d : Nat) : ∀ l : List Nat, PySem.StrLaws.replS [c] [d] 0 l = l.map fun x => if x = c then d else x
  | [] => rfl
  | x :: r => by
    rw [PySem.StrLaws.replS, List.map_cons]
    by_cases h : x = c
    · rw [if_pos (by rw [h]; rfl), if_pos h]
      show d :: PySem.StrLaws.replS [c] [d] 0 r = _
      rw [repl1 c d r]
    · rw [if_neg (by intro q; exact h (List.cons.inj q).1), if_neg h, repl1 c d r]
theorem repl_S (c d : Nat) (l : List Nat) : Txt.replace (S l) ⟨#[c]⟩ ⟨#[d]⟩ = S (l.map fun x => if x = c then d else x) := by
  have h := PySem.StrLaws.replace_list (x := S l) (y := ⟨#[c]⟩) (z := ⟨#[d]⟩) (Nat.le_refl 1)
  have e : (Txt.replace (S l) ⟨#[c]⟩ ⟨#[d]⟩).cps.toList = l.map fun x => if x = c then d else x := by
    rw [h]
    exact repl1 c d l
  rw [← S_tl (Txt.replace (S l) ⟨#[c]⟩ ⟨#[d]⟩), e]
theorem asc_repl {c d : Nat} (hd : d < 128) {l : List Nat} (h : Asc l) : Asc (l.map fun x => if x = c then d else x) := by
  intro x hx
  obtain ⟨y, hy, rfl⟩ := List.mem_map.mp hx
  split
  · exact hd
  · exact h y hy
theorem fold_rep (c : Nat) : ∀ (n : Nat) (acc : Array Nat), ((List.replicate n #[c]).foldl (· ++ ·) acc).toList = acc.toList ++ List.replicate n c
  | 0, acc => by simp
  | n + 1, acc => by
    rw [List.replicate_succ, List.foldl_cons, fold_rep c n, Array.toList_append, List.append_assoc]
    rfl
theorem many900 : Txt.mul "[" 900 = S (List.replicate 900 91) := by
  have h := fold_rep 91 900 #[]
  have e : Txt.mul "[" 900 = ⟨(List.replicate 900 #[91]).foldl (· ++ ·) #[]⟩ := by
    unfold Txt.mul
    rw [if_neg (by decide), if_neg (by decide)]
    rfl
  rw [← S_tl (Txt.mul "[" 900), e]
  show S ((List.replicate 900 #[91]).foldl (· ++ ·) #[]).toList = _
  rw [h]
  rfl
section
variable {P : Program} {w : World} {K : PySem.W.Frag} {mg : Str → Option Value} {base : Heap}
abbrev nBe : List Str := ["_law_well_here", "_law_said_here", "_law_way", "_law_at", "_law_sign"]
theorem s114 : FnScope nBe ["_law_well_here", "_law_said_here"] (defScope (top 114)) := (⟨rfl, rfl, rfl, by decide +kernel, rfl, by decide +kernel, by decide +kernel⟩)
abbrev spBe : Sp := Prx (α := Addr × List Nat) (fun a => [.ref a.1, .str (S a.2)]) (fun a H Q => RkI H a.1 ∧ Asc a.2 ∧ a.2.length ≤ 999 ∧ ∀ l' H', SameX a.1 H H' → RkI H' a.1 → Asc l' → (l'.length ≤ 900 ∨ l'.length ≤ 2 * a.2.length + 3) → Q (.str (S l')) H')
def signs : List V := [.str "l", .str "s", .str "[", .str "]", .str "(", .str ")", .str " ", .str "L", .str "x", .str "\n", .str "1"]
theorem sign_of {v : V} (h : v ∈ signs) : ∃ c, c < 128 ∧ v = .str (S [c]) := by
  simp only [signs, List.mem_cons, List.not_mem_nil, or_false] at h
  rcases h with rfl | rfl | rfl | rfl | rfl | rfl | rfl | rfl | rfl | rfl | rfl
  · exact ⟨108, by decide, rfl⟩
  · exact ⟨115, by decide, rfl⟩
  · exact ⟨91, by decide, rfl⟩
  · exact ⟨93, by decide, rfl⟩
  · exact ⟨40, by decide, rfl⟩
  · exact ⟨41, by decide, rfl⟩
  · exact ⟨32, by decide, rfl⟩
  · exact ⟨76, by decide, rfl⟩
  · exact ⟨120, by decide, rfl⟩
  · exact ⟨10, by decide, rfl⟩
  · exact ⟨49, by decide, rfl⟩
end
end Yk

/-! A text that is bent. -/
namespace Yk
open PySem PySem.Spec PyProof.Rows L2 SX Tq Zq CwR
section
variable {P : Program} {w : World} {K : PySem.W.Frag} {mg : Str → Option Value} {base : Heap}
theorem c_be (D : Df K mg "_law_bent" (top 114)) (B : Bl w K mg) (CD : Cal P w K mg base 1 "_law_dip" ["_law_well_here", "_law_many"] spDip) (CO : Cal P w K mg base 2 "_law_of" ["_law_well_here", "_law_things"] spOf) : Cal P w K mg base 3 "_law_bent" ["_law_well_here", "_law_said_here"] spBe := by
  refine mkC D s114 (fun _ _ _ _ _ _ us hl => match us, hl with | [_, _], _ => rfl) (fun _ => rfl) (fun f cdv A outer s H a Q E hr k => ?_)
  obtain ⟨r, l⟩ := a
  obtain ⟨hR, al, ll, k⟩ := k
  have hR : RkI H r := hR
  have al : Asc l := al
  have ll : l.length ≤ 999 := ll
  have big : 20000 < sizeLine := by decide
  refine ⟨_, pss_cons (ps_par (i := 2) (j := 3) rfl s114.nd rfl rfl (by decide) rfl rfl (pa_cons (pe_cl CD hr (by decide) (pa_cons (pv 0) (pa_cons pe_int pa_nil)))
      (pa_cons (pe_cl CD hr (by decide) (pa_cons (pv 0) (pa_cons (pe_op op_add (pe_callB call_len_str (by rfl) B.len_ PySem.boot_len (pa_cons (pv 1) pa_nil)) pe_int) pa_nil))) pa_nil)) rfl)
    (pss_consK (psk_set (i := 4) s114.nd rfl (Or.inl rfl) (ek_cl CO hr (by decide) (ak_tl (pv 0) (ak_hd (ek_lst (ak_hd ek_str (pa_cons pe_str (pa_cons pe_str (pa_cons pe_str (pa_cons pe_str (pa_cons pe_str (pa_cons pe_str (pa_cons pe_str (pa_cons pe_str (pa_cons pe_str (pa_cons pe_str pa_nil)))))))))))) pa_nil))))
    (psst_cons (PST.of (ps_if ((pt_cmpR op_lt (pv 2) pe_int (nomark _))) (pss_one (ps_ret (pe_op op_add_str (pe_op op_add_str (pe_slice sl_str (pv 1) po_none (po_some (pv 3))) (pe_ix ix_list (pe_lst (pa_cons pe_str (pa_cons (pv 4) (pa_cons (pv 4) pa_nil)))) (pv 2) (fun _ _ => rfl)))
        (pe_slice sl_str (pv 1) (po_some (pe_op op_add (pv 3) (pe_ix ix_list (pe_lst (pa_cons pe_int (pa_cons pe_int (pa_cons pe_int pa_nil)))) (pv 2) (fun _ _ => rfl)))) po_none)))) pss_nil))
    (psst_cons (pst_if ((pt_cmpR op_eq (pv 2) pe_int (nomark _))) (psst_one (pst_ret (pet_cl CO hr (by decide) (pat_cons (PET.of (pv 0)) (pat_cons (pet_lst (pat_cons (pet_replC (pv 1)) (pat_cons (pet_replC (pv 1)) (pat_cons (PET.of (pe_op op_add_str (pv 1) pe_str))
        (pat_cons (PET.of (pe_op op_add_str (pe_op op_add_str pe_str (pv 1)) pe_str)) (pat_cons (PET.of (pe_op op_add_str (pv 1) (pv 1))) pat_nil)))))) pat_nil))))) psst_nil)
    (psst_cons (PST.of (ps_if ((pt_cmpR op_eq (pv 2) pe_int (nomark _))) (pss_one (ps_ret (pe_cl CO hr (by decide) (pa_cons (pv 0) (pa_cons (pe_lst (pa_cons (pe_op op_add_str (pe_op op_add_str (pe_op op_add_str (pe_op op_add_str pe_str (pv 1)) pe_str) (pv 1)) pe_str)
        (pa_cons (pe_revS (pv 1)) (pa_cons (pe_op op_add_str pe_str (pv 1)) (pa_cons (pe_op op_add_str (pv 1) pe_str) (pa_cons (pe_op op_mul_str pe_str pe_int) (pa_cons pe_str pa_nil))))))) pa_nil))))) pss_nil))
    (psst_one (PST.of (ps_ret (pv 1)))))))), ?_⟩
  have e0 : L2.start nBe [V.ref r, V.str (S l)] = [some (.ref r), some (.str (S l)), none, none, none] := rfl
  rw [e0]
  have ne : ∀ {H : Hp} {p : Addr}, RkI H r → H p = none → p ≠ r := fun {H p} hR hp z => by
    obtain ⟨x, y, zz, q⟩ := hR
    rw [z, q] at hp
    cases hp
  refine ⟨_, rfl, (r, 8), rfl, hR, (by show (1 : Int) ≤ 8; decide), (by show (8 : Int) ≤ 1000; decide), fun way H1 s1 R1 w0 w1 => ?_⟩
  have w1 : way < 8 := w1
  refine ⟨_, rfl, _, rfl, ?_⟩
  refine ⟨S l, rfl, by rw [S_len]; omega, _, _, rfl, rfl, (r, ((l.length : Nat) : Int) + 1), by rw [S_len]; rfl, R1, ?_, ?_, fun at_ H2 s2 R2 a0 a1 => ?_⟩
  · show (1 : Int) ≤ ((l.length : Nat) : Int) + 1
    omega
  · show ((l.length : Nat) : Int) + 1 ≤ 1000
    omega
  have s12 := s1.trans s2
  refine ⟨_, _, rfl, ?_⟩
  refine ⟨_, rfl, (by show 11 ≤ sizeLine; decide), fun p np => ⟨(r, p, signs), rfl, R2.putN (Ne.symm (ne R2 np)), ne R2 np, upd_same, (by show 1 ≤ 11; decide), (by show 11 ≤ 1000; decide), fun sg H3 s3 R3 hsg => ?_⟩⟩
  obtain ⟨sc, hsc, rfl⟩ := sign_of hsg
  have s13 := s12.trans ((SameX.of (same_new np)).trans s3)
  have R3 : RkI H3 r := R3
  have hlen : (S l).length ≤ sizeLine := by rw [S_len]; omega
  refine ⟨_, rfl, _, _, rfl, rfl, _, rfl, ?_⟩
  by_cases h3 : way < 3
  · rw [decide_eq_true h3]
    refine iteT ?_
    obtain ⟨l1, e1, m1, z1⟩ := cut_S l none (some at_)
    have fin : ∀ (mid : List Nat) (H4 : Hp) (lo : Int), Same H3 H4 → (mid = [] ∨ mid = [sc]) → ∃ l3, cutS (S l) (some lo) none = S l3 ∧ (S l1).length + (S mid).length ≤ sizeLine ∧ (S l1 ++ S mid).length + (S l3).length ≤ sizeLine ∧ Q (.str (S l1 ++ S mid ++ S l3)) H4 := by
      intro mid H4 lo sm hm
      obtain ⟨l3, e3, m3, z3⟩ := cut_S l (some lo) none
      have am : Asc mid := by
        rcases hm with rfl | rfl
        · exact fun c h => nomatch h
        · intro c h
          rw [List.mem_singleton.mp h]
          exact hsc
      have lm : mid.length ≤ 1 := by rcases hm with rfl | rfl <;> simp
      refine ⟨l3, e3, by rw [S_len, S_len]; omega, by rw [S_cat, S_len, S_len, List.length_append]; omega, ?_⟩
      rw [S_cat, S_cat]
      refine k _ H4 (s13.trans (SameX.of sm)) (R3.same sm) (((al.sub m1).app am).app (al.sub m3)) (.inr ?_)
      show _ ≤ 2 * l.length + 3
      rw [List.length_append, List.length_append]
      omega
    refine ⟨_, rfl, _, rfl, _, rfl, S l, rfl, hlen, ?_⟩
    rw [e1]
    have cs : ∃ (j : Nat) (mid : List Nat) (ad : Int), way = (j : Int) ∧ (mid = [] ∨ mid = [sc]) ∧ [V.str "", V.str (S [sc]), V.str (S [sc])][j]? = some (.str (S mid)) ∧ [V.int 1, V.int 0, V.int 1][j]? = some (.int ad) := by
      have : way = 0 ∨ way = 1 ∨ way = 2 := by omega
      rcases this with rfl | rfl | rfl
      · exact ⟨0, [], 1, rfl, .inl rfl, rfl, rfl⟩
      · exact ⟨1, [sc], 0, rfl, .inr rfl, rfl, rfl⟩
      · exact ⟨2, [sc], 1, rfl, .inr rfl, rfl, rfl⟩
    obtain ⟨j, mid, ad, rfl, hm, hj1, hj2⟩ := cs
    refine ⟨_, rfl, _, rfl, (by show 3 ≤ sizeLine; decide), fun q nq => ⟨_, rfl, q, _, _, _, rfl, rfl, SqL.of upd_same, atI_nat hj1, ?_⟩⟩
    have sq := same_new (o := .lst [V.str "", V.str (S [sc]), V.str (S [sc])]) nq
    refine ⟨S l1, S mid, rfl, rfl, ?_, ?_⟩
    · rw [S_len, S_len]
      have : mid.length ≤ 1 := by rcases hm with rfl | rfl <;> simp
      omega
    refine ⟨_, rfl, _, rfl, (by show 3 ≤ sizeLine; decide), fun q2 nq2 => ⟨_, rfl, q2, _, _, _, rfl, rfl, SqL.of upd_same, atI_nat hj2, ?_⟩⟩
    have sq2 := same_new (o := .lst [V.int 1, V.int 0, V.int 1]) nq2
    obtain ⟨l3, e3, z1, z2, z3⟩ := fin mid _ (at_ + ad) (sq.trans sq2) hm
    refine ⟨_, _, rfl, rfl, _, rfl, S l, rfl, hlen, ?_⟩
    rw [e3]
    exact ⟨_, _, rfl, rfl, z2, z3⟩
  · rw [decide_eq_false h3]
    refine iteF ?_
    refine ⟨_, rfl, rfl, _, rfl, ?_⟩
    rw [dec_int]
    have ask : ∀ (p : Addr) (vs : List V) (H4 : Hp), H3 p = none → H4 = upd H3 p (.lst vs) → 1 ≤ vs.length → vs.length ≤ 1000 → (∀ v ∈ vs, ∃ l', v = .str (S l') ∧ Asc l' ∧ (l'.length ≤ 900 ∨ l'.length ≤ 2 * l.length + 3)) →
        spOf ([V.ref r, V.ref p] ++ []) H4 Q L2.E0 := by
      intro p vs H4 np e4 v1 v2 hv
      subst e4
      refine ⟨(r, p, vs), rfl, R3.putN (Ne.symm (ne R3 np)), ne R3 np, upd_same, v1, v2, fun v H5 s5 R5 hm => ?_⟩
      obtain ⟨l', rfl, a', z'⟩ := hv v hm
      exact k l' H5 (s13.trans ((SameX.of (same_new np)).trans s5)) R5 a' z'
    have a1 : ∀ {c : Nat}, c < 128 → Asc [c] := fun {c} h x hx => by
      rw [List.mem_singleton.mp hx]
      exact h
    refine ite2 (fun hb => ?_) (fun hb => ?_)
    · refine ⟨_, rfl, _, rfl, S l, rfl, (by rw [S_len]; show l.length + (l.length + 1) * 1 ≤ _; omega), ?_⟩
      refine ⟨_, rfl, S l, rfl, (by rw [S_len]; show l.length + (l.length + 1) * 1 ≤ _; omega), ?_⟩
      refine ⟨_, rfl, S l, _, rfl, rfl, (by rw [S_len]; show l.length + 2 ≤ _; omega), ?_⟩
      refine ⟨_, rfl, S [91], S l, rfl, rfl, (by rw [S_len, S_len, List.length_singleton]; omega), _, S [93], rfl, rfl, (by rw [S_cat, S_len, S_len, List.length_append, List.length_singleton, List.length_singleton]; omega), ?_⟩
      refine ⟨_, rfl, _, rfl, S l, S l, rfl, rfl, (by rw [S_len]; omega), ?_⟩
      refine ⟨(by show 5 ≤ sizeLine; decide), fun p np => ask p _ _ np rfl (by show 1 ≤ 5; decide) (by show 5 ≤ 1000; decide) fun v hv => ?_⟩
      simp only [List.mem_cons, List.not_mem_nil, or_false] at hv
      rcases hv with rfl | rfl | rfl | rfl | rfl
      · exact ⟨_, congrArg V.str (repl_S 91 40 l), asc_repl (by decide) al, .inr (by rw [List.length_map]; omega)⟩
      · exact ⟨_, congrArg V.str (repl_S 93 41 l), asc_repl (by decide) al, .inr (by rw [List.length_map]; omega)⟩
      · exact ⟨l ++ [32, 108], congrArg V.str (S_cat l [32, 108]), al.app (fun c h => by simp at h; omega), .inr (by rw [List.length_append]; show l.length + 2 ≤ _; omega)⟩
      · exact ⟨([91] ++ l) ++ [93], by rw [S_cat, S_cat], ((a1 (by decide)).app al).app (a1 (by decide)), .inr (by rw [List.length_append, List.length_append]; show 1 + l.length + 1 ≤ _; omega)⟩
      · exact ⟨l ++ l, congrArg V.str (S_cat l l), al.app al, .inr (by rw [List.length_append]; omega)⟩
    · refine ⟨_, rfl, rfl, _, rfl, ?_⟩
      rw [dec_int]
      refine ite2 (fun hb2 => ?_) (fun hb2 => ?_)
      · refine ⟨_, rfl, _, rfl, S [91], S l, rfl, rfl, (by rw [S_len, S_len, List.length_singleton]; omega), ?_⟩
        rw [S_cat]
        refine ⟨_, S [32], rfl, rfl, (by rw [S_len, S_len, List.length_append, List.length_singleton, List.length_singleton]; omega), ?_⟩
        rw [S_cat]
        refine ⟨_, rfl, _, S l, rfl, rfl, (by rw [S_len, S_len, List.length_append, List.length_append, List.length_singleton, List.length_singleton]; omega), ?_⟩
        rw [S_cat]
        refine ⟨_, S [93], rfl, rfl, (by rw [S_len, S_len, List.length_append, List.length_append, List.length_append, List.length_singleton, List.length_singleton, List.length_singleton]; omega), ?_⟩
        rw [S_cat]
        refine ⟨_, rfl, l, rfl, (by omega), fun lr mr zr => ?_⟩
        refine ⟨_, rfl, S [32], S l, rfl, rfl, (by rw [S_len, S_len, List.length_singleton]; omega), ?_⟩
        rw [S_cat]
        refine ⟨_, rfl, S l, S [32], rfl, rfl, (by rw [S_len, S_len, List.length_singleton]; omega), ?_⟩
        rw [S_cat]
        refine ⟨_, _, rfl, rfl, ⟨by decide, fun _ _ => by decide, fun _ _ => by decide⟩, ?_⟩
        rw [many900]
        refine ⟨(by show 6 ≤ sizeLine; decide), fun p np => ask p _ _ np rfl (by show 1 ≤ 6; decide) (by show 6 ≤ 1000; decide) fun v hv => ?_⟩
        simp only [List.mem_cons, List.not_mem_nil, or_false] at hv
        rcases hv with rfl | rfl | rfl | rfl | rfl | rfl
        · exact ⟨_, rfl, ((((a1 (by decide)).app al).app (a1 (by decide))).app al).app (a1 (by decide)), .inr (by simp only [List.length_append, List.length_singleton]; omega)⟩
        · exact ⟨lr, rfl, al.sub mr, .inr (by omega)⟩
        · exact ⟨_, rfl, (a1 (by decide)).app al, .inr (by rw [List.length_append, List.length_singleton]; omega)⟩
        · exact ⟨_, rfl, al.app (a1 (by decide)), .inr (by rw [List.length_append, List.length_singleton]; omega)⟩
        · exact ⟨_, rfl, fun c h => by rw [(List.mem_replicate.mp h).2]; decide, .inl (by rw [List.length_replicate]; exact Nat.le_refl _)⟩
        · exact ⟨[108, 32, 108], rfl, fun c h => by simp at h; omega, .inl (by show 3 ≤ 900; decide)⟩
      · refine ⟨_, rfl, k l H3 s13 R3 al (.inr ?_)⟩
        show l.length ≤ 2 * l.length + 3
        omega
end
end Yk

/-! repr of data; lists whose place is told; defs run where no repr is under way. -/
namespace Xk
open PySem PySem.Spec PyProof.Rows L2
section
variable {X : Cx} {pins : List (Addr × Obj)} {σ : L2.St} {H : Hp} {s : Shared} {es : List Expr} {t : TA} {pos : Pos}
theorem past1 (I : Inv X pins σ H s) : ∀ p, s.heap.objs.size ≤ p → p ≠ sysModules := fun p hp e => by
  have h1 : mainGlobals < X.base.objs.size := I.ok.mod.glob.lt
  have h2 := I.ok.bsz
  have h3 := I.sz
  have e1 : p = (1 : Nat) := e
  have h4 : (3 : Nat) < X.base.objs.size := h1
  omega
/-- [e, ..], its place -/
def tLstN (t : TA) : TE := fun σ H Q => t σ H fun xs H1 => xs.length ≤ sizeLine ∧ ∀ p, H1 p = none → p ≠ sysModules → Q (.ref p) (upd H1 p (.lst xs))
theorem pe_lstN (h : PA X es t) : PE X (.List es pos) (tLstN t) := by
  refine ⟨fun pins s σ H Q I hq => ?_⟩
  refine wpAny_List_spliced (thn (h.run pos pins s σ H _ I hq) fun us s1 hh => ?_)
  obtain ⟨xs, H1, I1, r, z, q⟩ := hh
  refine ⟨by rw [← r.length]; exact z, ?_⟩
  have hf : H1 s1.heap.objs.size = none := I1.hok.fresh (Nat.le_refl _)
  refine ⟨.ref s1.heap.objs.size, upd H1 s1.heap.objs.size (.lst xs),
    I1.laid (t' := s1.toks) (fun b u e => Heap.get?_push_of_some _ e) (Nat.le_refl _) ?_, rfl, q _ hf (past1 I1 _ (Nat.le_refl _))⟩
  exact ⟨z, us, 0, r, Heap.get?_push_size _ rfl⟩
/-- xs * k, its place -/
def rRepN : R2 := fun x y H Q => ∃ l k xs, x = .ref l ∧ y = .int k ∧ H l = some (.lst xs) ∧ -(2 ^ 63) ≤ k ∧ k < 2 ^ 63 ∧ xs.length * k.toNat ≤ sizeLine ∧
  ∀ p, H p = none → p ≠ sysModules → Q (.ref p) (upd H p (.lst (List.replicate k.toNat xs).flatten))
theorem op_repN : OpR X (binaryOp .Mult) rRepN := by
  intro pins s σ H x y v u Q I rx ry h
  obtain ⟨l, k, xs, rfl, rfl, hH, h1, h2, hz, q⟩ := h
  cases rx
  obtain ⟨t, rfl⟩ := ry
  obtain ⟨z, its, n, r, hl, e⟩ := I.lstM hH
  have a1 : its.toArray.size * k.toNat ≤ sizeLine := by
    rw [List.size_toArray, ← hl]
    exact hz
  have a2 : ¬ its.toArray.size * k.toNat > (2 ^ 63 - 1) / 8 := by
    have h8 : (sizeLine : Nat) ≤ (2 ^ 63 - 1) / 8 := by decide
    omega
  have a3 : ¬ (!Builtin.List.listFitsIndex k) = true := by
    rw [fitsIndex_both h1 h2]; exact Bool.false_ne_true
  have a4 : ¬ Builtin.List.listTooLong (its.toArray.size * k.toNat) = true := by
    rw [notLongL a1]; exact Bool.false_ne_true
  have a5 : List.foldl (fun x1 x2 => x1 ++ x2) #[] (List.replicate (if its.toArray.isEmpty = true then 0 else k.toNat) its.toArray) =
      (List.replicate k.toNat its).flatten.toArray := by
    have f0 : ∀ m : Nat, List.foldl (fun x1 x2 => x1 ++ x2) #[] (List.replicate m its.toArray) = (List.replicate m its).flatten.toArray := fun m => by
      have := foldl_rep its m []
      rw [List.nil_append] at this; exact this
    rw [f0]
    cases its with
    | nil => simp
    | cons a r' => rw [if_neg (by simp)]
  refine wpAny_binaryOp_repeat_ref (T := "list") (U := "int") (by decide) ⟨_, e, rfl⟩ (fun s' => typeIs_int s' k t) noFill_list_mul F.fills_int_mul
    F.slot_int_rmul repeat_list F.slot_int_index.lookup
    (call_meets F.slot_int_rmul (typeIs_int s k t) F.entry_int_rmul (F.args_int_rmul_2 _ _) (int___rmul___int_list k t l its.toArray n)
      ⟨e, rfl, ⟨_, e, rfl⟩, call_meets F.slot_list_mul ⟨_, e, rfl⟩ F.entry_list_mul (F.args_list_mul_2 _ _)
        (AutoListH.list___mul___list_int_3 l its.toArray n k t a3 a2 a4) ⟨e, ?_⟩⟩)
  rw [a5]
  exact ⟨.ref _, _, I.lnew (t' := s.toks) (r.rep k.toNat) (by rw [PyProof.Rows.lm_len_rep_flat, Nat.mul_comm]; exact hz), rfl,
    q _ I.fresh (past1 I _ (Nat.le_refl _))⟩
end

/-! ### data -/
mutual
inductive Sh (H : Hp) : V → PyData → Prop
  | non : Sh H .non .none
  | bl (b : Bool) : Sh H (.bl b) (.bool b)
  | int (i : Int) : Sh H (.int i) (.int i)
  | str (x : Str) : Sh H (.str x) (.str x)
  | lst {a : Addr} {xs : List V} {ds : List PyData} : H a = some (.lst xs) → a ≠ sysModules → ShA H xs ds → Sh H (.ref a) (.list ds)
  | tup {a : Addr} {xs : List V} {ds : List PyData} : H a = some (.tup xs) → ShA H xs ds → Sh H (.ref a) (.tuple ds)
  | dct {a : Addr} {kvs : List (Int × Int)} : H a = some (.dK (kvs.map fun p => (Sum.inl p.1, V.int p.2))) →
      Sh H (.ref a) (.dict (kvs.map fun p => (PyData.int p.1, PyData.int p.2)))
inductive ShA (H : Hp) : List V → List PyData → Prop
  | nil : ShA H [] []
  | cons {v : V} {vs : List V} {d : PyData} {ds : List PyData} : Sh H v d → ShA H vs ds → ShA H (v :: vs) (d :: ds)
end
section
variable {H H' : Hp}
mutual
theorem Sh.same (k : Same H H') : ∀ (d : PyData) (v : V), Sh H v d → Sh H' v d
  | .none, _, h => by cases h; exact .non
  | .bool b, _, h => by cases h; exact .bl b
  | .int i, _, h => by cases h; exact .int i
  | .str x, _, h => by cases h; exact .str x
  | .list ds, _, h => by
    cases h with
    | lst e n a => exact .lst (k _ _ e) n (ShA.same k ds _ a)
  | .tuple ds, _, h => by
    cases h with
    | tup e a => exact .tup (k _ _ e) (ShA.same k ds _ a)
  | .dict _, _, h => by
    cases h with
    | dct e => exact .dct (k _ _ e)
theorem ShA.same (k : Same H H') : ∀ (ds : List PyData) (vs : List V), ShA H vs ds → ShA H' vs ds
  | [], _, h => by cases h; exact .nil
  | d :: ds, _, h => by
    cases h with
    | cons a b => exact .cons (Sh.same k d _ a) (ShA.same k ds _ b)
end
end
section
variable {X : Cx} {pins : List (Addr × Obj)} {σ : L2.St} {H : Hp} {s : Shared}
theorem ints_reads {h : Heap} : ∀ (l : List Int) (us : List Value), Vals (l.map V.int) us → ReadsAll h us (l.map PyData.int) []
  | [], _, r => by cases r; exact .nil
  | i :: l, _, r => by
    cases r with
    | cons r1 r2 =>
      obtain ⟨t, rfl⟩ := r1
      exact ReadsAll.cons (Reads.int i t) (ints_reads l _ r2)
theorem kv_reads {P : Program} {w : World} {h : Heap} : ∀ (kvs : List (Int × Int)) (es : List DictEntry) (vs : List (Key × Value)),
    KV (kvs.map fun p => ((Sum.inl p.1 : Key), V.int p.2)) vs → PySem.Pairs (mixKind P w) es vs →
    ReadsAll h (es.map (·.key)) (kvs.map fun p => PyData.int p.1) [] ∧ ReadsAll h (es.map (·.val)) (kvs.map fun p => PyData.int p.2) []
  | [], _, _, r, q => by
    cases r; cases q
    exact ⟨.nil, .nil⟩
  | (i, j) :: l, _, _, r, q => by
    cases r with
    | cons r1 r2 =>
      cases q with
      | cons q1 q2 q3 =>
        obtain ⟨h1, h2⟩ := kv_reads l _ _ r2 q3
        obtain ⟨e1, t, e2⟩ := r1
        rw [← e1] at q1
        obtain ⟨t2, e3⟩ := Value.isInt_shape (show Value.isInt i _ = true from q1)
        refine ⟨?_, ?_⟩
        · rw [List.map_cons, List.map_cons, e3]
          exact ReadsAll.cons (Reads.int i t2) h1
        · rw [List.map_cons, List.map_cons, q2, e2]
          exact ReadsAll.cons (Reads.int j t) h2
mutual
theorem Sh.reads (I : Inv X pins σ H s) : ∀ (d : PyData) (v : V) (u : Value), Sh H v d → RelV v u → ∃ as, Reads s.heap u d as ∧ sysModules ∉ as
  | .none, _, _, h, r => by
    cases h; cases r
    exact ⟨_, Reads.none, nofun⟩
  | .bool b, _, _, h, r => by
    cases h; cases r
    exact ⟨_, Reads.bool b, nofun⟩
  | .int i, _, _, h, r => by
    cases h
    obtain ⟨t, rfl⟩ := r
    exact ⟨_, Reads.int i t, nofun⟩
  | .str x, _, _, h, r => by
    cases h
    obtain ⟨t, rfl⟩ := r
    exact ⟨_, Reads.str x t, nofun⟩
  | .list ds, _, _, h, r => by
    cases h with
    | @lst a xs _ e n ha =>
      cases r
      obtain ⟨_, its, m, rv, ho⟩ := (show ObjOk X.prog X.w H s.heap a (.lst xs) from I.hok a _ e)
      obtain ⟨as, hr, hn⟩ := ShA.reads I ds _ its ha rv
      refine ⟨a :: as, Reads.list ho rfl rfl hr, fun hm => ?_⟩
      rcases List.mem_cons.mp hm with q | q
      · exact n q.symm
      · exact hn q
  | .tuple ds, _, _, h, r => by
    cases h with
    | @tup a xs _ e ha =>
      cases r
      obtain ⟨_, its, rv, o, ho, hc, n, hd⟩ := (show ObjOk X.prog X.w H s.heap a (.tup xs) from I.hok a _ e)
      obtain ⟨as, hr, hn⟩ := ShA.reads I ds _ its ha rv
      exact ⟨as, Reads.tuple ho hc hd hr, hn⟩
  | .dict _, _, _, h, r => by
    cases h with
    | @dct a kvs e =>
      cases r
      obtain ⟨_, hs, vs, rv, o, es, ep, ho, hc, hd, _, hpr, _⟩ := (show ObjOk X.prog X.w H s.heap a (.dK _) from I.hok a _ e)
      obtain ⟨h1, h2⟩ := kv_reads (h := s.heap) kvs _ _ rv hpr
      refine ⟨_, Reads.dict (as := []) (bs := []) ho hc.1 hd ?_ ?_, fun hm => ?_⟩
      · rw [List.map_map]; exact h1
      · rw [List.map_map]; exact h2
      · have q : sysModules = a := by simpa using hm
        rw [← q] at hs
        exact absurd hs (by decide)
theorem ShA.reads (I : Inv X pins σ H s) : ∀ (ds : List PyData) (vs : List V) (us : List Value), ShA H vs ds → Vals vs us → ∃ as, ReadsAll s.heap us ds as ∧ sysModules ∉ as
  | [], _, _, h, r => by
    cases h; cases r
    exact ⟨_, ReadsAll.nil, nofun⟩
  | d :: ds, _, _, h, r => by
    cases h with
    | cons h1 h2 =>
      cases r with
      | cons r1 r2 =>
        obtain ⟨as, q1, n1⟩ := Sh.reads I d _ _ h1 r1
        obtain ⟨bs, q2, n2⟩ := ShA.reads I ds _ _ h2 r2
        exact ⟨_, ReadsAll.cons q1 q2, fun hm => (List.mem_append.mp hm).elim n1 n2⟩
end
/-- repr(v), v an object -/
def rRepr : List V → Hp → VK → Prop := fun xs H Q => ∃ (a : Addr) (d : PyData), xs = [.ref a] ∧ Sh H (.ref a) d ∧ d.showable = true ∧ d.depth ≤ 20 ∧
  d.shown.length ≤ sizeLine ∧ Q (.str d.shown) H
theorem call_repr (hG : X.A.guards = some []) (hu : X.A.units + 21 < cLine) : CallR X (.builtin "repr") rRepr := by
  intro pins s σ H xs us Q I r h
  obtain ⟨a, d, rfl, hd, h1, h2, h3, q⟩ := h
  cases r with
  | cons rx rr =>
    cases rr
    obtain ⟨as, hr, hn⟩ := Sh.reads I d _ _ hd rx
    cases rx
    refine repr_of_reads' hr h1 (fun _ => hn) hG (by omega) (fun _ _ e => e) (fun h' u tk k => ?_) h3
    exact ⟨.str d.shown, H, I.kept k, ⟨u, rfl⟩, q⟩
end

/-! ### defs where no repr is under way -/
/-- the def at f keeps the promise sp wherever no guarded built-in runs -/
structure FnG (P : Program) (w : World) (K : PySem.W.Frag) (mg : Str → Option Value) (base : Heap) (k : Nat) (f : Addr) (fd : FuncData) (ps : List Str) (sp : Sp) : Prop where
  len : ∀ vs H Q E, sp vs H Q E → vs.length = ps.length
  run : ∀ (A : Around) (outer : List Env) (s : Shared) (H : Hp) (args : Args) (us : List Value) (vs : List V) (Q : VK) (E : XK), Room k A → A.guards = some [] →
    Env0 P w K mg base A outer s H → BindsTo s fd args (ps.zip us) → Vals vs us → sp vs H Q E → codeAny (model P w) A (.call (.ref f) args) (CR CX0 outer P w H s Q E) s
theorem fn_g {P : Program} {w : World} {K : PySem.W.Frag} {mg : Str → Option Value} {base : Heap} {k : Nat} {x qual : Str} {st : Stmt} {f : Addr} {fd : FuncData} {N ps : List Str} {sp : Sp}
    (F : Fun K x qual st f fd) (S : FnScope N ps (defScope st)) (len : ∀ vs H Q E, sp vs H Q E → vs.length = ps.length)
    (hbody : ∀ (cdv : Value) (A : Around) (outer : List Env) (s : Shared) (H : Hp) (vs : List V) (Q : VK) (E : XK),
      Room k (A.deeper (envOfC qual (defScope st) s.heap.objs.size f cdv)) → A.guards = some [] → sp vs H Q E →
      ∃ t, PSs (cxOf CX0 P w K mg base N qual (defScope st) f cdv A outer s H E).nox (defBody st) t ∧ t { nx := fun _ H' => Q .non H', rt := Q } (start N vs) H) :
    FnG P w K mg base (k + 1) f fd ps sp := by
  obtain ⟨oc, od, kV, doc, pm, an, cdv, ct, osl, rfl, lk, hcd⟩ := F.ex
  refine ⟨len, fun A outer s H args us vs Q E hr hG e0 hb r hsp => ?_⟩
  have hl := len _ _ _ _ hsp
  have KX : K.In s.heap := e0.mod.kin.keeps fun b o e => (e0.bs b o e).1
  have lim : s.heap.NoLimit := e0.mod.nolimit.keeps fun b o e => (e0.bs b o e).1
  have hkind : ∀ y ∈ ps.zip us, (defScope st).names.lookup y.1 = some .local ∨
      ((defScope st).names.lookup y.1 = some .cell ∧ ((cellsFrom (s.heap.objs.size + 1) (defScope st).names []).lookup y.1).isSome = true) := fun ⟨n, v⟩ hy => by
    rcases S.par n (List.of_mem_zip hy).1 with q | q
    · exact .inl q
    · exact .inr ⟨q, PySem.W.cellsFrom_some _ _ _ (.inl q)⟩
  refine codeAny_call_function hr.depth (KX _ _ lk) rfl S.co S.gen rfl (PySem.W.codeRec_of KX hcd) (hb _ _ _ _ ?_)
  refine wpAny_newFunctionEnv_cells S.kind hkind fun env he s1 x => ?_
  subst he
  refine ⟨lim.keeps x.toInCall.keep, codeAny_func ?_⟩
  obtain ⟨t, ht, hq⟩ := hbody cdv A outer s H vs Q E (hr.deeper _) hG hsp
  have I : Inv (cxOf CX0 P w K mg base N qual (defScope st) f cdv A outer s H E) [] (start N vs) H s1 := inv_start S hr.hd e0 hl r x
  refine wpAny_mono (ht.nox.run [] s1 (start N vs) H _ I hq) (fun fl s' hs => ?_) fun e s' hs => hs
  have fin : ∀ {σ' : L2.St} {H' : Hp} {v : V} {u : Value}, Inv (cxOf CX0 P w K mg base N qual (defScope st) f cdv A outer s H E) [] σ' H' s' → RelV v u → Q v H' → CE outer P w H s Q u s' :=
    fun {σ' H' v u} J rv q => ⟨v, H', J.os, J.bare, J.base, J.hok, rv, q⟩
  cases fl with
  | ret u =>
    obtain ⟨v, σ', H', J, rv, q⟩ := hs
    exact fin J rv q
  | next =>
    obtain ⟨σ', H', J, q⟩ := hs
    exact fin (v := V.non) (u := Value.none) J rfl q
  | brk =>
    obtain ⟨_, _, _, q⟩ := hs
    exact False.elim q
  | cont =>
    obtain ⟨_, _, _, q⟩ := hs
    exact False.elim q
section
variable {X : Cx} {k : Nat} {f : Addr} {fd : FuncData} {ps : List Str} {sp : Sp} {x : Str} {p pos : Pos} {e : Expr} {es : List Expr} {t : TA}
theorem pe_callg (F : FnG X.prog X.w X.K X.mg X.base k f fd ps sp) (hr : Room k X.A) (hG : X.A.guards = some []) (hg : Gl X x) (hm : X.mg x = some (.ref f)) (hk : PySem.W.keepIn X.K (.ref f) = true)
    (hb : Binds X.K fd ps []) (ha : PA X (e :: es) t) (hdb : (x == ("__debug__" : Str)) = false := by decide)
    (he : starEach (e :: es) X.env = (false, eval e X.env) :: starEach es X.env := by rfl) (hpl : (backTo pos (starEach es X.env)).any (·.1) = false := by rfl) :
    PE X (.Call (.Name x p) (e :: es) [] pos) (tCall sp [] E0 t) := by
  refine ⟨fun pins s σ H Q I h => ?_⟩
  refine wpAny_Call_Name_kw (ld_glob I hg hm ?_ hdb)
  refine PySem.W.callWith_K (h₀ := X.base) I.ok.mod.kin hk (thn (ha.run pos pins s σ H _ I h) fun us s1 ⟨vs, H1, I1, r, q⟩ => ⟨I1.kIn, ?_⟩) he hpl
  have q0 : sp (vs ++ []) H1 Q E0 := q
  rw [List.append_nil] at q0
  have hl : us.length = ps.length := by
    rw [← r.length]; exact F.len _ _ _ _ q0
  refine wpAny_call (codeAny_mono (F.run X.A X.stack s1 H1 ⟨us, []⟩ us vs Q E0 hr hG I1.env0 ?_ r q0) fun r s' hq => ?_)
  · have z := hb s1 us I1.kIn (by rw [List.append_nil]; exact hl)
    rw [List.append_nil] at z
    exact z
  · cases r with
    | error e => exact hq.elim
    | ok fl =>
      cases fl with
      | ret u => exact I1.after hq
      | next => exact False.elim hq
      | brk => exact False.elim hq
      | cont => exact False.elim hq
end
end Xk

/-! What is caught. -/
namespace Yk
open PySem PySem.Spec PyProof.Rows L2 SX Tq Zq CwR Xk LamX
def rReprV : List V → Hp → VK → Prop := fun xs H Q => ∃ (v : V) (d : PyData), xs = [v] ∧ Sh H v d ∧ d.showable = true ∧ d.depth ≤ 20 ∧
  d.shown.length ≤ sizeLine ∧ (∀ i, v = .int i → i.natAbs.log2 < 1920) ∧ Q (.str d.shown) H
theorem call_reprV {X : Cx} (hG : X.A.guards = some []) (hu : X.A.units + 21 < cLine) : CallR X (.builtin "repr") rReprV := by
  intro pins s σ H xs us Q I r h
  obtain ⟨v, d, rfl, hd, h1, h2, h3, hi, q⟩ := h
  cases r with
  | cons rx rr =>
    cases rr
    obtain ⟨as, hr, hn⟩ := Sh.reads I d _ _ hd rx
    cases hd with
    | non =>
      cases rx
      exact PySem.P.repr_of_none ⟨.str _, H, I.tok _, ⟨_, rfl⟩, q⟩
    | bl b =>
      cases rx
      refine PySem.P.repr_of_bool ⟨.str (PyData.bool b).shown, H, I.tok _, ⟨s.toks, ?_⟩, q⟩
      cases b <;> rfl
    | int i =>
      obtain ⟨t, rfl⟩ := rx
      exact PySem.P.repr_of_int (hi i rfl) ⟨.str (PyData.int i).shown, H, I.tok _, ⟨_, rfl⟩, q⟩
    | str x =>
      obtain ⟨t, rfl⟩ := rx
      exact PySem.P.repr_of_str ⟨.str (PyData.str x).shown, H, I.tok _, ⟨_, rfl⟩, q⟩ h3
    | lst e n a =>
      cases rx
      exact repr_of_reads' hr h1 (fun _ => hn) hG (by omega) (fun _ _ e => e) (fun h' u tk k => ⟨.str _, H, I.kept k, ⟨u, rfl⟩, q⟩) h3
    | tup e a =>
      cases rx
      exact repr_of_reads' hr h1 (fun _ => hn) hG (by omega) (fun _ _ e => e) (fun h' u tk k => ⟨.str _, H, I.kept k, ⟨u, rfl⟩, q⟩) h3
    | dct e =>
      cases rx
      exact repr_of_reads' hr h1 (fun _ => hn) hG (by omega) (fun _ _ e => e) (fun h' u tk k => ⟨.str _, H, I.kept k, ⟨u, rfl⟩, q⟩) h3
theorem pe_ex {X : Cx} {e : Expr} {te : TE} (h : PE X e te) : PE X e (fun σ H Q => ∃ Qv : VK, (∀ v H', Qv v H' → Q v H') ∧ te σ H Qv) :=
  ⟨fun pins s σ H Q I ⟨Qv, hv, h'⟩ => thn (h.run pins s σ H Qv I h') fun u s1 ⟨v, H', I', r, q⟩ => ⟨v, H', I', r, hv _ _ q⟩⟩
def tLen (n : Nat) (te : TE) : TE := fun σ H Q => σ.length = n → te σ H Q
theorem pe_len {X : Cx} {e : Expr} {te : TE} (h : PE X e te) : PE X e (tLen X.N.length te) :=
  ⟨fun pins s σ H Q I h' => h.run pins s σ H Q I (h' I.len)⟩
abbrev nCa : List Str := ["_law_act_here", "_law_back", "e"]
theorem s115 : FnScope nCa ["_law_act_here"] (defScope (top 115)) := (⟨rfl, rfl, rfl, by decide +kernel, rfl, by decide +kernel, by decide +kernel⟩)
/-- what _law_caught makes of what it calls -/
def TTc (C : Addr) : (XK → Hp → VK → Prop) → Hp → VK → Prop := fun tl H Q =>
  tl (fun cls d H' => cls = .ref C ∧ ∃ dd v dv, d = some dd ∧ H' dd = some (.xd [("given", v)]) ∧ Sh H' v dv ∧ dv.showable = true ∧ dv.depth ≤ 20 ∧ dv.shown.length ≤ sizeLine ∧ (∀ i, v = .int i → i.natAbs.log2 < 1920) ∧
      ∀ p, H' p = none → Q (.ref p) (upd H' p (.lst [.str "refused", .str dv.shown])))
    H (fun v H' => ∀ p, H' p = none → Q (.ref p) (upd H' p (.lst [.str "told", v])))
theorem caught_gives {X : Cx} {C Bc fI g : Addr} {cdg : Value} {q : Str} (hG : X.A.guards = some []) (hu : X.A.units + 64 < cLine) (B : Bl X.w X.K X.mg) (hrp : X.mg "repr" = none) (Y : TErr X.K X.mg C Bc fI) (T : XfC X.K C) (one : PySem.W.exmOne X.K (.ref C) (.ref C) = some true) :
    GivesTo X nCa "_law_caught" (defScope (top 115)) g cdg (defBody (top 115)) "_law_act_here" q (TTc C) := by
  intro f c' s H Q tl act hc h
  have hgl : Gl (cxOf C8.CX0 X.prog X.w X.K X.mg X.base nCa "_law_caught" (defScope (top 115)) g cdg X.A X.stack s H C8.E0).nox "InvalidTree" := by rfl
  have hpv : ∀ (a : Addr) (oe : Obj) (pn : List (Addr × Obj)) {p : Pos}, PE ((cxOf C8.CX0 X.prog X.w X.K X.mg X.base nCa "_law_caught" (defScope (top 115)) g cdg X.A X.stack s H C8.E0).nox.suite a ((a, oe) :: pn)) (.Name "e" p) (tLen 3 (tVar 2)) :=
    fun a oe pn {p} => pe_len (X := (cxOf C8.CX0 X.prog X.w X.K X.mg X.base nCa "_law_caught" (defScope (top 115)) g cdg X.A X.stack s H C8.E0).nox.suite a ((a, oe) :: pn)) (pv 2)
  refine ⟨_, pss_cons (L2.ps_try_as (X := (cxOf C8.CX0 X.prog X.w X.K X.mg X.base nCa "_law_caught" (defScope (top 115)) g cdg X.A X.stack s H C8.E0).nox) (c := .ref C) (i := 2)
      (tb := fun W D σ H => ∃ (Ech : XK) (Qv : VK), (∀ cls d σ' H', Ech cls d H' → W cls d σ' H') ∧ (∀ v H', Qv v H' → D.nx (σ.set 1 (some v)) H') ∧ σ[0]? = some (some (.ref f)) ∧ H c' = some (CodeO c' q) ∧ tl Ech H Qv)
      rfl rfl s115.nd rfl rfl ⟨hgl, by decide, .inl Y.mC⟩ LamX.takes0 (fun W pn xe tk _ => ?_) (fun a oe cls d pn hz hf => pss_one (ps_ret (pe_lst (pa_cons pe_str (pa_cons (pe_callB (call_reprV (X := Cx.suite _ a ((a, oe) :: pn)) hG (by show X.A.units + 3 + 21 < cLine; omega)) (by rfl) hrp PyProof.Rows.boot_repr (pa_cons (pe_xf T Y.hno hz hf (hpv a oe pn)) pa_nil)) pa_nil))))))
      (pss_one (ps_ret (pe_lst (pa_cons pe_str (pa_cons (pv 1) pa_nil))))), ?_⟩
  · refine ⟨fun pins s' σ H' D I h' => ?_⟩
    obtain ⟨Ech, Qv, hW, hQ, h1, h2, h3⟩ := h'
    refine (pss_one ((ps_set (i := 1) (FnScope.nd s115) rfl (Or.inl rfl) (pe_ex (act W pn xe Ech _ _ tk hW))))).run pins s' σ H' D I ⟨Qv, hQ, h1, h2, h3⟩
  · refine ⟨_, _, fun cls d σ' H' hE => ?_, fun v H' hv => ?_, rfl, hc, h⟩
    · obtain ⟨rfl, dd, v, dv, rfl, hdd, hsh, h1, h2, h3, h4, h5⟩ := hE
      refine ⟨true, one, fun _ a ha => ?_, nofun⟩
      refine fun hl => ⟨_, ?_, rfl, rfl, dd, _, v, rfl, hdd, rfl, v, dv, rfl, hsh, h1, h2, h3, h4, (by show 2 ≤ sizeLine; decide), fun p np => h5 p np⟩
      have hl : (σ'.set 2 (some (V.ref a))).length = 3 := hl
      rw [List.length_set] at hl
      exact List.getElem?_set_self (by omega)
    · exact ⟨_, rfl, (by show 2 ≤ sizeLine; decide), fun p np => hv p np⟩
end Yk

/-! What the law takes for a tree, and its text. -/
namespace Yk
open PySem PySem.Spec PyProof.Rows L2 SX Tq Zq CwR Xk LamX
/-- all signs can be laid -/
abbrev LayS (x : Str) : Prop := x.cps.all (fun c => decide (c < 0x110000)) = true
theorem lay_app {x y : Str} (hx : LayS x) (hy : LayS y) : LayS (x ++ y) := by
  show (x.cps ++ y.cps).all _ = true
  rw [Array.all_append]
  rw [hx, hy]
  rfl
theorem rc_fact : ∀ q ∈ [34, 39], ∀ c < 128, (PySem.Builtin.Str.reprChar q c).length ≤ 4 ∧ (PySem.Builtin.Str.reprChar q c).all (fun c => decide (c < 0x110000)) = true := by decide +kernel
theorem fold_lay {q : Nat} (hq : q ∈ [34, 39]) : ∀ (l : List Nat) (acc : Array Nat), Asc l → acc.all (fun c => decide (c < 0x110000)) = true →
    (l.foldl (fun out c => out ++ (PySem.Builtin.Str.reprChar q c).toArray) acc).all (fun c => decide (c < 0x110000)) = true ∧ (l.foldl (fun out c => out ++ (PySem.Builtin.Str.reprChar q c).toArray) acc).size ≤ acc.size + 4 * l.length
  | [], acc, _, h => ⟨h, by simp⟩
  | c :: r, acc, ha, h => by
    obtain ⟨f1, f2⟩ := rc_fact q hq c (ha c (List.mem_cons_self ..))
    have h2 : (acc ++ (PySem.Builtin.Str.reprChar q c).toArray).all (fun c => decide (c < 0x110000)) = true := by
      rw [Array.all_append, h, List.all_toArray, f2]
      rfl
    obtain ⟨i1, i2⟩ := fold_lay hq r (acc ++ (PySem.Builtin.Str.reprChar q c).toArray) (fun x hx => ha x (List.mem_cons_of_mem _ hx)) h2
    refine ⟨i1, ?_⟩
    have sz : (acc ++ (PySem.Builtin.Str.reprChar q c).toArray).size = acc.size + (PySem.Builtin.Str.reprChar q c).length := by rw [Array.size_append]; rfl
    rw [sz] at i2
    rw [List.foldl_cons, List.length_cons]
    omega
theorem rep_lay {l : List Nat} (ha : Asc l) : LayS (reprText (S l)) ∧ (reprText (S l)).length ≤ 4 * l.length + 2 := by
  have hq : reprQuote (S l) ∈ [34, 39] := by
    unfold reprQuote
    split
    · exact List.mem_cons_self ..
    · exact List.mem_cons_of_mem _ (List.mem_cons_self ..)
  have h0 : (#[reprQuote (S l)] : Array Nat).all (fun c => decide (c < 0x110000)) = true := by
    rcases List.mem_cons.mp hq with e | e
    · rw [e]; decide +kernel
    · rw [List.mem_singleton.mp e]; decide +kernel
  have h0' : decide (reprQuote (S l) < 0x110000) = true := by
    rcases List.mem_cons.mp hq with e | e
    · rw [e]; decide +kernel
    · rw [List.mem_singleton.mp e]; decide +kernel
  obtain ⟨a, b⟩ := fold_lay hq l #[reprQuote (S l)] ha h0
  have e : (S l).cps.foldl (fun out c => out ++ (PySem.Builtin.Str.reprChar (reprQuote (S l)) c).toArray) #[reprQuote (S l)] = l.foldl (fun out c => out ++ (PySem.Builtin.Str.reprChar (reprQuote (S l)) c).toArray) #[reprQuote (S l)] := by
    show l.toArray.foldl _ _ = _
    rw [List.foldl_toArray]
  constructor
  · unfold reprText
    rw [e]
    show (Array.push _ _).all _ = true
    rw [Array.all_push, a, h0']
    rfl
  · unfold reprText
    rw [e]
    show (Array.push _ _).size ≤ _
    rw [Array.size_push]
    have : (#[reprQuote (S l)] : Array Nat).size = 1 := rfl
    omega
/-- what is handed on: its data, how it is shown -/
structure Sho2 (d : PyData) : Prop where
  sh : d.showable = true
  dp : d.depth ≤ 20
  ln : d.shown.length ≤ 10000
  la : LayS d.shown
theorem sho_str {l : List Nat} (ha : Asc l) (hl : l.length ≤ 2000) : Sho2 (.str (S l)) := by
  obtain ⟨a, b⟩ := rep_lay ha
  exact ⟨rfl, by simp [PyData.depth], Nat.le_trans b (by omega), a⟩
theorem sho_lst1 {l : List Nat} (ha : Asc l) (hl : l.length ≤ 2000) : Sho2 (.list [.str (S l)]) := by
  obtain ⟨a, b⟩ := rep_lay ha
  have e : (PyData.list [.str (S l)]).shown = ("[" : Str) ++ ("" : Str) ++ reprText (S l) ++ ("]" : Str) := rfl
  refine ⟨rfl, by simp [PyData.depth, PyData.depthAll], ?_, ?_⟩
  · rw [e, strLen_append, strLen_append, strLen_append]
    have : (("[" : Str)).length = 1 ∧ (("]" : Str)).length = 1 ∧ (("" : Str)).length = 0 := ⟨rfl, rfl, rfl⟩
    omega
  · rw [e]
    exact lay_app (lay_app (lay_app (by decide +kernel) (by decide +kernel)) a) (by decide +kernel)
theorem sho_tup1 {l : List Nat} (ha : Asc l) (hl : l.length ≤ 2000) : Sho2 (.tuple [.str (S l)]) := by
  obtain ⟨a, b⟩ := rep_lay ha
  have e : (PyData.tuple [.str (S l)]).shown = ("(" : Str) ++ reprText (S l) ++ (",)" : Str) := rfl
  refine ⟨rfl, by simp [PyData.depth, PyData.depthAll], ?_, ?_⟩
  · rw [e, strLen_append, strLen_append]
    have : (("(" : Str)).length = 1 ∧ ((",)" : Str)).length = 2 := ⟨rfl, rfl⟩
    omega
  · rw [e]
    exact lay_app (lay_app (by decide +kernel) a) (by decide +kernel)
/-- a thing that is no text -/
inductive Odd (H : Hp) : V → PyData → Prop
  | non : Odd H .non .none
  | five : Odd H (.int 5) (.int 5)
  | tru : Odd H (.bl true) (.bool true)
  | tup0 {a : Addr} : H a = some (.tup []) → Odd H (.ref a) (.tuple [])
  | lst1 {a : Addr} {l : List Nat} : H a = some (.lst [.str (S l)]) → a ≠ sysModules → Asc l → l.length ≤ 2000 → Odd H (.ref a) (.list [.str (S l)])
  | tup1 {a : Addr} {l : List Nat} : H a = some (.tup [.str (S l)]) → Asc l → l.length ≤ 2000 → Odd H (.ref a) (.tuple [.str (S l)])
  | dct {a : Addr} : H a = some (.dK []) → Odd H (.ref a) (.dict [])
  | tup2 {a : Addr} : H a = some (.tup [.str "[", .str "l"]) → Odd H (.ref a) (.tuple [.str "[", .str "l"])
/-- a thing -/
inductive Thing (H : Hp) : V → PyData → Prop
  | txt {l : List Nat} : Asc l → l.length ≤ 2000 → Thing H (.str (S l)) (.str (S l))
  | odd {v : V} {d : PyData} : Odd H v d → Thing H v d
section
variable {H H' : Hp} {v : V} {d : PyData}
theorem Odd.sho (h : Odd H v d) : Sho2 d := by
  cases h with
  | non => exact ⟨rfl, by simp [PyData.depth], by decide +kernel, by decide +kernel⟩
  | five => exact ⟨by decide +kernel, by simp [PyData.depth], by decide +kernel, by decide +kernel⟩
  | tru => exact ⟨rfl, by simp [PyData.depth], by decide +kernel, by decide +kernel⟩
  | tup0 _ => exact ⟨rfl, by simp [PyData.depth, PyData.depthAll], by decide +kernel, by decide +kernel⟩
  | lst1 _ _ a b => exact sho_lst1 a b
  | tup1 _ a b => exact sho_tup1 a b
  | dct _ => exact ⟨rfl, by simp [PyData.depth, PyData.depthKv], by decide +kernel, by decide +kernel⟩
  | tup2 _ => exact ⟨rfl, by simp [PyData.depth, PyData.depthAll], by decide +kernel, by decide +kernel⟩
theorem Thing.sho (h : Thing H v d) : Sho2 d := by
  cases h with
  | txt a b => exact sho_str a b
  | odd o => exact o.sho
theorem Odd.sh (h : Odd H v d) : Sh H v d := by
  cases h with
  | non => exact .non
  | five => exact .int 5
  | tru => exact .bl true
  | tup0 e => exact .tup e .nil
  | lst1 e n _ _ => exact .lst e n (.cons (.str _) .nil)
  | tup1 e _ _ => exact .tup e (.cons (.str _) .nil)
  | dct e => exact .dct (kvs := []) e
  | tup2 e => exact .tup e (.cons (.str _) (.cons (.str _) .nil))
theorem Thing.sh (h : Thing H v d) : Sh H v d := by
  cases h with
  | txt a b => exact .str _
  | odd o => exact o.sh
/-- what keeps all but tables keeps a thing -/
theorem Odd.ext (h : Odd H v d) (e : ExtN H H') : Odd H' v d := by
  cases h with
  | non => exact .non
  | five => exact .five
  | tru => exact .tru
  | tup0 q => exact .tup0 (e _ _ q (fun _ z => by cases z))
  | lst1 q n a b => exact .lst1 (e _ _ q (fun _ z => by cases z)) n a b
  | tup1 q a b => exact .tup1 (e _ _ q (fun _ z => by cases z)) a b
  | dct q => exact .dct (e _ _ q (fun _ z => by cases z))
  | tup2 q => exact .tup2 (e _ _ q (fun _ z => by cases z))
theorem Thing.ext (h : Thing H v d) (e : ExtN H H') : Thing H' v d := by
  cases h with
  | txt a b => exact .txt a b
  | odd o => exact .odd (o.ext e)
theorem Odd.int (h : Odd H v d) (i : Int) (e : v = .int i) : i.natAbs.log2 < 1920 := by
  cases h with
  | five => cases e; decide
  | _ => cases e
theorem Thing.int (h : Thing H v d) (i : Int) (e : v = .int i) : i.natAbs.log2 < 1920 := by
  cases h with
  | txt _ _ => cases e
  | odd o => exact o.int i e
end
end Yk

/-! Defs whose code object is known; a lambda that is caught. -/
namespace Yk
open PySem PySem.Spec PyProof.Rows L2 SX Tq Zq CwR Xk LamX
structure FunC (K : PySem.W.Frag) (x : Str) (st : Stmt) (f : Addr) (fd : FuncData) (c : Addr) : Prop where
  ex : ∃ (oc : Value) (od : Option Addr) (kV doc pm : Value) (an : Option Addr) (ct : Value) (osl : Array (Option Value)),
    fd = PySem.W.fnOf x x (defArgs st) (defBody st) (defScope st) .none kV doc pm an (.ref c) ct ∧ K.lookup f = some ⟨oc, od, .func fd, osl⟩ ∧ PySem.W.codeIn K (.ref c) x = true
  kp : PySem.W.keepIn K (.ref f) = true
theorem FunC.toFun {K : PySem.W.Frag} {x : Str} {st : Stmt} {f : Addr} {fd : FuncData} {c : Addr} (F : FunC K x st f fd c) : Fun K x x st f fd := by
  obtain ⟨oc, od, kV, doc, pm, an, ct, osl, h1, h2, h3⟩ := F.ex
  exact ⟨⟨oc, od, kV, doc, pm, an, .ref c, ct, osl, h1, h2, h3⟩, F.kp⟩
/-- a def where no repr is under way -/
structure CalG (P : Program) (w : World) (K : PySem.W.Frag) (mg : Str → Option Value) (base : Heap) (k : Nat) (x : Str) (ps : List Str) (sp : Sp) : Prop where
  ex : ∃ f fd, FnG P w K mg base k f fd ps sp ∧ Binds K fd ps [] ∧ mg x = some (.ref f) ∧ PySem.W.keepIn K (.ref f) = true
theorem mkGC {P : Program} {w : World} {K : PySem.W.Frag} {mg : Str → Option Value} {base : Heap} {sp : Sp} {N ps : List Str} {x : Str} {st : Stmt} {k : Nat} {f : Addr} {fd : FuncData} {c : Addr}
    (F : FunC K x st f fd c) (m : mg x = some (.ref f)) (Sc : FnScope N ps (defScope st))
    (hb : ∀ (kV doc pm : Value) (an : Option Addr) (cdv ct : Value) (us : List Value), us.length = ps.length → bindArgs (PySem.W.fnOf x x (defArgs st) (defBody st) (defScope st) .none kV doc pm an cdv ct) ⟨us, []⟩ = pure (ps.zip us))
    (hl : ∀ vs H Q E, sp vs H Q E → vs.length = ps.length)
    (h : ∀ (A : Around) (outer : List Env) (s : Shared) (H : Hp) (vs : List V) (Q : VK) (E : XK), Room k (A.deeper (envOfC x (defScope st) s.heap.objs.size f (.ref c))) → A.guards = some [] → sp vs H Q E →
      ∃ t, PSs (cxOf CX0 P w K mg base N x (defScope st) f (.ref c) A outer s H E).nox (defBody st) t ∧ t { nx := fun _ H' => Q .non H', rt := Q } (L2.start N vs) H) :
    CalG P w K mg base (k + 1) x ps sp := by
  have bnd := F.toFun.binds hb
  obtain ⟨oc, od, kV, doc, pm, an, ct, osl, rfl, lk, hcd⟩ := F.ex
  refine ⟨f, _, ⟨hl, fun A outer s H args us vs Q E hr hG e0 hb r hsp => ?_⟩, bnd, m, F.kp⟩
  refine run_ofS lk hcd Sc hr e0 hb r (hl _ _ _ _ hsp) fun hr' => ?_
  obtain ⟨t, ht, hq⟩ := h A outer s H vs Q E hr' hG hsp
  exact ⟨t, ht.nox, hq⟩
theorem mkG {P : Program} {w : World} {K : PySem.W.Frag} {mg : Str → Option Value} {base : Heap} {sp : Sp} {N ps : List Str} {x : Str} {st : Stmt} {k : Nat}
    (D : Df K mg x st) (Sc : FnScope N ps (defScope st))
    (hb : ∀ (kV doc pm : Value) (an : Option Addr) (cdv ct : Value) (us : List Value), us.length = ps.length → bindArgs (PySem.W.fnOf x x (defArgs st) (defBody st) (defScope st) .none kV doc pm an cdv ct) ⟨us, []⟩ = pure (ps.zip us))
    (hl : ∀ vs H Q E, sp vs H Q E → vs.length = ps.length)
    (h : ∀ (f : Addr) (cdv : Value) (A : Around) (outer : List Env) (s : Shared) (H : Hp) (vs : List V) (Q : VK) (E : XK), Room k (A.deeper (envOfC x (defScope st) s.heap.objs.size f cdv)) → A.guards = some [] → sp vs H Q E →
      ∃ t, PSs (cxOf CX0 P w K mg base N x (defScope st) f cdv A outer s H E).nox (defBody st) t ∧ t { nx := fun _ H' => Q .non H', rt := Q } (L2.start N vs) H) :
    CalG P w K mg base (k + 1) x ps sp := by
  obtain ⟨f, fd, F, m⟩ := D.ex
  exact ⟨f, fd, fn_g F Sc hl (fun cdv A outer s H vs Q E hr hG hsp => h f cdv A outer s H vs Q E hr hG hsp), F.binds hb, m, F.kp⟩
theorem pe_clG {X : Cx} {k j : Nat} {ps : List Str} {sp : Sp} {x : Str} {p pos : Pos} {e : Expr} {es : List Expr} {t : TA} (C : CalG X.prog X.w X.K X.mg X.base k x ps sp) (hr : Room j X.A) (hG : X.A.guards = some []) (ha : PA X (e :: es) t) (hkj : k ≤ j := by decide) (hg : Gl X x := by rfl) (hdb : (x == ("__debug__" : Str)) = false := by decide)
    (he : starEach (e :: es) X.env = (false, eval e X.env) :: starEach es X.env := by rfl) (hpl : (backTo pos (starEach es X.env)).any (·.1) = false := by rfl) :
    PE X (.Call (.Name x p) (e :: es) [] pos) (tCall sp [] E0 t) := by
  obtain ⟨f, fd, F, b, m, kp⟩ := C.ex
  exact pe_callg F (hr.mono hkj) hG hg m kp b ha hdb he hpl
/-! ### what stays -/
/-- all but lists stay -/
def KL (H H' : Hp) : Prop := ∀ b o, H b = some o → (∀ xs, o ≠ .lst xs) → H' b = some o
theorem codeO_nl {c : Addr} {q : Str} (xs : List V) : CodeO c q ≠ .lst xs := fun z => by
  unfold CodeO at z
  cases z
theorem Tabs.kl {T : List (Addr × Str)} {H H' : Hp} (t : Tabs T H) (k : KL H H') : Tabs T H' := fun p hp => by
  obtain ⟨ps, h1, h2, h3⟩ := t p hp
  refine ⟨ps, k _ _ h1 (fun _ z => by cases z), h2, fun pos cv hc => ?_⟩
  obtain ⟨c, e1, e2⟩ := h3 pos cv hc
  exact ⟨c, e1, k _ _ e2 codeO_nl⟩
theorem KL.of {H H' : Hp} (s : Same H H') : KL H H' := fun b o e _ => s b o e
theorem KL.ofX {r : Addr} {H H' : Hp} (s : SameX r H H') (hR : RkI H r) : KL H H' := fun b o e n => by
  refine s b o (fun z => ?_) e
  obtain ⟨x, y, zz, q⟩ := hR
  rw [z, q] at e
  cases e
  exact n _ rfl
theorem KL.put {H : Hp} {l : Addr} {xs ys : List V} (h : H l = some (.lst xs)) : KL H (upd H l (.lst ys)) := fun b o e n => by
  rw [upd_ne (fun z => by rw [z, h] at e; cases e; exact n _ rfl)]
  exact e
/-- all but the rack and tables stay -/
def KX (r : Addr) (H H' : Hp) : Prop := ∀ b o, b ≠ r → (∀ ps, o ≠ .tbl ps) → H b = some o → H' b = some o
theorem KX.trans {r : Addr} {H H1 H2 : Hp} (a : KX r H H1) (b : KX r H1 H2) : KX r H H2 := fun c o n t e => b c o n t (a c o n t e)
theorem KX.ofX {r : Addr} {H H' : Hp} (s : SameX r H H') : KX r H H' := fun b o n _ e => s b o n e
theorem KX.ofN {r : Addr} {H H' : Hp} (s : ExtN H H') : KX r H H' := fun b o _ t e => s b o e t
theorem KX.of {r : Addr} {H H' : Hp} (s : Same H H') : KX r H H' := fun b o _ _ e => s b o e
theorem KX.put {r l : Addr} {H0 H : Hp} {o : HO} (s : KX r H0 H) (n : H0 l = none) : KX r H0 (upd H l o) := fun b u h t e => by
  rw [upd_ne (ne_of_none e n)]
  exact s b u h t e
theorem RkI.extN {r : Addr} {H H' : Hp} (h : RkI H r) (e : ExtN H H') : RkI H' r := by
  obtain ⟨a, b, c, q⟩ := h
  exact ⟨a, b, c, e _ _ q (fun _ z => by cases z)⟩
theorem InS.extN {CS : Addr} {H H' : Hp} {v : V} (h : InS CS H v) (e : ExtN H H') : InS CS H' v := by
  obtain ⟨sh, dx, fs, rfl, q⟩ := h
  exact ⟨sh, dx, fs, rfl, e _ _ q (fun _ z => by cases z)⟩
theorem InS.kl {CS : Addr} {H H' : Hp} {v : V} (h : InS CS H v) (e : KL H H') : InS CS H' v := by
  obtain ⟨sh, dx, fs, rfl, q⟩ := h
  exact ⟨sh, dx, fs, rfl, e _ _ q (fun _ z => by cases z)⟩
theorem InS.same {CS : Addr} {H H' : Hp} {v : V} (h : InS CS H v) (e : Same H H') : InS CS H' v := InS.kl h (KL.of e)
/-! ### a lambda that is caught -/
/-- what the calls of _law_caught need -/
structure CaU (w : World) (K : PySem.W.Frag) (mg : Str → Option Value) (C Bc fI : Addr) : Prop where
  B : Bl w K mg
  rp : mg "repr" = none
  Y : TErr K mg C Bc fI
  T : XfC K C
  one : PySem.W.exmOne K (.ref C) (.ref C) = some true
  D : Df K mg "_law_caught" (top 115)
theorem pe_lam {X : Cx} {C Bc fI c Pt : Addr} {q : Str} {k : Nat} {params : Arguments} {body : Expr} {scope : Scope} {t : XK → TE} {p lpos pos : Pos} (U : CaU X.w X.K X.mg C Bc fI) (hG : X.A.guards = some []) (hu : X.A.units + 64 < cLine)
    (hg : Gl X "_law_caught") (TB : TabB X.base X.mg c Pt) (hcode : X.env.code = .ref c) (hq : X.env.qual ++ "<lambda>" = q) (hr : Room (k + 2) X.A) (L : LamS X.env.scope scope) (hdef : defaultsOf params X.env = ([], []))
    (hbind : ∀ (q : Str) (cl : List (Str × Addr)) (pm cv ctv : Value), bindArgs (PySem.W.kla_fn "<lambda>" q params body scope cl pm cv ctv) ⟨[], []⟩ = pure [])
    (hbody : ∀ (A : Around) (outer : List Env) (s : Shared) (H : Hp) (E : XK) (f c' : Addr), Room k (A.deeper (lamEnv X scope s.heap.objs.size f c')) → PE (lamCx X A outer s H E scope f c') body (t E)) :
    PE X (.Call (.Name "_law_caught" p) [.Lambda params body scope lpos] [] pos) (tLam [(Pt, q)] (TTc C) t) := by
  subst hq
  obtain ⟨g, fd, F, m⟩ := U.D.ex
  have bnd := F.binds (ps := ["_law_act_here"]) (fun _ _ _ _ _ _ us hl => match us, hl with | [_], _ => rfl)
  obtain ⟨oc, od, kV, doc, pm, an, cdv, ct, osl, rfl, lk, hcd⟩ := F.ex
  exact pe_lamcall (a := "_law_act_here") (Ng := nCa) hg m F.kp lk hcd bnd s115 rfl (Or.inl rfl) (caught_gives hG hu U.B U.rp U.Y U.T U.one) TB hcode (List.mem_cons_self ..)
    (fun p hp _ => by rw [List.mem_singleton.mp hp]) hr L hdef hbind hbody
end Yk

/-! What _law_right does, turn by turn. -/
namespace Yk
open PySem PySem.Spec PyProof.Rows L2 SX Tq Zq CwR Xk LamX
theorem jn_all {p : Nat → Bool} (h : p 32 = true) : ∀ l : List (List Nat), (∀ x ∈ l, x.all p = true) → (jn l).all p = true
  | [], _ => rfl
  | [x], hx => by rw [jn]; exact hx x (by simp)
  | x :: y :: r, hx => by
    rw [jn, List.all_append, List.all_cons, h, jn_all h (y :: r) (fun z hz => hx z (List.mem_cons_of_mem _ hz)), hx x (by simp)]
    rfl
theorem tx_all : ∀ (n : Nat) (t : Tr), sizeOf t ≤ n → (tx t).all (fun c => decide (c < 128)) = true := by
  intro n
  induction n with
  | zero =>
    intro t h
    cases t <;> simp at h
  | succ n ih =>
    intro t h
    cases t with
    | leaf b => cases b <;> rfl
    | node b ps =>
      rw [tx, List.all_cons, List.all_append, jn_all (by decide) _ (fun x hx => ?_)]
      · cases b <;> rfl
      · rw [txs_map] at hx
        obtain ⟨t, ht, rfl⟩ := List.mem_map.mp hx
        refine ih t ?_
        have := List.sizeOf_lt_of_mem ht
        simp at h
        omega
theorem ok_S {l : List Nat} (h : l.all (fun c => decide (c < 128)) = true) : PyData.canLay0 (.str (S l)) = true := by
  show (S l).cps.all (fun c => decide (c < 0x110000)) = true
  rw [List.all_toArray]
  refine List.all_eq_true.mpr fun c hc => ?_
  have := of_decide_eq_true (List.all_eq_true.mp h c hc)
  exact decide_eq_true (by omega)
section
variable {P : Program} {w : World} {K : PySem.W.Frag} {mg : Str → Option Value} {base : Heap}
theorem all_gr (D : Df K mg "_law_grown" (top 111)) (B : Bl w K mg) (CO : Cal P w K mg base 2 "_law_of" ["_law_well_here", "_law_things"] spOf) (CS : Cal P w K mg base 2 "_law_sizes" ["_law_well_here", "_law_many"] spSi) : ∀ n, n ≤ 20 → Cal P w K mg base (n + 2) "_law_grown" ["_law_well_here", "_law_many"] (spGr n)
  | 0, _ => c_gr0 D
  | n + 1, h => c_gr (j := n + 2) (by omega) (by omega) D B CO CS (all_gr D B CO CS n (by omega))
def tSh (CS : Addr) : TE := fun _ H Q => ∀ v H', Same H H' → InS CS H' v → Q v H'
/-- Shape(..) of the one text gives an instance -/
structure MkSh (P : Program) (w : World) (K : PySem.W.Frag) (mg : Str → Option Value) (base : Heap) (CS : Addr) (j : Nat) : Prop where
  pe : ∀ (X : Cx) (p p2 pos : Pos), X.prog = P → X.w = w → X.K = K → X.mg = mg → X.base = base → X.calm = true → Room j X.A → Gl X "Shape" → PE X (.Call (.Name "Shape" p) [.Constant (.str "root 1 of 2 -4 1") 0 p2] [] pos) (tSh CS)
abbrev nRi : List Str := ["_law_well_here", "_law_shape_here", "_law_turn", "_law_said_here", "_law_again", "_law_odd", "_law_thing", "_law_many", "_law_came"]
theorem s116 : FnScope nRi ["_law_well_here"] (defScope (top 116)) := (⟨rfl, rfl, rfl, by decide +kernel, rfl, by decide +kernel, by decide +kernel⟩)
def spRi (Pt : Addr) : Sp := fun vs H Q _ => ∃ r, vs = [.ref r] ∧ RkI H r ∧ Tabs [(Pt, "_law_right.<locals>.<lambda>")] H ∧ ∀ H', KX r H H' → RkI H' r → Tabs [(Pt, "_law_right.<locals>.<lambda>")] H' → Q (.bl true) H'
structure Us (P : Program) (w : World) (K : PySem.W.Frag) (mg : Str → Option Value) (base : Heap) (C Bc fI CS : Addr) : Prop where
  U : CaU w K mg C Bc fI
  sh : MkSh P w K mg base CS 37
  dip : Cal P w K mg base 1 "_law_dip" ["_law_well_here", "_law_many"] spDip
  of : Cal P w K mg base 2 "_law_of" ["_law_well_here", "_law_things"] spOf
  gr : Cal P w K mg base 16 "_law_grown" ["_law_well_here", "_law_many"] (spGr 14)
  sd : Cal P w K mg base 15 "_law_said" ["_law_node"] (spSd 14)
  be : Cal P w K mg base 3 "_law_bent" ["_law_well_here", "_law_said_here"] spBe
  rd : Cal P w K mg base 1 "_law_reads" ["_law_said_here"] spRd
  pan : CalX P w K mg base 4 "panes_of" ["tree"] (spPan K C)
  panK : CalXK P w K mg base 4 "panes_of" ["tree"] ["tree"] g1 g1 (spPan K C)
  pla : CalX P w K mg base 37 "plain" ["tree"] (spPla K C)
  rat : CalX P w K mg base 4 "ratio" ["shape", "tree"] (spBad K C CS)
  laiK : CalXK P w K mg base 4 "laid" ["shape", "tree"] ["tree", "shape"] g2 g2 (spBad K C CS)
  sho : CalX P w K mg base 4 "shapes_of" ["tree"] (spSho K C)
end
/-! ### a thing and what a call makes of it -/
section
variable {P : Program} {w : World} {K : PySem.W.Frag} {mg : Str → Option Value} {base : Heap} {H H' : Hp} {v : V} {d : PyData} {C CS Pt r l : Addr}
theorem Odd.bad (o : Odd H v d) : BadT K H v := by
  cases o with
  | non => exact .inr ⟨_, .base .non, kit_ty (by decide +kernel)⟩
  | five => exact .inr ⟨_, .base (.int 5), kit_ty (by decide +kernel)⟩
  | tru => exact .inr ⟨_, .base (.bl true), kit_ty (by decide +kernel)⟩
  | tup0 e => exact .inr ⟨_, .base (.tup e), kit_ty (by decide +kernel)⟩
  | lst1 e _ _ _ => exact .inr ⟨_, .base (.lst e), kit_ty (by decide +kernel)⟩
  | tup1 e _ _ => exact .inr ⟨_, .base (.tup e), kit_ty (by decide +kernel)⟩
  | dct e => exact .inr ⟨_, .base (.dK e), kit_ty (by decide +kernel)⟩
  | tup2 e => exact .inr ⟨_, .base (.tup e), kit_ty (by decide +kernel)⟩
theorem Odd.notStr (o : Odd H v d) : ∃ ty, TyX K H v ty ∧ PySem.W.kitOne K ty (.type "str") = some false := by
  cases o with
  | non => exact ⟨_, .base .non, kit_ty (by decide +kernel)⟩
  | five => exact ⟨_, .base (.int 5), kit_ty (by decide +kernel)⟩
  | tru => exact ⟨_, .base (.bl true), kit_ty (by decide +kernel)⟩
  | tup0 e => exact ⟨_, .base (.tup e), kit_ty (by decide +kernel)⟩
  | lst1 e _ _ _ => exact ⟨_, .base (.lst e), kit_ty (by decide +kernel)⟩
  | tup1 e _ _ => exact ⟨_, .base (.tup e), kit_ty (by decide +kernel)⟩
  | dct e => exact ⟨_, .base (.dK e), kit_ty (by decide +kernel)⟩
  | tup2 e => exact ⟨_, .base (.tup e), kit_ty (by decide +kernel)⟩
theorem out_one (t : Tr) (n : Nat) : outO (some ⟨[t], [], [], false⟩) n = if n < 13 then n else 0 := by
  show (if _ then _ else _) = _
  by_cases h : n < 13
  · rw [if_pos ⟨rfl, rfl, h⟩, if_pos h]
  · rw [if_neg (fun z => h z.2.2), if_neg h]
theorem txt_bad {l : List Nat} (ll : l.length ≤ 2000) (h : outO (run m0 l) (ct l) = 0) : BadT K H (.str (S l)) := by
  refine .inl ⟨l, rfl, by omega, fun t g => ?_⟩
  have g : run m0 l = some ⟨[t], [], [], false⟩ := g
  obtain ⟨t2, e2, w2, l2⟩ := run_tree g rfl rfl
  rw [g, out_one] at h
  have := lv_pos t2 w2
  by_cases hc : ct l < 13
  · rw [if_pos hc] at h
    omega
  · omega
theorem txt_good {l : List Nat} (ll : l.length ≤ 2000) (h : outO (run m0 l) (ct l) ≠ 0) : ∃ t, GoodT (.str (S l)) l t ∧ outO (run m0 l) (ct l) = ct l := by
  cases e : run m0 l with
  | none =>
    rw [e] at h
    exact absurd rfl h
  | some m =>
    rw [e] at h
    have hm : m.op = [] ∧ m.w = false ∧ ct l < 13 := by
      by_cases q : m.op = [] ∧ m.w = false ∧ ct l < 13
      · exact q
      · exact absurd (if_neg q) h
    obtain ⟨t, em, wt, lt⟩ := run_tree e hm.1 hm.2.1
    subst em
    refine ⟨t, ⟨rfl, by omega, e, by omega⟩, ?_⟩
    rw [out_one, if_pos hm.2.2]
theorem says_of {Q : VK} (th : Thing H v d) (hQ : ∀ H' p, Same H H' → H' p = none → Q (.ref p) (upd H' p (.lst [.str "refused", .str d.shown]))) :
    Says C v H (fun cls d H' => cls = .ref C ∧ ∃ dd v dv, d = some dd ∧ H' dd = some (.xd [("given", v)]) ∧ Sh H' v dv ∧ dv.showable = true ∧ dv.depth ≤ 20 ∧ dv.shown.length ≤ sizeLine ∧ (∀ i, v = .int i → i.natAbs.log2 < 1920) ∧
      ∀ p, H' p = none → Q (.ref p) (upd H' p (.lst [.str "refused", .str dv.shown]))) := by
  intro d' H' s _ hx
  have th' := Thing.ext th (ExtN.of s)
  have big : 10000 ≤ sizeLine := by decide
  exact ⟨rfl, d', v, d, rfl, hx, th'.sh, th.sho.sh, th.sho.dp, Nat.le_trans th.sho.ln big, th.int, fun p np => hQ H' p s np⟩
/-- what a caught call leaves: a new list that is as Zp says -/
def Gv (T : List (Addr × Str)) (C : Addr) (t : XK → TE) (σ : L2.St) (H : Hp) (Zp : List V → Prop) : Prop :=
  Tabs T H ∧ ∀ H1, ExtN H H1 → Tabs T H1 → ∀ Q1 : VK, (∀ H2 p zs, Same H1 H2 → H2 p = none → Zp zs → Q1 (.ref p) (upd H2 p (.lst zs))) → TTc C (fun E H' Q' => t E σ H' Q') H1 Q1
theorem gv_bad {T : List (Addr × Str)} {t : XK → TE} {σ : L2.St} (hT : Tabs T H) (th : Thing H v d) (hb : ∀ H1, ExtN H H1 → BadT K H1 v) (ht : ∀ H1, ExtN H H1 → BadT K H1 v → ∀ E Q', Says C v H1 E → t E σ H1 Q') : Gv T C t σ H (fun zs => zs = [.str "refused", .str d.shown]) :=
  ⟨hT, fun H1 e1 _ Q1 k => ht H1 e1 (hb H1 e1) _ _ (says_of (th.ext e1) fun H2 p s np => k H2 p _ s np rfl)⟩
theorem gv_lam {T : List (Addr × Str)} {t : XK → TE} {σ : L2.St} {Zp : List V → Prop} {Q : VK} (g : Gv T C t σ H Zp)
    (k : ∀ H' p zs, ExtN H H' → Tabs T H' → H' p = some (.lst zs) → Zp zs → (∀ b xs, H b = some (.lst xs) → b ≠ p) → Q (.ref p) H') : tLam T (TTc C) t σ H Q := by
  refine ⟨g.1, fun H1 e1 T1 => g.2 H1 e1 T1 Q fun H2 p zs s np hz => ?_⟩
  have e2 : ExtN H1 (upd H2 p (.lst zs)) := ExtN.of fun b o e => by
    rw [upd_ne (ne_of_none (s b o e) np)]
    exact s b o e
  refine k _ p zs (e1.trans e2) (T1.ext fun b o e => ?_) upd_same hz (fun b xs hb => ?_)
  · rw [upd_ne (ne_of_none (s b o e) np)]
    exact s b o e
  · exact ne_of_none (s _ _ (e1 b _ hb (fun _ z => by cases z))) np
/-- one more is put at the end of the list at l -/
theorem gv_app {T : List (Addr × Str)} {t : XK → TE} {σ : L2.St} {Zp : List V → Prop} {Q : VK} {i : Nat} {xs : List V} (h8 : σ[i]? = some (some (.ref l))) (hl : H l = some (.lst xs)) (hx : xs.length < 100) (g : Gv T C t σ H Zp)
    (k : ∀ H' p zs, KX l H H' → Tabs T H' → H' p = some (.lst zs) → Zp zs → p ≠ l → H' l = some (.lst (xs ++ [.ref p])) → Q .non H') : tBM K "list" rAppend (tVar i) (tCons (tLam T (TTc C) t) tNil) σ H Q := by
  have big : 10000 ≤ sizeLine := by decide
  refine ⟨_, h8, .inl ⟨rfl, xs, SqL.of hl⟩, gv_lam g fun H' p zs e T' hp hz hn => ?_⟩
  have npl : l ≠ p := hn l xs hl
  have hl' := e _ _ hl (fun _ z => by cases z)
  refine ⟨l, xs, .ref p, rfl, rfl, hl', by omega, k _ p zs (fun b o n t e1 => ?_) (Tabs.kl T' (KL.put hl')) ?_ hz (Ne.symm npl) upd_same⟩
  · rw [upd_ne n]
    exact e b o e1 t
  · rw [upd_ne (Ne.symm npl)]
    exact hp
/-! ### the rack's own -/
theorem Thing.kx (h : Thing H v d) (hR : RkI H r) (e : KX r H H') : Thing H' v d := by
  have rk : ∀ {a : Addr} {o : HO}, H a = some o → (∀ xs, o ≠ .lst xs) → (∀ ps, o ≠ .tbl ps) → H' a = some o := fun {a o} q n1 n2 => by
    refine e _ _ (fun z => ?_) n2 q
    obtain ⟨x, y, zz, q2⟩ := hR
    rw [z, q2] at q
    cases q
    exact n1 _ rfl
  cases h with
  | txt a b => exact .txt a b
  | odd o =>
    cases o with
    | non => exact .odd .non
    | five => exact .odd .five
    | tru => exact .odd .tru
    | tup0 q => exact .odd (.tup0 (rk q (fun _ z => by cases z) (fun _ z => by cases z)))
    | lst1 q n a b =>
      refine .odd (.lst1 (e _ _ (fun z => ?_) (fun _ z => by cases z) q) n a b)
      obtain ⟨x, y, zz, q2⟩ := hR
      rw [z, q2] at q
      cases q
    | tup1 q a b => exact .odd (.tup1 (rk q (fun _ z => by cases z) (fun _ z => by cases z)) a b)
    | dct q => exact .odd (.dct (rk q (fun _ z => by cases z) (fun _ z => by cases z)))
    | tup2 q => exact .odd (.tup2 (rk q (fun _ z => by cases z) (fun _ z => by cases z)))
/-- lists of lists of texts are equal to themselves -/
theorem sh_pairs {x : Str} (n : Nat) (h : LayS x) : SeqAt.shaped (.list (List.replicate n (.list [.str "refused", .str x]))) = true := by
  have e1 : PyData.canLayAll0 (List.replicate n (.list [.str "refused", .str x])) = true := by
    induction n with
    | zero => rfl
    | succ n ih =>
      show (PyData.canLay0 (.list [.str "refused", .str x]) && PyData.canLayAll0 (List.replicate n (.list [.str "refused", .str x]))) = true
      rw [ih]
      have : PyData.canLay0 (.list [.str "refused", .str x]) = true := by
        show (PyData.canLay0 (.str "refused") && (PyData.canLay0 (.str x) && true)) = true
        have a : PyData.canLay0 (.str "refused") = true := by decide +kernel
        have b : PyData.canLay0 (.str x) = true := h
        rw [a, b]
        rfl
      rw [this]
      rfl
  have e2 : ∀ n, PyData.depthAll (List.replicate n (.list [.str "refused", .str x])) ≤ 1 := by
    intro n
    induction n with
    | zero => exact Nat.zero_le _
    | succ n ih =>
      simp only [List.replicate_succ, PyData.depthAll, PyData.depth]
      omega
  unfold SeqAt.shaped
  rw [Bool.and_eq_true]
  refine ⟨e1, decide_eq_true ?_⟩
  have := e2 n
  simp only [PyData.depth]
  omega
end
end Yk

/-! _law_right. -/
namespace Yk
open PySem PySem.Spec PyProof.Rows L2 SX Tq Zq CwR Xk LamX
/-- what holds all the way -/
structure St (r Pt CS : Addr) (sv : V) (H0 H : Hp) : Prop where
  kx : KX r H0 H
  rk : RkI H r
  tb : Tabs [(Pt, "_law_right.<locals>.<lambda>")] H
  sh : InS CS H sv
theorem sh_told (i : Int) : SeqAt.shaped (.list [.list [.str "told", .int i], .list [.str "told", .int i]]) = true := by
  unfold SeqAt.shaped
  rw [Bool.and_eq_true]
  refine ⟨?_, decide_eq_true ?_⟩
  · have a : PyData.canLay0 (.str "told") = true := by decide +kernel
    show ((PyData.canLay0 (.str "told") && (true && true)) && ((PyData.canLay0 (.str "told") && (true && true)) && true)) = true
    rw [a]
    rfl
  · simp [PyData.depth, PyData.depthAll]
theorem odd_only {K : PySem.W.Frag} {H H1 : Hp} {v : V} {d : PyData} (o : Odd H v d) (th : Thing H1 v d) : BadT K H1 v := by
  cases th with
  | txt _ _ => cases o
  | odd o1 => exact o1.bad
section
variable {r Pt CS : Addr} {sv : V} {H0 H H' : Hp}
theorem St.sx (h : St r Pt CS sv H0 H) (s : SameX r H H') (R : RkI H' r) : St r Pt CS sv H0 H' :=
  ⟨h.kx.trans (KX.ofX s), R, Tabs.kl h.tb (KL.ofX s h.rk), InS.kl h.sh (KL.ofX s h.rk)⟩
theorem St.same (h : St r Pt CS sv H0 H) (s : Same H H') : St r Pt CS sv H0 H' :=
  ⟨h.kx.trans (KX.of s), RkI.same s h.rk, Tabs.kl h.tb (KL.of s), InS.kl h.sh (KL.of s)⟩
theorem St.ext (h : St r Pt CS sv H0 H) (e : ExtN H H') (T : Tabs [(Pt, "_law_right.<locals>.<lambda>")] H') : St r Pt CS sv H0 H' :=
  ⟨h.kx.trans (KX.ofN e), RkI.extN h.rk e, T, InS.extN h.sh e⟩
/-- what is done to a list that came behind H0 -/
theorem St.kl {l : Addr} {xs : List V} (h : St r Pt CS sv H0 H) (k : KX l H H') (hl : H l = some (.lst xs)) (n : H0 l = none) (rl : r ≠ l) (T : Tabs [(Pt, "_law_right.<locals>.<lambda>")] H') : St r Pt CS sv H0 H' := by
  refine ⟨fun b o nb nt e => k b o (ne_of_none e n) nt (h.kx b o nb nt e), ?_, T, ?_⟩
  · obtain ⟨a, b, c, q⟩ := h.rk
    exact ⟨a, b, c, k _ _ rl (fun _ z => by cases z) q⟩
  · obtain ⟨sh, dx, fs, rfl, q⟩ := h.sh
    refine ⟨sh, dx, fs, rfl, k _ _ (fun z => ?_) (fun _ z => by cases z) q⟩
    rw [z, hl] at q
    cases q
end
section
variable {P : Program} {w : World} {K : PySem.W.Frag} {mg : Str → Option Value} {base : Heap}
theorem c_ri {C Bc fI CS f c Pt : Addr} {fd : FuncData} (F : FunC K "_law_right" (top 116) f fd c) (m : mg "_law_right" = some (.ref f)) (TB : TabB base mg c Pt) (U : Us P w K mg base C Bc fI CS) : CalG P w K mg base 40 "_law_right" ["_law_well_here"] (spRi Pt) := by
  refine mkGC F m s116 (fun _ _ _ _ _ _ us hl => match us, hl with | [_], _ => rfl) (fun vs H Q E h => ?_) (fun A outer s H vs Q E hr hG h => ?_)
  · obtain ⟨r, rfl, _⟩ := h
    rfl
  obtain ⟨r, rfl, hR, hT, k⟩ := h
  have B := U.U.B
  have hu2 : (A.deeper (envOfC "_law_right" (defScope (top 116)) s.heap.objs.size f (.ref c))).units + 64 < cLine := by have := hr.un; omega
  have hu21 : (A.deeper (envOfC "_law_right" (defScope (top 116)) s.heap.objs.size f (.ref c))).units + 21 < cLine := by omega
  have hG2 : (A.deeper (envOfC "_law_right" (defScope (top 116)) s.heap.objs.size f (.ref c))).guards = some [] := hG
  refine ⟨_, pss_cons (ps_set (i := 1) s116.nd rfl (Or.inr rfl) (U.sh.pe _ _ _ _ rfl rfl rfl rfl rfl rfl (hr.mono (by decide)) (by rfl)))
    (pss_cons (ps_for PassesOwn.never rfl (pi_range1 (by rfl) B.range_ (pa_cons pe_int pa_nil)) ((pg_name (i := 2) (FnScope.nd s116) rfl (Or.inl rfl)))
      (pss_cons ((ps_set (i := 3) (FnScope.nd s116) rfl (Or.inl rfl) (pe_cl U.sd hr (by decide) (pa_cons (pe_cl U.gr hr (by decide) (pa_cons (pv 0) (pa_cons (pe_op op_add pe_int (pe_cl U.dip hr (by decide) (pa_cons (pv 0) (pa_cons pe_int pa_nil)))) pa_nil))) pa_nil))))
      (pss_cons (ps_for PassesOwn.never rfl (pi_range1 (by rfl) B.range_ (pa_cons (pe_cl U.dip hr (by decide) (pa_cons (pv 0) (pa_cons pe_int pa_nil))) pa_nil)) ((pg_name (i := 4) (FnScope.nd s116) rfl (Or.inl rfl)))
        (pss_one ((ps_set (i := 3) (FnScope.nd s116) rfl (Or.inl rfl) (pe_cl U.be hr (by decide) (pa_cons (pv 0) (pa_cons (pv 3) pa_nil)))))))
      (pss_cons ((ps_set (i := 5) (FnScope.nd s116) rfl (Or.inl rfl) (pe_lst (pa_cons pe_non (pa_cons pe_int (pa_cons pe_bl (pa_cons (pe_tup pa_nil) (pa_cons (pe_lstN (pa_cons (pv 3) pa_nil)) (pa_cons (pe_tup (pa_cons (pv 3) pa_nil)) (pa_cons pe_dnewK (pa_cons (pe_tup (pa_cons pe_str (pa_cons pe_str pa_nil))) pa_nil)))))))))))
      (pss_cons (ps_set (i := 6) s116.nd rfl (Or.inr rfl) (pe_cl U.of hr (by decide) (pa_cons (pv 0) (pa_cons (pe_op op_cat (pe_op op_rep (pe_lst (pa_cons (pv 3) pa_nil)) pe_int) (pe_lst (pa_cons (pe_cl U.of hr (by decide) (pa_cons (pv 0) (pa_cons (pv 5) pa_nil))) pa_nil))) pa_nil))))
      (C8.pss_cut ((ps_set (i := 7) (FnScope.nd s116) rfl (Or.inl rfl) (pe_ifExp (pt_val (pe_isi (v := .ty "str") (by rfl) B.isinstance_ (pv 6) (by rfl) B.str_ PyProof.Rows.boot_str rfl)) (pe_cl U.rd hr (by decide) (pa_cons (pv 6) pa_nil)) pe_int)))
      (pss_cons ((ps_set (i := 8) (FnScope.nd s116) rfl (Or.inl rfl) (pe_lst (pa_cons ((pe_lam (k := 37) (q := "_law_right.<locals>.<lambda>") (Us.U U) hG2 hu2 (by rfl) TB rfl (by rfl) hr (lamS_by rfl) rfl (fun _ _ _ _ _ => rfl) (fun _ _ _ _ E _ _ hr2 => pe_cx (E := E) U.pan hr2 (by decide) (passes_call (takes_of rfl rfl rfl rfl) (fun _ _ _ _ h => h)) (pa_cons (pv 6) pa_nil)))) pa_nil))))
      (pss_cons (ps_expr ((pe_bm PySem.F.plainAttrs_list PySem.F.slot_list_append PySem.F.type_list_append mt_append (pv 8) (pa_cons ((pe_lam (k := 37) (q := "_law_right.<locals>.<lambda>") (Us.U U) hG2 hu2 (by rfl) TB rfl (by rfl) hr (lamS_by rfl) rfl (fun _ _ _ _ _ => rfl) (fun _ _ _ _ E _ _ hr2 => pe_cxk (E := E) U.panK hr2 (by decide) (passes_call (takes_of rfl rfl rfl rfl) (fun _ _ _ _ h => h)) (pk_cons (pv 6) pk_nil)))) pa_nil))))
      (pss_cons (ps_expr ((pe_bm PySem.F.plainAttrs_list PySem.F.slot_list_append PySem.F.type_list_append mt_append (pv 8) (pa_cons ((pe_lam (k := 37) (q := "_law_right.<locals>.<lambda>") (Us.U U) hG2 hu2 (by rfl) TB rfl (by rfl) hr (lamS_by rfl) rfl (fun _ _ _ _ _ => rfl) (fun _ _ _ _ E _ _ hr2 => pe_cx (E := E) U.pla hr2 (by decide) (passes_call (takes_of rfl rfl rfl rfl) (fun _ _ _ _ h => h)) (pa_cons (pv 6) pa_nil)))) pa_nil))))
      (pss_one (ps_if ((pt_cmpR op_eq (pv 7) pe_int (nomark _)))
        (pss_cons (ps_expr ((pe_bm PySem.F.plainAttrs_list PySem.F.slot_list_append PySem.F.type_list_append mt_append (pv 8) (pa_cons ((pe_lam (k := 37) (q := "_law_right.<locals>.<lambda>") (Us.U U) hG2 hu2 (by rfl) TB rfl (by rfl) hr (lamS_by rfl) rfl (fun _ _ _ _ _ => rfl) (fun _ _ _ _ E _ _ hr2 => pe_cx (E := E) U.rat hr2 (by decide) (passes_call (takes_of rfl rfl rfl rfl) (fun _ _ _ _ h => h)) (pa_cons (pv 1) (pa_cons (pv 6) pa_nil))))) pa_nil))))
        (pss_cons (ps_expr ((pe_bm PySem.F.plainAttrs_list PySem.F.slot_list_append PySem.F.type_list_append mt_append (pv 8) (pa_cons ((pe_lam (k := 37) (q := "_law_right.<locals>.<lambda>") (Us.U U) hG2 hu2 (by rfl) TB rfl (by rfl) hr (lamS_by rfl) rfl (fun _ _ _ _ _ => rfl) (fun _ _ _ _ E _ _ hr2 => pe_cxk (E := E) U.laiK hr2 (by decide) (passes_call (takes_of rfl rfl rfl rfl) (fun _ _ _ _ h => h)) (pk_cons (pv 6) (pk_cons (pv 1) pk_nil))))) pa_nil))))
        (pss_cons (ps_expr ((pe_bm PySem.F.plainAttrs_list PySem.F.slot_list_append PySem.F.type_list_append mt_append (pv 8) (pa_cons ((pe_lam (k := 37) (q := "_law_right.<locals>.<lambda>") (Us.U U) hG2 hu2 (by rfl) TB rfl (by rfl) hr (lamS_by rfl) rfl (fun _ _ _ _ _ => rfl) (fun _ _ _ _ E _ _ hr2 => pe_cx (E := E) U.sho hr2 (by decide) (passes_call (takes_of rfl rfl rfl rfl) (fun _ _ _ _ h => h)) (pa_cons (pv 6) pa_nil)))) pa_nil))))
        (pss_one (ps_if (pt_cmpR (op_neD hu2) (pv 8) (pe_op op_rep (pe_lst (pa_cons (pe_lst (pa_cons pe_str (pa_cons (pe_callB (call_reprV hG2 hu21) (by rfl) U.U.rp PyProof.Rows.boot_repr (pa_cons (pv 6) pa_nil)) pa_nil))) pa_nil)) pe_int) (nomark _)) pss_nv pss_nil)))))
        (pss_one (ps_if (PW.pt (pw_or (pt_cmpR (op_neD hu2) (pe_slice sl_list (pv 8) po_none (po_some pe_int)) (pe_op op_rep (pe_lst (pa_cons (pe_lst (pa_cons pe_str (pa_cons (pv 7) pa_nil))) pa_nil)) pe_int) (nomark _))
            (pw_or ((pt_cmpR op_ne ((pe_ix ix_list ((pe_ix ix_list (pv 8) pe_int (fun _ _ => rfl))) pe_int (fun _ _ => rfl))) pe_str (nomark _))) (pw_or1 (pt_not (pt_val (pe_isi (v := .ty "str") (by rfl) B.isinstance_ ((pe_ix ix_list ((pe_ix ix_list (pv 8) pe_int (fun _ _ => rfl))) pe_int (fun _ _ => rfl))) (by rfl) B.str_ PyProof.Rows.boot_str rfl))))))) pss_nv pss_nil)))))))))))))
    (pss_one (ps_ret pe_bl))), ?_⟩
  have big : 10000 ≤ sizeLine := by decide
  have e0 : L2.start nRi [V.ref r] = [some (.ref r), none, none, none, none, none, none, none, none] := rfl
  rw [e0]
  intro sv Ha sa hsv
  have S0 : St r Pt CS sv H Ha := ⟨KX.of sa, RkI.same sa hR, Tabs.kl hT (KL.of sa), hsv⟩
  refine ⟨12, rfl, by decide, by decide, for_range (n := 12) (fun i σ H' => ∃ z2 z3 z4 z5 z6 z7 z8 : Option V, σ = [some (.ref r), some sv, z2, z3, z4, z5, z6, z7, z8] ∧ St r Pt CS sv H H') ⟨none, none, none, none, none, none, none, rfl, S0⟩ ?_ ?_⟩
  · rintro i σ Hb hi ⟨z2, z3, z4, z5, z6, z7, z8, rfl, S1⟩
    refine ⟨_, rfl, _, rfl, (r, 14), rfl, S1.rk, (by show (1 : Int) ≤ 14; decide), (by show (14 : Int) ≤ 1000; decide), fun n H1 s1 R1 n0 n1 => ⟨_, _, rfl, rfl, ?_⟩⟩
    have n1 : n < 14 := n1
    have S2 := S1.sx s1 R1
    obtain ⟨m, em⟩ : ∃ m : Nat, (1 : Int) + n = (m : Int) := ⟨(1 + n).toNat, by omega⟩
    refine ⟨(r, m), (by show [V.ref r, V.int (1 + n)] = [V.ref r, V.int ((m : Nat) : Int)]; rw [em]), R1, (by show 1 ≤ m; omega), (by show m ≤ 14; omega), fun t v H2 s2 R2 lw wt lt => ?_⟩
    have lt : lv t = m := lt
    have l14 : lv t ≤ 14 := by omega
    have S3 := S2.sx s2 R2
    have lw2 : LwT H2 t v := Lw.mono (fun a o _ e => ⟨trivial, e⟩) t v lw
    refine ⟨(t, v), rfl, lw2, wt, l14, fun H3 s3 => ?_⟩
    have S4 := S3.same s3
    have asc0 : Asc (tx t) := fun c hc => of_decide_eq_true (List.all_eq_true.mp (tx_all _ t (Nat.le_refl _)) c hc)
    have len0 : (tx t).length ≤ 100 := by have := len_lv t wt; omega
    refine ⟨_, rfl, (r, 3), rfl, S4.rk, (by show (1 : Int) ≤ 3; decide), (by show (3 : Int) ≤ 1000; decide), fun q H4 s4 R4 q0 q1 => ?_⟩
    have q1 : q < 3 := q1
    have S5 := S4.sx s4 R4
    obtain ⟨qn, rfl⟩ : ∃ qn : Nat, q = (qn : Int) := ⟨q.toNat, by omega⟩
    refine ⟨_, rfl, by omega, by omega, for_range (fun j σ H' => ∃ (z4 : Option V) (l : List Nat), σ = [some (.ref r), some sv, some (.int (i : Int)), some (.str (S l)), z4, z5, z6, z7, z8] ∧ St r Pt CS sv H H' ∧ Asc l ∧ ((j = 0 ∧ l.length ≤ 100) ∨ (j = 1 ∧ l.length ≤ 900) ∨ (j = 2 ∧ l.length ≤ 1803))) ?_ ?_ ?_⟩
    · exact ⟨_, _, by rw [Int.zero_add]; rfl, S5, asc0, .inl ⟨rfl, len0⟩⟩
    · rintro j σ H' hj ⟨z4', l, rfl, S6, al, hl⟩
      have hj : j < qn := by simpa using hj
      have hq : qn < 3 := by omega
      refine ⟨_, rfl, _, rfl, (r, l), rfl, S6.rk, al, (by show l.length ≤ 999; omega), fun l' H6 s6 R6 al' hl' => ?_⟩
      have hl' : l'.length ≤ 900 ∨ l'.length ≤ 2 * l.length + 3 := hl'
      exact ⟨_, l', rfl, S6.sx s6 R6, al', by omega⟩
    · rintro σ H5 ⟨z4', l, rfl, S6, al, hl⟩
      have l2 : l.length ≤ 2000 := by omega
      clear hl
      refine ⟨(by show 0 ≤ sizeLine; exact Nat.zero_le _), fun a0 m0' => ?_⟩
      refine ⟨_, rfl, (by show 1 ≤ sizeLine; decide), fun a1 m1' ns => ?_⟩
      refine ⟨_, rfl, (by show 1 ≤ sizeLine; decide), fun a2 m2' => ?_⟩
      intro a3 m3'
      refine ⟨(by show 2 ≤ sizeLine; decide), fun a4 m4' => ?_⟩
      refine ⟨(by show 8 ≤ sizeLine; decide), fun a5 m5' => ?_⟩
      have q0 := same_new (o := .tup []) m0'
      have q1 := same_new (o := .lst [.str (S l)]) m1'
      have q2 := same_new (o := .tup [.str (S l)]) m2'
      have q3 := same_new (o := .dK []) m3'
      have q4 := same_new (o := .tup [.str "[", .str "l"]) m4'
      have q5 := same_new (o := .lst [V.non, .int 5, .bl true, .ref a0, .ref a1, .ref a2, .ref a3, .ref a4]) m5'
      have S7 := S6.same (((((q0.trans q1).trans q2).trans q3).trans q4).trans q5)
      have o0 := q5 _ _ (q4 _ _ (q3 _ _ (q2 _ _ (q1 _ _ (upd_same (H := H5) (a := a0) (o := .tup []))))))
      have o1 := q5 _ _ (q4 _ _ (q3 _ _ (q2 _ _ (upd_same (H := upd H5 a0 (.tup [])) (a := a1) (o := .lst [.str (S l)])))))
      have o2 := q5 _ _ (q4 _ _ (q3 _ _ (upd_same (H := upd (upd H5 a0 (.tup [])) a1 (.lst [.str (S l)])) (a := a2) (o := .tup [.str (S l)]))))
      have o3 := q5 _ _ (q4 _ _ (upd_same (H := upd (upd (upd H5 a0 (.tup [])) a1 (.lst [.str (S l)])) a2 (.tup [.str (S l)])) (a := a3) (o := .dK [])))
      have o4 := q5 _ _ (upd_same (H := upd (upd (upd (upd H5 a0 (.tup [])) a1 (.lst [.str (S l)])) a2 (.tup [.str (S l)])) a3 (.dK [])) (a := a4) (o := .tup [.str "[", .str "l"]))
      have o5 := upd_same (H := upd (upd (upd (upd (upd H5 a0 (.tup [])) a1 (.lst [.str (S l)])) a2 (.tup [.str (S l)])) a3 (.dK [])) a4 (.tup [.str "[", .str "l"])) (a := a5) (o := .lst [V.non, .int 5, .bl true, .ref a0, .ref a1, .ref a2, .ref a3, .ref a4])
      have n5r : a5 ≠ r := Ne.symm (RkI.ne (RkI.same ((((q0.trans q1).trans q2).trans q3).trans q4) S6.rk) m5')
      clear q0 q1 q2 q3 q4 q5 m0' m1' m2' m3' m4' m5'
      generalize upd (upd (upd (upd (upd (upd H5 a0 (.tup [])) a1 (.lst [.str (S l)])) a2 (.tup [.str (S l)])) a3 (.dK [])) a4 (.tup [.str "[", .str "l"])) a5 (.lst [V.non, .int 5, .bl true, .ref a0, .ref a1, .ref a2, .ref a3, .ref a4]) = H6 at S7 o0 o1 o2 o3 o4 o5 ⊢
      have odds : ∀ v ∈ [V.non, .int 5, .bl true, .ref a0, .ref a1, .ref a2, .ref a3, .ref a4], ∃ d, Odd H6 v d := by
        intro v hv
        simp only [List.mem_cons, List.not_mem_nil, or_false] at hv
        rcases hv with rfl | rfl | rfl | rfl | rfl | rfl | rfl | rfl
        · exact ⟨_, .non⟩
        · exact ⟨_, .five⟩
        · exact ⟨_, .tru⟩
        · exact ⟨_, .tup0 o0⟩
        · exact ⟨_, .lst1 o1 ns al l2⟩
        · exact ⟨_, .tup1 o2 al l2⟩
        · exact ⟨_, .dct o3⟩
        · exact ⟨_, .tup2 o4⟩
      have es : ([some (.ref r), some sv, some (.int (i : Int)), some (.str (S l)), z4', z5, z6, z7, z8] : L2.St).set 5 (some (.ref a5)) = [some (.ref r), some sv, some (.int (i : Int)), some (.str (S l)), z4', some (.ref a5), z6, z7, z8] := rfl
      refine ⟨_, rfl, _, rfl, (by show 1 ≤ sizeLine; decide), fun b1 m1 => ⟨b1, 9, [.str (S l)], rfl, rfl, upd_same, by decide, by decide, (by show 1 * 9 ≤ sizeLine; decide), fun b2 m2 => ?_⟩⟩
      have q1 := same_new (o := .lst [.str (S l)]) m1
      have q2 := same_new (o := .lst (List.replicate (9 : Int).toNat [V.str (S l)]).flatten) m2
      have hb2 : upd (upd H6 b1 (.lst [.str (S l)])) b2 (.lst (List.replicate (9 : Int).toNat [V.str (S l)]).flatten) b2 = some (.lst (List.replicate 9 (V.str (S l)))) := upd_same
      have S8 := S7.same (q1.trans q2)
      have p5 := q2 _ _ (q1 _ _ o5)
      have odds2 : ∀ v ∈ [V.non, .int 5, .bl true, .ref a0, .ref a1, .ref a2, .ref a3, .ref a4], ∃ d, Odd (upd (upd H6 b1 (.lst [.str (S l)])) b2 (.lst (List.replicate (9 : Int).toNat [V.str (S l)]).flatten)) v d := fun v hv => by
        obtain ⟨d, o⟩ := odds v hv
        exact ⟨d, o.ext (ExtN.of (q1.trans q2))⟩
      have b2r : b2 ≠ r := Ne.symm (RkI.ne (RkI.same q1 S7.rk) m2)
      clear q1 q2 m1 m2 odds o0 o1 o2 o3 o4 o5
      generalize upd (upd H6 b1 (.lst [.str (S l)])) b2 (.lst (List.replicate (9 : Int).toNat [V.str (S l)]).flatten) = H7 at S8 hb2 p5 odds2 ⊢
      refine ⟨_, rfl, _, rfl, (r, a5, _), rfl, S8.rk, n5r, p5, (by show 1 ≤ 8; decide), (by show 8 ≤ 1000; decide), fun vo H8 s8 R8 hvo => ?_⟩
      obtain ⟨do_, hdo⟩ := odds2 vo hvo
      have th8 : Thing H8 vo do_ := Thing.kx (.odd hdo) S8.rk (KX.ofX s8)
      have S9 := S8.sx s8 R8
      have hb8 := s8 _ _ b2r hb2
      refine ⟨(by show 1 ≤ sizeLine; decide), fun b3 m3 => ⟨b2, b3, List.replicate 9 (V.str (S l)), [vo], rfl, rfl, ?_, upd_same, (by rw [List.length_replicate]; show 9 + 1 ≤ sizeLine; decide), fun b4 m4 => ?_⟩⟩
      · rw [upd_ne (ne_of_none hb8 m3)]
        exact hb8
      have q1 := same_new (o := .lst [vo]) m3
      have q2 := same_new (o := .lst (List.replicate 9 (V.str (S l)) ++ [vo])) m4
      have S10 := S9.same (q1.trans q2)
      have th9 := th8.ext (ExtN.of (q1.trans q2))
      have b4r : b4 ≠ r := Ne.symm (RkI.ne (RkI.same q1 S9.rk) m4)
      have hb4 := upd_same (H := upd H8 b3 (.lst [vo])) (a := b4) (o := .lst (List.replicate 9 (V.str (S l)) ++ [vo]))
      refine ⟨(r, b4, List.replicate 9 (V.str (S l)) ++ [vo]), rfl, S10.rk, b4r, hb4, (by show 1 ≤ 10; decide), (by show 10 ≤ 1000; decide), fun v H9 s9 R9 hv => ?_⟩
      have hv : v ∈ List.replicate 9 (V.str (S l)) ++ [vo] := hv
      have th : ∃ d, Thing H9 v d := by
        rcases List.mem_append.mp hv with h | h
        · rw [List.eq_of_mem_replicate h]
          exact ⟨_, .txt al l2⟩
        · rw [List.mem_singleton.mp h]
          exact ⟨_, Thing.kx th9 S10.rk (KX.ofX s9)⟩
      obtain ⟨d, th⟩ := th
      have S11 := S10.sx s9 R9
      clear q1 q2 m3 m4 th8 th9 hb8 hb2 p5 odds2 hb4 hv s9 R9 s8 R8 hdo hvo S7 S8 S9 S10 S6 S5 S4 S3 S2
      clear s1 R1 s2 R2 s3 s4 R4 lw lw2
      refine ⟨fun σ' H' => ∃ mm : Nat, σ' = [some (.ref r), some sv, some (.int (i : Int)), some (.str (S l)), z4', some (.ref a5), some v, some (.int (mm : Int)), z8] ∧ Same H9 H' ∧ ((mm = 0 ∧ ∀ H1, Thing H1 v d → BadT K H1 v) ∨ (mm ≠ 0 ∧ ∃ l t, GoodT v l t ∧ mm = ct l)), ?_, ?_⟩
      · cases th with
        | txt al2 ll2 =>
          rename_i l'
          refine ⟨_, rfl, _, _, _, _, true, rfl, .ty _, .base (.str _), kit_ty (by decide +kernel), _, rfl, iteT ⟨_, rfl, l', rfl, (by show l'.length ≤ 5000; omega), fun H1 s1 => ?_⟩⟩
          refine ⟨_, rfl, s1, ?_⟩
          rw [reads_eq]
          by_cases h0 : outO (run m0 l') (ct l') = 0
          · exact .inl ⟨h0, fun H1 _ => txt_bad ll2 h0⟩
          · obtain ⟨t, g, e⟩ := txt_good ll2 h0
            exact .inr ⟨h0, l', t, g, e⟩
        | odd o =>
          obtain ⟨ty, hty, hk⟩ := o.notStr (K := K)
          exact ⟨_, rfl, _, _, _, _, false, rfl, .ty _, hty, hk, _, rfl, iteF ⟨0, rfl, Same.refl _, .inl ⟨rfl, fun H1 th1 => odd_only o th1⟩⟩⟩
      rintro σ' H10 ⟨mm, rfl, s10, hmm⟩
      have S12 := S11.same s10
      have th2 := th.ext (ExtN.of s10)
      clear th S11 s10
      rcases hmm with ⟨rfl, hbad⟩ | ⟨hm0, l3, t3, hg, rfl⟩
      · refine gv_lam (gv_bad S12.tb th2 (fun H1 e => hbad H1 (th2.ext e)) (fun H1 e b E Q' s => ⟨_, rfl, v, rfl, .inr ⟨b, s⟩⟩)) fun H11 p1 zs e1 T1 hp1 hz _ => ⟨(by show 1 ≤ sizeLine; decide), fun lc nl => ?_⟩
        subst hz
        have S13 := S12.ext e1 T1
        have th3 := th2.ext e1
        have rl : r ≠ lc := RkI.ne S13.rk nl
        have S14 : St r Pt CS sv H11 (upd H11 lc (.lst [.ref p1])) := ⟨KX.of (same_new nl), RkI.same (same_new nl) S13.rk, Tabs.kl T1 (KL.of (same_new nl)), InS.same S13.sh (same_new nl)⟩
        have l1 : p1 ≠ lc := ne_of_none hp1 nl
        have hp1' : upd H11 lc (.lst [.ref p1]) p1 = some (.lst [.str "refused", .str d.shown]) := by rw [upd_ne l1]; exact hp1
        have hl1 : upd H11 lc (.lst [.ref p1]) lc = some (.lst [.ref p1]) := upd_same
        generalize upd H11 lc (.lst [.ref p1]) = H12 at S14 hp1' hl1 ⊢
        have tk : ∀ {H'}, St r Pt CS sv H11 H' → Thing H' v d := fun S => th3.kx S13.rk S.kx
        refine gv_app (i := 8) rfl hl1 (by simp) (gv_bad S14.tb (tk S14) (fun H1 e => hbad H1 ((tk S14).ext e)) (fun H1 e b E Q' s => ⟨_, rfl, v, rfl, .inr ⟨b, s⟩⟩)) fun H13 p2 zs k2 T2 hp2 hz l2' hl2 => ?_
        subst hz
        have S15 := S14.kl k2 hl1 nl rl T2
        have hp1'' := k2 p1 _ l1 (fun _ z => by cases z) hp1'
        clear hp1' hl1 k2
        refine gv_app (i := 8) rfl hl2 (by simp) (gv_bad S15.tb (tk S15) (fun H1 e => hbad H1 ((tk S15).ext e)) (fun H1 e b E Q' s => ⟨_, rfl, v, rfl, .inr ⟨b, s⟩⟩)) fun H14 p3 zs k3 T3 hp3 hz l3' hl3 => ?_
        subst hz
        have S16 := S15.kl k3 hl2 nl rl T3
        have hp1 := k3 p1 _ l1 (fun _ z => by cases z) hp1''
        have hp2 := k3 p2 _ l2' (fun _ z => by cases z) hp2
        clear hp1'' hl2 k3
        refine ⟨_, rfl, rfl, _, rfl, ?_⟩
        rw [decide_eq_true (show V.int ((0 : Nat) : Int) = V.int 0 from rfl)]
        refine iteT ?_
        refine gv_app (i := 8) rfl hl3 (by simp) (gv_bad S16.tb (tk S16) (fun H1 e => hbad H1 ((tk S16).ext e)) (fun H1 e b E Q' s => ⟨_, rfl, _, rfl, sv, v, rfl, InS.extN S16.sh e, b, s⟩)) fun H15 p4 zs k4 T4 hp4 hz l4' hl4 => ?_
        subst hz
        have S17 := S16.kl k4 hl3 nl rl T4
        have hp1 := k4 p1 _ l1 (fun _ z => by cases z) hp1
        have hp2 := k4 p2 _ l2' (fun _ z => by cases z) hp2
        have hp3 := k4 p3 _ l3' (fun _ z => by cases z) hp3
        clear hl3 k4
        refine gv_app (i := 8) rfl hl4 (by simp) (gv_bad S17.tb (tk S17) (fun H1 e => hbad H1 ((tk S17).ext e)) (fun H1 e b E Q' s => ⟨_, rfl, _, rfl, sv, v, rfl, InS.extN S17.sh e, b, s⟩)) fun H16 p5 zs k5 T5 hp5 hz l5' hl5 => ?_
        subst hz
        have S18 := S17.kl k5 hl4 nl rl T5
        have hp1 := k5 p1 _ l1 (fun _ z => by cases z) hp1
        have hp2 := k5 p2 _ l2' (fun _ z => by cases z) hp2
        have hp3 := k5 p3 _ l3' (fun _ z => by cases z) hp3
        have hp4 := k5 p4 _ l4' (fun _ z => by cases z) hp4
        clear hl4 k5
        refine gv_app (i := 8) rfl hl5 (by simp) (gv_bad S18.tb (tk S18) (fun H1 e => hbad H1 ((tk S18).ext e)) (fun H1 e b E Q' s => ⟨_, rfl, v, rfl, b, s⟩)) fun H17 p6 zs k6 T6 hp6 hz l6' hl6 => ?_
        subst hz
        have S19 := S18.kl k6 hl5 nl rl T6
        have hp1 := k6 p1 _ l1 (fun _ z => by cases z) hp1
        have hp2 := k6 p2 _ l2' (fun _ z => by cases z) hp2
        have hp3 := k6 p3 _ l3' (fun _ z => by cases z) hp3
        have hp4 := k6 p4 _ l4' (fun _ z => by cases z) hp4
        have hp5 := k6 p5 _ l5' (fun _ z => by cases z) hp5
        clear hl5 k6
        have th4 := tk S19
        have so := th4.sho
        refine ⟨_, rfl, _, rfl, v, d, rfl, th4.sh, so.sh, so.dp, Nat.le_trans so.ln big, th4.int, ?_⟩
        refine ⟨(by show 2 ≤ sizeLine; decide), fun b1 m1 => ⟨(by show 1 ≤ sizeLine; decide), fun b2 m2 => ⟨b2, 6, [.ref b1], rfl, rfl, upd_same, by decide, by decide, (by show 1 * 6 ≤ sizeLine; decide), fun b3 m3 => ?_⟩⟩⟩
        have q1 := same_new (o := .lst [.str "refused", .str d.shown]) m1
        have q2 := same_new (o := .lst [.ref b1]) m2
        have q3 := same_new (o := .lst (List.replicate (6 : Int).toNat [V.ref b1]).flatten) m3
        have qq := (q1.trans q2).trans q3
        have h1 := q3 _ _ (q2 _ _ (upd_same (H := H17) (a := b1) (o := .lst [.str "refused", .str d.shown])))
        have S20 := S19.same qq
        have hd : ∀ {H : Hp} {p : Addr}, H p = some (.lst [.str "refused", .str d.shown]) → Dp K H (.ref p) (.list [.str "refused", .str d.shown]) := fun e => .lst (SqL.of e) (.cons (.str _) (.cons (.str _) .nil))
        refine ⟨.list (List.replicate 6 (.list [.str "refused", .str d.shown])), .list (List.replicate 6 (.list [.str "refused", .str d.shown])), .lst (SqL.of (qq _ _ hl6)) (.cons (hd (qq _ _ hp1)) (.cons (hd (qq _ _ hp2)) (.cons (hd (qq _ _ hp3)) (.cons (hd (qq _ _ hp4)) (.cons (hd (qq _ _ hp5)) (.cons (hd (qq _ _ hp6)) .nil)))))),
          .lst (SqL.of upd_same) (.cons (hd h1) (.cons (hd h1) (.cons (hd h1) (.cons (hd h1) (.cons (hd h1) (.cons (hd h1) .nil)))))), sh_pairs 6 so.la, sh_pairs 6 so.la, _, rfl, ?_⟩
        rw [PySem.SeqAt.eqv_refl _ (SeqAt.canLay_of_shaped (sh_pairs 6 so.la))]
        exact iteF ⟨_, _, _, _, _, _, _, rfl, S13.kx.trans S20.kx, S20.rk, S20.tb, S20.sh⟩
      · refine gv_lam (Zp := fun zs => zs = [.str "told", .int ((ct l3 : Nat) : Int)]) ⟨S12.tb, fun H1 e T1 Q1 k => ⟨_, rfl, v, rfl, .inl ⟨l3, t3, hg, fun H' s p np => k H' p _ s np rfl⟩⟩⟩ fun H11 p1 zs e1 T1 hp1 hz _ => ⟨(by show 1 ≤ sizeLine; decide), fun lc nl => ?_⟩
        subst hz
        have S13 := S12.ext e1 T1
        have rl : r ≠ lc := RkI.ne S13.rk nl
        have S14 : St r Pt CS sv H11 (upd H11 lc (.lst [.ref p1])) := ⟨KX.of (same_new nl), RkI.same (same_new nl) S13.rk, Tabs.kl T1 (KL.of (same_new nl)), InS.same S13.sh (same_new nl)⟩
        have l1 : p1 ≠ lc := ne_of_none hp1 nl
        have hp1' : upd H11 lc (.lst [.ref p1]) p1 = some (.lst [.str "told", .int ((ct l3 : Nat) : Int)]) := by rw [upd_ne l1]; exact hp1
        have hl1 : upd H11 lc (.lst [.ref p1]) lc = some (.lst [.ref p1]) := upd_same
        generalize upd H11 lc (.lst [.ref p1]) = H12 at S14 hp1' hl1 ⊢
        refine gv_app (Zp := fun zs => zs = [.str "told", .int ((ct l3 : Nat) : Int)]) (i := 8) rfl hl1 (by simp) ⟨S14.tb, fun H1 e T1 Q1 k => ⟨_, rfl, v, rfl, .inl ⟨l3, t3, hg, fun H' s p np => k H' p _ s np rfl⟩⟩⟩ fun H13 p2 zs k2 T2 hp2 hz l2' hl2 => ?_
        subst hz
        have S15 := S14.kl k2 hl1 nl rl T2
        have hp1'' := k2 p1 _ l1 (fun _ z => by cases z) hp1'
        clear hp1' hl1 k2
        refine gv_app (Zp := fun zs => ∃ y, zs = [.str "told", .str y]) (i := 8) rfl hl2 (by simp) ⟨S15.tb, fun H1 e T1 Q1 k => ⟨_, rfl, v, rfl, .inl ⟨l3, t3, hg, fun y H' s p np => k H' p _ s np ⟨y, rfl⟩⟩⟩⟩ fun H14 p3 zs k3 T3 hp3 hz l3' hl3 => ?_
        obtain ⟨y, rfl⟩ := hz
        have S16 := S15.kl k3 hl2 nl rl T3
        have hp1 := k3 p1 _ l1 (fun _ z => by cases z) hp1''
        have hp2 := k3 p2 _ l2' (fun _ z => by cases z) hp2
        clear hp1'' hl2 k3
        refine ⟨_, rfl, rfl, _, rfl, ?_⟩
        rw [decide_eq_false (show ¬ V.int ((ct l3 : Nat) : Int) = V.int 0 from fun z => hm0 (by have := V.int.inj z; omega))]
        refine iteF ?_
        have ec : cutV (([V.ref p1] ++ [V.ref p2]) ++ [V.ref p3]) none (some 2) = [V.ref p1, V.ref p2] := rfl
        refine ⟨_, rfl, _, rfl, lc, _, rfl, SqL.of hl3, fun b0 m0 => ?_⟩
        rw [ec]
        refine ⟨_, rfl, (by show 2 ≤ sizeLine; decide), fun b1 m1 => ⟨(by show 1 ≤ sizeLine; decide), fun b2 m2 => ⟨b2, 2, [.ref b1], rfl, rfl, upd_same, by decide, by decide, (by show 1 * 2 ≤ sizeLine; decide), fun b3 m3 => ?_⟩⟩⟩
        have q0 := same_new (o := .lst [V.ref p1, V.ref p2]) m0
        have q1 := same_new (o := .lst [.str "told", .int ((ct l3 : Nat) : Int)]) m1
        have q2 := same_new (o := .lst [.ref b1]) m2
        have q3 := same_new (o := .lst (List.replicate (2 : Int).toNat [V.ref b1]).flatten) m3
        have qq := ((q0.trans q1).trans q2).trans q3
        have h0 := q3 _ _ (q2 _ _ (q1 _ _ (upd_same (H := H14) (a := b0) (o := .lst [V.ref p1, V.ref p2]))))
        have h1 := q3 _ _ (q2 _ _ (upd_same (H := upd H14 b0 (.lst [V.ref p1, V.ref p2])) (a := b1) (o := .lst [.str "told", .int ((ct l3 : Nat) : Int)])))
        have S17 := S16.same qq
        have hd : ∀ {H : Hp} {p : Addr}, H p = some (.lst [.str "told", .int ((ct l3 : Nat) : Int)]) → Dp K H (.ref p) (.list [.str "told", .int ((ct l3 : Nat) : Int)]) := fun e => .lst (SqL.of e) (.cons (.str _) (.cons (.int _) .nil))
        refine ⟨.list [.list [.str "told", .int ((ct l3 : Nat) : Int)], .list [.str "told", .int ((ct l3 : Nat) : Int)]], .list [.list [.str "told", .int ((ct l3 : Nat) : Int)], .list [.str "told", .int ((ct l3 : Nat) : Int)]], .lst (SqL.of h0) (.cons (hd (qq _ _ hp1)) (.cons (hd (qq _ _ hp2)) .nil)),
          .lst (SqL.of upd_same) (.cons (hd h1) (.cons (hd h1) .nil)), sh_told _, sh_told _, _, rfl, ?_⟩
        rw [PySem.SeqAt.eqv_refl _ (SeqAt.canLay_of_shaped (sh_told _))]
        have hl4 := qq _ _ hl3
        have hp4 := qq _ _ hp3
        clear h0 h1 q0 q1 q2 q3 m1 m2 m3 hl3 hp1 hp2 hp3 S16 qq
        generalize upd (upd (upd (upd H14 b0 (.lst [V.ref p1, V.ref p2])) b1 (.lst [.str "told", .int ((ct l3 : Nat) : Int)])) b2 (.lst [.ref b1])) b3 (.lst (List.replicate (2 : Int).toNat [V.ref b1]).flatten) = H15 at S17 hl4 hp4 ⊢
        refine iteF ⟨_, rfl, lc, _, 2, .ref p3, rfl, rfl, SqL.of hl4, atI_nat (j := 2) rfl, p3, _, 0, .str "told", rfl, rfl, SqL.of hp4, atI_nat (j := 0) rfl, rfl, _, rfl, ?_⟩
        rw [decide_eq_true (show V.str "told" = V.str "told" from rfl)]
        refine iteF ⟨_, rfl, lc, _, 2, .ref p3, rfl, rfl, SqL.of hl4, atI_nat (j := 2) rfl, p3, _, 1, .str y, rfl, rfl, SqL.of hp4, atI_nat (j := 1) rfl, ?_⟩
        refine ⟨_, _, _, _, true, rfl, .ty _, .base (.str _), kit_ty (by decide +kernel), _, rfl, ?_⟩
        exact iteF ⟨_, _, _, _, _, _, _, rfl, S13.kx.trans S17.kx, S17.rk, S17.tb, S17.sh⟩
  · rintro σ H' ⟨z2, z3, z4, z5, z6, z7, z8, rfl, S1⟩
    exact k _ S1.kx S1.rk S1.tb
end
end Yk

/-! law. -/
namespace Yk
open PySem PySem.Spec PyProof.Rows L2 SX Tq Zq CwR Xk LamX
section
variable {P : Program} {w : World} {K : PySem.W.Frag} {mg : Str → Option Value} {base : Heap}
theorem SqL.extN {H H' : Hp} {a : Addr} {xs : List V} (h : SqL K H a xs) (e : ExtN H H') : SqL K H' a xs := by
  rcases h with (h | ⟨o, h⟩) | h
  · exact .inl (.inl (e _ _ h (fun _ z => by cases z)))
  · exact .inl (.inr ⟨o, e _ _ h (fun _ z => by cases z)⟩)
  · exact .inr h
abbrev nLaw : List Str := ["_law_script", "_law_k"]
theorem s117 : FnScope nLaw ["_law_script"] (defScope (top 117)) := (⟨rfl, rfl, rfl, by decide +kernel, rfl, by decide +kernel, by decide +kernel⟩)
def spLaw (K : PySem.W.Frag) (Pt : Addr) : Sp := fun vs H Q _ => ∃ (a : Addr) (ns : List Int), vs = [.ref a] ∧ SqL K H a (ns.map V.int) ∧ ns.length ≤ 63 ∧ Tabs [(Pt, "_law_right.<locals>.<lambda>")] H ∧ ∀ H', Q (.bl true) H'
theorem all_true (n : Nat) : (List.replicate n true).all id = true := by
  induction n with
  | zero => rfl
  | succ n ih => rw [List.replicate_succ, List.all_cons, ih]; rfl
theorem c_law {Pt : Addr} (D : Df K mg "law" (top 117)) (B : Bl w K mg) (CR : CalG P w K mg base 40 "_law_right" ["_law_well_here"] (spRi Pt)) (CW : Cal P w K mg base 1 "_law_well" ["_law_script", "_law_k"] (spWell K)) : CalG P w K mg base 41 "law" ["_law_script"] (spLaw K Pt) := by
  refine mkG D s117 (fun _ _ _ _ _ _ us hl => match us, hl with | [_], _ => rfl) (fun vs H Q E h => ?_) (fun f cdv A outer s H vs Q E hr hG h => ?_)
  · obtain ⟨a, ns, rfl, _⟩ := h
    rfl
  obtain ⟨a, ns, rfl, hS, hlen, hT, k⟩ := h
  have big : 1000 < sizeLine := by decide
  have hG2 : (A.deeper (envOfC "law" (defScope (top 117)) s.heap.objs.size f cdv)).guards = some [] := hG
  refine ⟨_, pss_one (ps_ret (pe_callB (cr_all rfl) (by rfl) B.all_ PyProof.Rows.boot_all (pa_cons
      (pe_lc (own := [("_law_k", 1)]) (g := gName 1) (tt := tYes) (te := tCall (spRi Pt) [] L2.E0 (tCons (tCall (spWell K) [] L2.E0 (tCons (tVar 0) (tCons (tVar 1) tNil))) tNil)) rfl s117.nd
        (pi_range1 (by rfl) B.range_ (pa_cons (pe_callB (call_max2 rfl) (by rfl) B.max_ PyProof.Rows.boot_max (pa_cons pe_int (pa_cons (pe_callB (call_min2 rfl) (by rfl) B.min_ PyProof.Rows.boot_min
          (pa_cons ((pe_callB call_len_seq (by rfl) (Bl.len_ B) PySem.boot_len (pa_cons (pv 0) pa_nil))) (pa_cons pe_int pa_nil))) pa_nil))) pa_nil))
        (blkOk_by (N := nLaw) (sc := defScope (top 117)) (by decide +kernel)) (fun _ _ _ _ _ => (pg_name (i := 1) (FnScope.nd s117) rfl (Or.inl rfl))) (fun _ _ _ _ _ => pts_nil)
        (fun _ _ _ _ _ => pe_clG CR hr hG2 (pa_cons (pe_cl CW hr (by decide) (pa_cons (pv 0) (pa_cons (pv 1) pa_nil))) pa_nil))) pa_nil))), ?_⟩
  have e0 : L2.start nLaw [V.ref a] = [some (.ref a), none] := rfl
  rw [e0]
  have mn : -(2 ^ 62) ≤ (if (if (6 : Int) < (((ns.map V.int).length : Nat) : Int) then 6 else (((ns.map V.int).length : Nat) : Int)) > 2 then (if (6 : Int) < (((ns.map V.int).length : Nat) : Int) then 6 else (((ns.map V.int).length : Nat) : Int)) else 2) ∧
      (if (if (6 : Int) < (((ns.map V.int).length : Nat) : Int) then 6 else (((ns.map V.int).length : Nat) : Int)) > 2 then (if (6 : Int) < (((ns.map V.int).length : Nat) : Int) then 6 else (((ns.map V.int).length : Nat) : Int)) else 2) < 2 ^ 62 ∧
      (if (if (6 : Int) < (((ns.map V.int).length : Nat) : Int) then 6 else (((ns.map V.int).length : Nat) : Int)) > 2 then (if (6 : Int) < (((ns.map V.int).length : Nat) : Int) then 6 else (((ns.map V.int).length : Nat) : Int)) else 2).toNat ≤ 6 := by
    rw [List.length_map]
    refine ⟨?_, ?_, ?_⟩ <;> (split <;> split <;> omega)
  refine ⟨_, rfl, a, _, rfl, .inl hS, _, _, rfl, _, _, rfl, _, rfl, mn.1, mn.2.1, fun D hD => ?_⟩
  refine lc_range (fun i H' => ExtN H H' ∧ Tabs [(Pt, "_law_right.<locals>.<lambda>")] H' ∧ H' D = some (.lst ((List.replicate i true).map V.bl))) ⟨ExtN.of (same_new hD), Tabs.kl hT (KL.of (same_new hD)), upd_same⟩ (fun i H' hi e => ?_) (fun H' e => ?_)
  · obtain ⟨sT, hT', hDl⟩ := e
    refine ⟨rfl, ?_⟩
    simp only [tYes, if_true]
    refine ⟨_, rfl, _, rfl, (a, ns, i), (by show [V.ref a, V.int (0 + (i : Int))] = [V.ref a, V.int (i : Int)]; rw [Int.zero_add]), SqL.extN hS sT, hlen, fun p H2 k2 hp hr2 => ?_⟩
    refine ⟨p, rfl, hr2, Tabs.kl hT' (KL.of k2), fun H3 k3 _ T3 => ?_⟩
    have hDp : D ≠ p := fun z => by rw [z, hp] at hDl; cases hDl
    have hD3 := k3 D _ hDp (fun _ z => by cases z) (k2 _ _ hDl)
    have k4 : ExtN H' H3 := fun b o e t => k3 b o (fun z => by rw [z, hp] at e; cases e) t (k2 b o e)
    refine ⟨_, hD3, ?_, ?_, ?_, ?_⟩
    · rw [List.length_map, List.length_replicate]
      exact Nat.lt_of_lt_of_le hi (Nat.le_trans mn.2.2 (by decide))
    · refine fun b o e t => ?_
      by_cases hb : b = D
      · subst hb
        exact absurd e (by rw [hD]; exact nofun)
      · rw [upd_ne hb]
        exact k4 _ _ (sT _ _ e t) t
    · exact Tabs.kl T3 (KL.put hD3)
    · rw [upd_same, List.replicate_succ', List.map_append]
      rfl
  · obtain ⟨sT, hT', hDl⟩ := e
    refine ⟨D, _, rfl, SqL.of hDl, ?_⟩
    rw [all_true]
    exact k _
end
end Yk

/-! The law's call where it has a table. -/
namespace Yk
open PySem PySem.Spec PyProof.Rows L2 SX Tq Zq CwR Xk LamX
section
variable {P : Program} {w : World} {K : PySem.W.Frag} {mg : Str → Option Value} {c Pt : Addr}
/-- the law's call, with the table of the code object at c, where no repr is under way -/
theorem call_g3 {mb : Str → Option Value} {k : Nat} {fa a : Addr} {x x' : Str} {sp : Sp} {s₁ : Shared} {vs : List Value} {ns : List Int}
    (kn : K.In s₁.heap) (gns : s₁.heap.Ns mainGlobals mg) (bns : s₁.heap.Ns builtinsNs mb) (bts : ∀ x : Str, x ≠ "__name__" → mb x = bootBuiltins x)
    (lim : s₁.heap.NoLimit) (g0 : s₁.gens = #[]) (hT : s₁.heap.get? Pt = some { cls := .none, data := .fields #[] }) (nT : K.lookup Pt = none) (hc : PySem.W.CodeHd s₁.heap c Pt)
    (bmn : ∃ (bm : Addr) (ob : Obj), mg "__builtins__" = some (.ref bm) ∧ bm ≠ builtinsNs ∧ s₁.heap.get? bm = some ob ∧ ob.cls = .type "module" ∧ ob.dict = some builtinsNs ∧ ob.data = .plain)
    (ha : s₁.heap.get? a = some { cls := .type "list", data := .seq vs.toArray })
    (hi : IntsAre vs ns) (hl : ns.length ≤ sizeLine) (hr : Room k callerA)
    (F : ∀ base : Heap, TabB base mg c Pt → CalG P w K mg base k x [x'] sp) (hmx : mg x = some (.ref fa))
    (hsp : ∀ H : Hp, H Pt = some (.tbl #[]) → SqL K H a (ns.map V.int) → sp [.ref a] H (fun v _ => v = .bl true) L2.E0) :
    codeAny (model P w) callerA (.call (.ref fa) ⟨[.ref a], []⟩)
      (fun r s' => r = .ok (.ret (.bool true)) ∧ PySem.OldK s₁.heap s'.heap ∧ s'.os = s₁.os ∧ AllBare s'.gens) s₁ := by
  have rv := vals_ints hi
  have lenV := hi.length
  have nPa : a ≠ Pt := fun z => by
    rw [z, hT] at ha
    have q : Data.fields #[] = Data.seq vs.toArray _ := congrArg Obj.data (Option.some.inj ha)
    cases q
  have core : ∀ H : Hp, H Pt = some (.tbl #[]) → (∀ b, b ≠ Pt → H b = none ∨ ∃ o xs, H b = some (.frz o (.lst xs))) → SqL K H a (ns.map V.int) → HOk P w H s₁.heap → (∀ b, b ≠ Pt → H b ≠ none → b = a) → (H a ≠ none → K.lookup a = none) →
      codeAny (model P w) callerA (.call (.ref fa) ⟨[.ref a], []⟩)
        (fun r s' => r = .ok (.ret (.bool true)) ∧ PySem.OldK s₁.heap s'.heap ∧ s'.os = s₁.os ∧ AllBare s'.gens) s₁ := by
    intro H hP hO hS hok hA hK
    have un : ∀ {b : Addr} {o : Obj}, s₁.heap.get? b = some o → (∀ vs n, o.data ≠ .seq vs n) → o.data ≠ .fields #[] → H b = none := fun {b o} e d1 d2 => by
      by_cases hb : b = Pt
      · rw [hb, hT] at e
        cases e
        exact absurd rfl d2
      · cases q : H b with
        | none => rfl
        | some u =>
          obtain rfl : b = a := hA b hb (by rw [q]; simp)
          rw [ha] at e
          cases e
          exact absurd rfl (d1 _ _)
    have stays : ∀ {b : Addr} {o : Obj}, s₁.heap.get? b = some o → H b = none → (hidT s₁.heap H).get? b = some o := fun e n => hidT_get e n
    have nsK : ∀ {b : Addr} {m : Str → Option Value}, s₁.heap.Ns b m → (hidT s₁.heap H).Ns b m := fun {b m} z => by
      obtain ⟨o, es, ep, e, d, r⟩ := z
      exact ⟨o, es, ep, stays e (un e (fun _ _ z => by rw [d] at z; cases z) (fun z => by rw [d] at z; cases z)), d, r⟩
    have hKb : K.In (hidT s₁.heap H) := fun b o e => by
      refine stays (kn b o e) ?_
      by_cases hb : b = Pt
      · rw [hb, nT] at e
        cases e
      · cases q : H b with
        | none => rfl
        | some u =>
          obtain rfl : b = a := hA b hb (by rw [q]; simp)
          rw [hK (by rw [q]; simp)] at e
          cases e
    have hM : L2.Mod K mg (hidT s₁.heap H) := by
      obtain ⟨mc, h1, h2⟩ := lim
      exact ⟨hKb, nsK gns, ⟨mb, nsK bns, bts⟩, ⟨mc, nsK h1, h2⟩⟩
    have TB : TabB (hidT s₁.heap H) mg c Pt := by
      refine ⟨?_, ?_, fun z => ?_⟩
      · obtain ⟨o, us, file, tf, flags, tg, inF, text, tt, e1, r1, r2, r3, r⟩ := hc
        refine ⟨o, us, file, tf, flags, tg, inF, text, tt, stays e1 (un e1 (fun _ _ z => by rw [r2] at z; cases z) (fun z => ?_)), r1, r2, r3, r⟩
        rw [r2] at z
        cases z
        simp at r3
      · obtain ⟨bm, ob, b1, b2, b3, b4, b5, b6⟩ := bmn
        refine ⟨bm, ob, b1, b2, fun q => ?_, fun q => ?_, stays b3 (un b3 (fun _ _ z => by rw [b6] at z; cases z) (fun z => by rw [b6] at z; cases z)), b4, b5, b6⟩
        · obtain ⟨o, es, ep, e, d, _⟩ := gns
          rw [q, e] at b3
          cases b3
          rw [d] at b6
          cases b6
        · rw [q, hT] at b3
          cases b3
          cases b6
      · obtain ⟨o, es, ep, e, d, _⟩ := gns
        rw [z, hT] at e
        cases e
        cases d
    have en : Env0 P w K mg (hidT s₁.heap H) callerA [] s₁ H :=
      ⟨rfl, hM, fun b o e => of_hidT e, Nat.le_of_eq (hidT_size _ _), trivial, fun b hb => absurd (show b ∈ ([] : List Addr) from hb) (by simp), hok, .of_eq g0⟩
    obtain ⟨f', fd, FF, bnd, m', kp⟩ := (F (hidT s₁.heap H) TB).ex
    rw [hmx] at m'
    cases m'
    have bd := bnd s₁ [.ref a] kn rfl
    rw [List.append_nil] at bd
    refine codeAny_mono (FF.run callerA [] s₁ H ⟨[.ref a], []⟩ [.ref a] [.ref a] _ _ hr rfl en bd (.cons rfl .nil) (hsp H hP hS)) fun r s' h => ?_
    cases r with
    | error e => exact (show False from h).elim
    | ok fl =>
      cases fl with
      | next => exact False.elim h
      | brk => exact False.elim h
      | cont => exact False.elim h
      | ret u =>
        obtain ⟨v, H', os, bare, un', hok', r', q⟩ := h
        obtain rfl : v = .bl true := q
        obtain rfl : u = Value.bool true := r'
        have key : ∀ b o, b ≠ Pt → s₁.heap.get? b = some o → s'.heap.get? b = some o := fun b o nb e => by
          cases q : H b with
          | none =>
            refine un'.keep b o e q ?_ (by simp)
            intro z
            exact absurd (show b ∈ ([] : List Addr) from z) (by simp)
          | some u =>
            rcases hO b nb with z | ⟨ob, xs, z⟩
            · rw [q] at z
              cases z
            · obtain ⟨e1, _⟩ := hok b _ z
              obtain ⟨e2, _⟩ := hok' b _ (un'.frzs b ob _ z)
              rw [e] at e1
              cases e1
              exact e2
        obtain ⟨more, zt⟩ := un'.tbls Pt #[] hP
        have grown : s'.heap.get? Pt = some { cls := .none, data := .fields (#[] ++ more) } := hok' Pt _ zt
        refine ⟨rfl, ⟨fun b o e => ?_, fun b o e => ?_⟩, os, bare⟩
        · by_cases hb : b = Pt
          · rw [hb] at e ⊢
            rw [hT] at e
            cases e
            exact .inr (.inl ⟨(hc.tab hT).isCodeTable, rfl, #[], more, rfl, grown⟩)
          · exact .inl (key b o hb e)
        · by_cases hb : b = Pt
          · rw [hb]
            exact ⟨_, grown⟩
          · exact ⟨o, key b o hb e⟩
  cases hk : K.lookup a with
  | some o =>
    have e := kn a o hk
    rw [ha] at e
    cases e
    refine core (fun b => if b = Pt then some (.tbl #[]) else none) (if_pos rfl) (fun b hb => .inl (if_neg hb)) (.inr ⟨_, vs.toArray, _, hk, rfl, rfl, rfl, ?_, by simpa using rv⟩) (fun b u z => ?_) (fun b hb z => absurd (if_neg hb) z) fun z => absurd (if_neg nPa) z
    · rw [List.size_toArray, lenV]
      exact hl
    · by_cases hb : b = Pt
      · cases ((if_pos hb).symm.trans z)
        rw [hb]
        exact hT
      · cases ((if_neg hb).symm.trans z)
  | none =>
    refine core (fun b => if b = Pt then some (.tbl #[]) else if b = a then some (.frz { cls := .type "list", data := .seq vs.toArray } (.lst (ns.map V.int))) else none) (if_pos rfl) (fun b hb => ?_)
      (.inl (.inr ⟨{ cls := .type "list", data := .seq vs.toArray }, (if_neg nPa).trans (if_pos rfl)⟩)) (fun b u z => ?_) (fun b hb z => ?_) fun _ => hk
    · by_cases h2 : b = a
      · exact .inr ⟨_, _, (if_neg hb).trans (if_pos h2)⟩
      · exact .inl ((if_neg hb).trans (if_neg h2))
    · by_cases hb : b = Pt
      · cases ((if_pos hb).symm.trans z)
        rw [hb]
        exact hT
      · have z1 := (if_neg hb).symm.trans z
        by_cases h2 : b = a
        · cases ((if_pos h2).symm.trans z1)
          subst h2
          exact ⟨ha, by rw [List.length_map]; exact hl, vs, _, rv, ha⟩
        · cases ((if_neg h2).symm.trans z1)
    · by_cases h2 : b = a
      · exact h2
      · exact absurd ((if_neg hb).trans (if_neg h2)) z
end
end Yk

/-! Rules of its own: // of any sign, a bool less a bool, a list's item read ahead of +=, enumerate of a tuple, a tuple backwards; loops over few items, turn by turn. -/
namespace Xq
open PySem PySem.Spec PyProof.Rows L2
section
variable {X : Cx}
def CDivX (_ j : Int) : Prop := j ≠ 0 ∧ j.natAbs.log2 < 9000
theorem op_fdivX : OpR X (binaryOp .FloorDiv) (rI CDivX fun i j => .int (i.fdiv j)) := opI fun i j _ _ _ _ _ hc q => floordiv_int hc.1 q (.inl (PyProof.noPylong_of_log2 hc.2))
/-- o[i], a list, by values -/
theorem get_list : PGet X (rIxL X.K) := by
  intro pins s σ H x y v u Q I rx ry h
  obtain ⟨p, xs, i, z, rfl, rfl, hq, he, q⟩ := h
  cases rx
  obtain ⟨t, rfl⟩ := ry
  obtain ⟨its, r, pl, hz⟩ := I.list hq
  obtain ⟨j, h1, h2, h3, h4, h5⟩ := atI_get he
  obtain ⟨w, ew, rw'⟩ := r.get h2
  have hl := r.length
  have hn := line63
  have fin : EP X pins σ Q w s := ⟨z, H, I, rw', q⟩
  by_cases h0 : 0 ≤ i
  · have hj : i.toNat = j := by
      rw [seqIndex_of h0 h5] at h1
      exact Option.some.inj h1
    exact wpAny_getItem_list pl.isList h0 (by omega) (by rw [hj]; simpa using ew) fin
  · have hj : (i + (its.toArray.size : Int)).toNat = j := by
      rw [seqIndex_neg (by omega) h4] at h1
      rw [List.size_toArray, ← hl]
      exact Option.some.inj h1
    exact wpAny_getItem_list_neg pl.isList (by omega) (by rw [List.size_toArray] <;> omega) (by omega) (by rw [hj]; simpa using ew) fin
/-- a bool less a bool -/
def rSubB : R2 := fun x y H Q => ∃ a b : Bool, x = .bl a ∧ y = .bl b ∧ Q (.int (b2i a - b2i b)) H
theorem op_subB : OpR X (binaryOp .Sub) rSubB := by
  intro pins s σ H x y v u Q I rx ry h
  obtain ⟨a, b, rfl, rfl, q⟩ := h
  cases rx
  cases ry
  exact sub_bool ⟨.int _, H, I.tok _, ⟨_, rfl⟩, q⟩
end

/-! ### enumerate(tuple) -/
theorem draws_tup {prog : Program} {w : World} {A : Around} (hh : A.handled = none) (it l : Addr) (hne : l ≠ it) (items : Array Value) :
    Draws prog w A it [it, l] items.size (fun i v => items[i]? = some v) (fun i h => h.IsTupleIter it l i ∧ h.IsTuple l items) where
  live := fun _ _ st => let ⟨o, ho, _⟩ := st.1; ⟨o, ho⟩
  frame := fun _ _ _ st hk => ⟨let ⟨o, ho, r⟩ := st.1; ⟨o, hk it (by simp) o ho, r⟩, let ⟨o, ho, r⟩ := st.2; ⟨o, hk l (by simp) o ho, r⟩⟩
  item := fun i s Q E hi st hQ => by
    refine RZ.nextOf_tuple_item st.1 st.2 (x := items[i]) (by simp [hi]) fun h' hit' hs' => ?_
    exact hQ _ h' s.toks (by simp [hi]) ⟨hit', st.2.extBut hs'.extBut hne⟩ hs'
  done := fun s Q E st hE => RZ.nextOf_tuple_end hh st.1 st.2 (by simp) hE
theorem meets_enumerate_newT (l : Addr) (items : Array Value) (n : Nat) (dct : Option Addr) (sl : Array (Option Value)) :
    Meets (Builtin.«enumerate.__new__» ⟨[.type "enumerate", .ref l], []⟩) (fun _ R s => s.heap.get? l = some { cls := .type "tuple", dict := dct, data := .seq items n, slots := sl } ∧
      R (.ok (.ret (.ref (s.heap.push { cls := .type "tuple_iterator", data := .fields #[.ref l, .int 0 0] }).objs.size)))
        { s with heap := (s.heap.push { cls := .type "tuple_iterator", data := .fields #[.ref l, .int 0 0] }).push { cls := .type "enumerate", data := .fields #[.none, .bool false, .ref s.heap.objs.size, rawInt 0, .none, .none] } }) :=
  .of_wp fun prog w A R s h => by
    obtain ⟨hp, g, d, tk, os⟩ := s; obtain ⟨hl, h⟩ := h
    have hsub := sub_enumerate
    have hL : Heap.IsTuple (Shared.heap ⟨hp, g, d, tk, os⟩) l items := ⟨_, hl, rfl, n, rfl⟩
    wp_walk using AutoSeq1.wpAny_loadPart' hl
    refine wpAny_stack_any fun st => wpAny_pure ?_
    split
    · rename_i c _ _ _ _ _
      cases (c == Value.type "enumerate")
      · wp_walk using AutoSeq1.wpAny_loadPart' hl, wpAny_pyIter_tuple hL
        exact ⟨_, rfl, h⟩
      · wp_walk using AutoSeq1.wpAny_loadPart' hl, wpAny_pyIter_tuple hL
        exact ⟨_, rfl, h⟩
    · wp_walk using AutoSeq1.wpAny_loadPart' hl, wpAny_pyIter_tuple hL
      exact ⟨_, rfl, h⟩
theorem call_enumerate_tuple {prog : Program} {w : World} {A : Around} {E : Value → Shared → Prop} {s : Shared} {l : Addr} {items : Array Value} {Q : Value → Shared → Prop} (hL : s.heap.IsTuple l items)
    (h : ∀ h', IsEnum h' (s.heap.objs.size + 1) s.heap.objs.size 0 .none → h'.IsTupleIter s.heap.objs.size l 0 → h'.objs.size = s.heap.objs.size + 2 →
      (∀ b o, s.heap.get? b = some o → h'.get? b = some o) → Q (.ref (s.heap.objs.size + 1)) { s with heap := h' }) :
    wpAny (model prog w) A (call (.type "enumerate") [.ref l]) Q E s := by
  obtain ⟨⟨c, dct, dt, sl⟩, hl, hc, n, hd⟩ := hL
  replace hc : c = .type "tuple" := hc
  replace hd : dt = .seq items n := hd
  subst hc hd
  refine callType_new F.called_enumerate (by decide) (F.typeCall_enumerate_1 _) (F.newCall_enumerate_1 _) (fun obj => F.args_object_init_2 obj _) F.entry_enumerate_new
    (meets_enumerate_newT l items n dct sl) ⟨hl, ?_⟩
  have hz : (s.heap.push { cls := .type "tuple_iterator", data := .fields #[.ref l, .int 0 0] }).objs.size = s.heap.objs.size + 1 := Heap.size_push ..
  show _ ∧ _
  rw [hz]
  have he : IsEnum ((s.heap.push { cls := .type "tuple_iterator", data := .fields #[.ref l, .int 0 0] }).push
      { cls := .type "enumerate", data := .fields #[.none, .bool false, .ref s.heap.objs.size, rawInt 0, .none, .none] }) (s.heap.objs.size + 1) s.heap.objs.size 0 .none := by
    have := Heap.get?_push_size (s.heap.push { cls := .type "tuple_iterator", data := .fields #[.ref l, .int 0 0] })
      (o := { cls := .type "enumerate", data := .fields #[.none, .bool false, .ref s.heap.objs.size, rawInt 0, .none, .none] }) rfl
    rw [hz] at this; exact this
  refine ⟨⟨_, he, rfl⟩, h _ he ⟨_, Heap.get?_push_of_some _ (Heap.get?_push_size _ rfl), rfl, rfl⟩ (by rw [Heap.size_push, hz]) fun b o x => Heap.get?_push_of_some _ (Heap.get?_push_of_some _ x)⟩
/-- the tuple at a, each item in a new pair -/
def IteT (K : PySem.W.Frag) (a : Addr) : It :=
  ⟨fun i H => ∃ (xs : List V) (x : V), SqT K H a xs ∧ xs[i]? = some x, fun i H v H' => ∃ T x, v = .ref T ∧ H T = none ∧ H' = upd H T (.tup [.int (i : Nat), x]) ∧ ∀ xs, SqT K H a xs → xs[i]? = some x, fun i H => ∃ xs : List V, SqT K H a xs ∧ xs.length ≤ i⟩
theorem isEnum_out {h : Heap} {e it : Addr} {i : Int} {x : Value} {T : Addr} (he : IsEnumOut h e it i x T) : IsEnumOut h e it i x T := he
theorem turn_enumT {P : Program} {w : World} {K : PySem.W.Frag} {elts : List Expr} {kk : Nat} {tpos : Pos} (a e it : Addr) :
    Turn P w K (.Tuple elts kk tpos) (IteT K a) [e, it] e (fun i h => (∃ old, IsEnum h e it ((i : Nat) : Int) old) ∧ h.IsTupleIter it a i ∧ e ≠ it ∧ a ≠ it ∧ a ≠ e) where
  mem := by simp
  obj := fun i h st b hb => by
    obtain ⟨⟨old, he⟩, ⟨o, ho, hc, hd⟩, _⟩ := st
    have e' : b = e ∨ b = it := by simpa using hb
    rcases e' with z | z
    · rw [z]; exact ⟨_, he, fun v q => nomatch q⟩
    · rw [z]; exact ⟨o, ho, fun v q => by rw [hd] at q; cases q⟩
  keep := fun i h h' st k => let ⟨⟨old, he⟩, ⟨o, ho, r⟩, hne⟩ := st; ⟨⟨old, k e (by simp) _ he⟩, ⟨o, k it (by simp) o ho, r⟩, hne⟩
  item := by
    intro X hP hw hK hc i pins s σ H E I hf st hg
    subst hP hw hK
    obtain ⟨⟨old, he⟩, hit, hne, hai, hae⟩ := st
    obtain ⟨xs, x, hq, hx⟩ := hg
    obtain ⟨its, rv, p, hz⟩ := I.tuple hq
    obtain ⟨u, hu, ru⟩ := rv.get hx
    have hel : e < s.heap.objs.size := Heap.lt_size he
    have hil : it < s.heap.objs.size := by obtain ⟨_, q, _⟩ := hit; exact Heap.lt_size q
    have hlt : i < its.toArray.size := by
      have q := List.getElem?_eq_some_iff.mp hu
      rw [List.size_toArray]
      exact q.1
    refine wpAny_pyNext_enum_itemD (draws_tup (prog := X.prog) (w := X.w) (A := X.A.in1) (I.ok.hd hc) it a hai its.toArray) he ⟨hit, (show s.heap.IsTuple a its.toArray from p)⟩ hlt hne (by simp [hne, Ne.symm hae]) fun y h' tk hP ho hit' hT hsz hk => ?_
    have ey : y = u := by
      have q : its.toArray[i]? = some u := by simpa using hu
      rw [q] at hP
      exact (Option.some.inj hP).symm
    subst ey
    refine ⟨_, rfl, wpAny_letOwnedTupleGo_enum (s := { s with heap := h', toks := tk + 1 }) ho fun h'' he' sb => ?_⟩
    have hT2 : h''.get? s.heap.objs.size = some { cls := .type "tuple", data := .seq #[.int i tk, y] } := (sb.2 _ (Nat.ne_of_gt hel)).trans hT
    have new : ObjOk X.prog X.w (upd H s.heap.objs.size (.tup [.int (i : Nat), x])) h'' s.heap.objs.size (.tup [.int (i : Nat), x]) :=
      ⟨by show 2 ≤ sizeLine; decide, [.int i tk, y], .cons ⟨_, rfl⟩ (.cons ru .nil), ⟨_, hT2, rfl, _, rfl⟩⟩
    have I1 : Inv X pins σ (upd H s.heap.objs.size (.tup [.int (i : Nat), x])) { s with heap := h'', toks := tk + 1 } :=
      I.turnedNew (ch := [e, it]) (fun b ob hb q => (sb.2 b (fun z => hb (by simp [z]))).trans (hk b ob (fun z => hb (by simp [z])) (fun z => hb (by simp [z])) q)) hf (Nat.le_refl _) new
    refine ⟨.ref s.heap.objs.size, _, I1, rfl, ⟨_, x, rfl, I.hok.fresh (Nat.le_refl _), rfl, fun ys hy => by rw [I.tuple_inj hy hq]; exact hx⟩, ⟨⟨y, ?_⟩, ?_, hne, hai, hae⟩, fun b hb => ?_⟩
    · have e1 : ((i + 1 : Nat) : Int) = (i : Int) + 1 := by omega
      rw [e1]; exact he'
    · obtain ⟨⟨o, ho2, r2⟩, _⟩ := hit'
      exact ⟨o, (sb.2 it (Ne.symm hne)).trans ho2, r2⟩
    · have hb' : b < s.heap.objs.size := by
        have e' : b = e ∨ b = it := by simpa using hb
        rcases e' with z | z
        · rw [z]; exact hel
        · rw [z]; exact hil
      rw [upd_ne (Nat.ne_of_lt hb')]
      exact (hf b hb).1
  done := by
    intro X hP hw hK hc i pins s σ H E I hf st hg
    subst hP hw hK
    obtain ⟨⟨old, he⟩, hit, hne, hai, hae⟩ := st
    obtain ⟨xs, hq, hx⟩ := hg
    obtain ⟨its, rv, p, hz⟩ := I.tuple hq
    obtain ⟨f0, f1, f2, f3, f4, f5⟩ := hf it (by simp)
    have hl := rv.length
    have hT : s.TypeIs (.ref e) "enumerate" := ⟨_, he, rfl⟩
    unfold pyNext
    refine wpAny_bind (wpAny_attempt (wpAny_callSpecial?_slot (name := Str.ofString "__next__") hT F.slot_enumerate_next
      (wpAny_call_entry F.slot_enumerate_next hT F.entry_enumerate_next ?_ (F.args_enumerate_next_1 _))))
    show wpAny _ _ (field (.ref e) 2 >>= _) _ _ _
    refine wpAny_bind (wpAny_field he rfl (x := .ref it) rfl ?_)
    refine wpAny_bind (RZ.nextOf_tuple_end (A := X.A.in1) (I.ok.hd hc) hit (show s.heap.IsTuple a its.toArray from p) (by simp; omega) fun h' x he' hx' => ?_)
    obtain ⟨o, ho, hc'⟩ := hx'
    refine wpAny_bind (wpAny_isInstance (T := "StopIteration") (b := true) ⟨o, ho, hc'⟩ isSubtype_stop ?_)
    exact wpAny_pure ⟨rfl, I.turned (t' := s.toks) (fun b o hb q => he' b o hb q) f0 f1 f3 f4 f5⟩
  self := fun A i s Q E st h => let ⟨⟨_, he⟩, _⟩ := st; wpAny_pyIter_enum he h
def iEnumT (K : PySem.W.Frag) (ta : TA) : TI := fun σ H R => ta σ H fun vs H1 => ∃ a xs, vs = [.ref a] ∧ SqT K H1 a xs ∧ R (IteT K a) H1
theorem pi_enumT {X : Cx} {e : Expr} {ta : TA} {p pos tpos : Pos} {elts : List Expr} {kk : Nat} (hg : Gl X "enumerate") (hm : X.mg "enumerate" = none) (ha : PA X [e] ta) (hs : starEach [e] X.env = [(false, eval e X.env)] := by rfl) :
    PI X (.Tuple elts kk tpos) (.Call (.Name "enumerate" p) [e] [] pos) (iEnumT X.K ta) := by
  refine ⟨fun pins s σ H R I h => ?_⟩
  refine Call_ (ld_blt I hg hm boot_enumerate (PyProof.Rows.callWith_type1 (thn (ha.run pos pins s σ H _ I h) fun us s1 ⟨vs, H1, I1, r1, q1⟩ => ?_) hs rfl))
  obtain ⟨a, xs, ex, hq, q⟩ := q1
  subst ex
  cases r1 with
  | cons r rr =>
    cases rr
    cases r
    obtain ⟨its, rv, p', hz⟩ := I1.tuple hq
    have hlt : a < s1.heap.objs.size := by
      obtain ⟨o, ho, _⟩ := id p'
      exact Heap.lt_size ho
    refine call_enumerate_tuple (show s1.heap.IsTuple a its.toArray from p') fun h' he hit hsz hk => wpAny_pyIter_enum he ?_
    have I2 : Inv X pins σ H1 { s1 with heap := h' } := I1.kept (t' := s1.toks) hk
    refine ⟨s1.heap.objs.size + 1, [s1.heap.objs.size + 1, s1.heap.objs.size], _, _, H1, rfl, I2, turn_enumT a (s1.heap.objs.size + 1) s1.heap.objs.size, ⟨⟨.none, he⟩, hit, Nat.succ_ne_self _, Nat.ne_of_lt hlt, Nat.ne_of_lt (Nat.lt_succ_of_lt hlt)⟩, fun b hb => ?_, q⟩
    have e' : b = s1.heap.objs.size + 1 ∨ b = s1.heap.objs.size := by simpa using hb
    have hle : s1.heap.objs.size ≤ b := by
      rcases e' with z | z
      · rw [z]; exact Nat.le_add_right _ _
      · rw [z]; exact Nat.le_refl _
    exact I1.fpOk hle (I1.hok.fresh hle)
end Xq

/-! A tuple of one or two backwards; loops turn by turn. -/
namespace Xq
open PySem PySem.Spec PyProof.Rows L2
section
variable {prog : Program} {w : World} {A : Around} {E : Value → Shared → Prop} {s : Shared}
theorem rev_places (n : Nat) (hn : n = 1 ∨ n = 2 ∨ n = 3) : Builtin.Slice.sliceAdjust none none (-1) (n : Int) = ((n : Int) - 1, -1) ∧ Builtin.Slice.slicePlaces ((n : Int) - 1) (-1) (-1) = n := by
  rcases hn with rfl | rfl | rfl
  · exact ⟨rfl, rfl⟩
  · exact ⟨rfl, rfl⟩
  · exact ⟨rfl, rfl⟩
theorem sliceApplied_rev {sl : Addr} {vl vu vs : Value} {n : Nat} {Q : Int × Int × Nat → Shared → Prop} (hn : n = 1 ∨ n = 2 ∨ n = 3) (hs : s.heap.IsSliceOf sl vl vu vs) (pl : IsPart vl none) (pu : IsPart vu none) (ps : IsPart vs (some (-1)))
    (h : Q ((n : Int) - 1, -1, n) s) : wpAny (model prog w) A (Builtin.Slice.sliceApplied (.ref sl) (pure (n : Int))) Q E s := by
  obtain ⟨os, hos, hcs, hds⟩ := id hs
  unfold Builtin.Slice.sliceApplied Builtin.Slice.sliceFields
  refine wpAny_bind (wpAny_bind (wpAny_field hos hds (x := vl) rfl (wpAny_bind (wpAny_field hos hds (x := vu) rfl (wpAny_bind (wpAny_field hos hds (x := vs) rfl (wpAny_pure ?_)))))))
  refine wpAny_bind (HT.slicePart_ ps ?_)
  show wpAny _ _ (if ((-1 : Int) == 0) = true then _ else _) _ _ s
  rw [if_neg (by decide)]
  refine wpAny_bind (HT.slicePart_ pl (wpAny_bind (HT.slicePart_ pu (wpAny_bind (wpAny_pure ?_)))))
  show wpAny _ _ (match Builtin.Slice.sliceAdjust none none (-1) (n : Int) with | (lo, hi) => pure (lo, (-1 : Int), Builtin.Slice.slicePlaces lo hi (-1))) _ _ s
  rw [(rev_places n hn).1]
  show wpAny _ _ (pure ((n : Int) - 1, (-1 : Int), Builtin.Slice.slicePlaces ((n : Int) - 1) (-1) (-1))) _ _ s
  rw [(rev_places n hn).2]
  exact wpAny_pure h
theorem getItem_tuple_rev {t sl : Addr} {l : List Value} {vl vu vs : Value} {Q : Value → Shared → Prop} (hn : l.length = 1 ∨ l.length = 2 ∨ l.length = 3) (ht : IsTup s.heap t l.toArray) (hs : s.heap.IsSliceOf sl vl vu vs) (pl : IsPart vl none) (pu : IsPart vu none) (ps : IsPart vs (some (-1)))
    (h : Q (.ref s.heap.objs.size) { s with heap := s.heap.push { cls := .type "tuple", data := .seq l.reverse.toArray } }) : wpAny (model prog w) A (getItem (.ref t) (.ref sl)) Q E s := by
  have htake : sizeOk (.seq l.reverse.toArray) := by
    show l.reverse.toArray.size ≤ sizeLine
    rw [List.size_toArray, List.length_reverse]
    have : 3 ≤ sizeLine := by decide
    omega
  obtain ⟨os, hos, hcs, hds⟩ := id hs
  have hTs : s.TypeIs (.ref sl) "slice" := ⟨os, hos, hcs⟩
  unfold getItem
  try with_reducible refine wpAny_holding ?_
  first | refine wpAny_bind (wpAny_pure ?_) | skip
  refine wpAny_bind (wpAny_sequenceKey ht.typeIs (by decide) ?_)
  refine wpAny_bind (wpAny_callSpecial?_slot (name := Str.ofString "__getitem__") ht.typeIs PyProof.Rows.slot_tuple_getitem
    (wpAny_call_entry PyProof.Rows.slot_tuple_getitem ht.typeIs entry_tuple_getitem ?_ (args_tuple_getitem _ _)))
  show wpAny _ _ (Builtin.Tuple.tupleItemsOf (.ref t) >>= _) _ _ s
  refine wpAny_bind (tupleItemsOf_ ht ?_)
  refine wpAny_bind (wpAny_typeOf hTs ?_)
  rw [if_pos (by decide)]
  refine wpAny_bind (sliceApplied_rev (n := l.toArray.size) (by rw [List.size_toArray]; exact hn) hs pl pu ps ?_)
  have hno : ¬ ((((l.toArray.size : Nat) : Int) - 1 == 0 && (-1 : Int) == 1 && l.toArray.size == l.toArray.size) = true) := by
    intro q
    rw [Bool.and_eq_true, Bool.and_eq_true] at q
    exact absurd q.1.2 (by decide)
  show wpAny _ _ (if (((l.toArray.size : Nat) : Int) - 1 == 0 && (-1 : Int) == 1 && l.toArray.size == l.toArray.size) = true then _ else _) _ _ s
  rw [if_neg hno]
  have pick : ((List.range l.toArray.size).filterMap fun (m : Nat) => l.toArray[((((l.toArray.size : Nat) : Int) - 1) + (m : Int) * (-1)).toNat]?).toArray = l.reverse.toArray := by
    rcases hn with e | e | e
    · match l, e with
      | [a], _ => rfl
    · match l, e with
      | [a, b], _ => rfl
    · match l, e with
      | [a, b, c], _ => rfl
  rw [pick]
  first
    | exact wpAny_bind (m := Builtin.Tuple.tupleExact _) (wpAny_newObj_type (wpAny_pure ⟨_, rfl, wpAny_pure h⟩) htake)
    | exact wpAny_bind (m := Builtin.Tuple.tupleExact _) (wpAny_newObj_type (wpAny_bind (wpAny_pure (wpAny_pure ⟨_, rfl, wpAny_pure h⟩))) htake)
    | exact wpAny_bind (wpAny_bind (m := Builtin.Tuple.tupleExact _) (wpAny_newObj_type (wpAny_pure (wpAny_pure ⟨_, rfl, wpAny_pure h⟩)) htake))
    | exact wpAny_bind (wpAny_bind (m := Builtin.Tuple.tupleExact _) (wpAny_newObj_type (wpAny_pure ⟨_, rfl, wpAny_pure h⟩) htake))
end
/-- t[::-1], t of one or two -/
def tRevT (K : PySem.W.Frag) (te : TE) : TE := fun σ H Q => te σ H fun x H1 => ∃ a xs, x = .ref a ∧ SqT K H1 a xs ∧ (xs.length = 1 ∨ xs.length = 2 ∨ xs.length = 3) ∧ ∀ p, H1 p = none → Q (.ref p) (upd H1 p (.tup xs.reverse))
theorem pe_revT {X : Cx} {e : Expr} {te : TE} {k : Nat} {p1 p2 p3 pos : Pos} (he : PE X e te) : PE X (.Subscript e (.Slice none none (some (.UnaryOp .USub (.Constant (.int 1) k p1) p2)) p3) pos) (tRevT X.K te) := by
  refine ⟨fun pins s σ H Q I h => ?_⟩
  refine Subscript_ (thn (he.run pins s σ H _ I h) fun v s1 ⟨x, H1, I1, r1, q1⟩ => ?_)
  obtain ⟨a, xs, ex, hx, hl, q⟩ := q1
  subst ex
  cases r1
  have hst : PO X (some (.UnaryOp .USub (.Constant (.int 1) k p1) p2)) (tPart (tUn (rU fun i => .int (-i)) (tC (.int 1)))) := po_some (pe_un un_neg pe_int)
  refine wpAny_Slice (thn (po_none.run pins s1 σ H1 (fun o H2 => o = none ∧ H2 = H1) I1 ⟨rfl, rfl⟩) fun vl s2 ⟨l, H2, I2, pl, el, e2⟩ => ?_)
  subst el e2
  refine thn (po_none.run pins s2 σ H2 (fun o H3 => o = none ∧ H3 = H2) I2 ⟨rfl, rfl⟩) fun vu s3 ⟨u, H3, I3, pu, eu, e3⟩ => ?_
  subst eu e3
  refine thn (hst.run pins s3 σ H3 (fun o H4 => o = some (-1) ∧ H4 = H3) I3 ⟨1, rfl, -1, rfl, rfl, rfl⟩) fun vs s4 ⟨o, H4, I4, ps, eo, e4⟩ => ?_
  subst eo e4
  have I5 : Inv X pins σ H4 { s4 with heap := s4.heap.push { cls := .type "slice", data := .fields #[vl, vu, vs] } } := I4.kept (t' := s4.toks) fun b ob q => Heap.get?_push_of_some _ q
  obtain ⟨its, r, ht, hz⟩ := I5.tuple hx
  have hlen := r.length
  show wpAny (model X.prog X.w) X.A (subscriptTail e (.Slice none none (some (.UnaryOp .USub (.Constant (.int 1) k p1) p2)) p3) (.ref a) (.ref s4.heap.objs.size)) (EP X pins σ Q) X.xe { s4 with heap := s4.heap.push { cls := .type "slice", data := .fields #[vl, vu, vs] } }
  refine tail_any (ops := [.ref a, .ref s4.heap.objs.size]) ht.typeIs (PyProof.Rows.slot_tuple_getitem.lookup) ?_ (by with_unfolding_all rfl)
  refine getItem_tuple_rev (by rw [← hlen]; exact hl) ht (Heap.IsSliceOf.new _ vl vu vs) pl pu ps ?_
  refine ⟨.ref _, _, I5.laid (t' := s4.toks) (o := .tup xs.reverse) (fun b ob q => Heap.get?_push_of_some _ q) (Nat.le_refl _) ?_, rfl, q _ (I5.hok.fresh (Nat.le_refl _))⟩
  exact ⟨by rw [List.length_reverse]; exact hz, _, r.reverse, IsTup.new _ _⟩

/-! ### turn by turn -/
section
variable {J : It} {n : Nat} {G : Hp → Prop} {g : TG} {tb : TS} {D : Ends}
/-- the turns of a for over xs -/
def unr (G : Hp → Prop) (g : TG) (tb : TS) (D : Ends) : List V → L2.St → Hp → Prop
  | [], σ, H => G H ∧ D.nx σ H
  | x :: r, σ, H => G H ∧ g x σ H fun σ2 H2 => tb { D with nx := unr G g tb D r, ct := unr G g tb D r, bk := D.nx } σ2 H2
theorem for_unr {xs : List V} (w : Walk J xs.length G (YAt xs)) {σ : L2.St} {H : Hp} (h : unr G g tb D xs σ H) :
    ∃ W : Nat → Nat → L2.St → Hp → Prop, (∃ m, W 0 m σ H) ∧ ∀ i m σ H, W i m σ H →
      (J.stop i H ∧ D.nx σ H) ∨ (J.go i H ∧ ∃ N : L2.St → Hp → Prop, (∀ σ' H', N σ' H' → ∃ m', m' < m ∧ W (i + 1) m' σ' H') ∧ ∀ x H', J.yld i H x H' → g x σ H' fun σ2 H2 => tb { D with nx := N, ct := N, bk := D.nx } σ2 H2) := by
  refine ⟨fun i m σ H => m = xs.length - i ∧ i ≤ xs.length ∧ unr G g tb D (xs.drop i) σ H, ⟨xs.length, by simp, Nat.zero_le _, h⟩, ?_⟩
  rintro i m σ H ⟨rfl, hi, p⟩
  by_cases hlt : i < xs.length
  · rw [List.drop_eq_getElem_cons hlt] at p
    obtain ⟨gg, p⟩ := p
    refine .inr ⟨w.goes i H hlt gg, unr G g tb D (xs.drop (i + 1)), fun σ' H' p' => ⟨xs.length - (i + 1), by omega, rfl, hlt, p'⟩, fun x H' y => ?_⟩
    obtain ⟨e, y2⟩ := w.yields i H x H' hlt gg y
    subst e
    rw [List.getElem?_eq_getElem hlt] at y2
    cases y2
    exact p
  · have e : i = xs.length := by omega
    subst e
    rw [List.drop_length] at p
    exact .inl ⟨w.stops H p.1, p.2⟩
/-- the turns of a for over enumerate -/
def unrE (G : Hp → Prop) (g : TG) (tb : TS) (D : Ends) : Nat → List V → L2.St → Hp → Prop
  | _, [], σ, H => G H ∧ D.nx σ H
  | i, x :: r, σ, H => G H ∧ ∀ T, H T = none → g (.ref T) σ (upd H T (.tup [.int (i : Nat), x])) fun σ2 H2 => tb { D with nx := unrE G g tb D (i + 1) r, ct := unrE G g tb D (i + 1) r, bk := D.nx } σ2 H2
theorem for_unrE {K : PySem.W.Frag} {a : Addr} {xs : List V} {σ : L2.St} {H : Hp} (h : unrE (fun H => SqT K H a xs) g tb D 0 xs σ H) :
    ∃ W : Nat → Nat → L2.St → Hp → Prop, (∃ m, W 0 m σ H) ∧ ∀ i m σ H, W i m σ H →
      ((IteT K a).stop i H ∧ D.nx σ H) ∨ ((IteT K a).go i H ∧ ∃ N : L2.St → Hp → Prop, (∀ σ' H', N σ' H' → ∃ m', m' < m ∧ W (i + 1) m' σ' H') ∧ ∀ x H', (IteT K a).yld i H x H' → g x σ H' fun σ2 H2 => tb { D with nx := N, ct := N, bk := D.nx } σ2 H2) := by
  refine ⟨fun i m σ H => m = xs.length - i ∧ i ≤ xs.length ∧ unrE (fun H => SqT K H a xs) g tb D i (xs.drop i) σ H, ⟨xs.length, by simp, Nat.zero_le _, h⟩, ?_⟩
  rintro i m σ H ⟨rfl, hi, p⟩
  by_cases hlt : i < xs.length
  · rw [List.drop_eq_getElem_cons hlt] at p
    obtain ⟨gg, p⟩ := p
    refine .inr ⟨⟨xs, xs[i], gg, by simp [hlt]⟩, unrE (fun H => SqT K H a xs) g tb D (i + 1) (xs.drop (i + 1)), fun σ' H' p' => ⟨xs.length - (i + 1), by omega, rfl, hlt, p'⟩, fun x H' y => ?_⟩
    obtain ⟨T, z, rfl, hT, rfl, y⟩ := y
    have y2 := y xs gg
    rw [List.getElem?_eq_getElem hlt] at y2
    cases y2
    exact p T hT
  · have e : i = xs.length := by omega
    subst e
    rw [List.drop_length] at p
    exact .inl ⟨⟨xs, p.1, Nat.le_refl _⟩, p.2⟩
/-- the turns of a comprehension over xs -/
def unrC (G : Hp → Prop) (g : TG) (tt : TT) (te : TE) (D : Addr) (vs : List Nat) (σ : L2.St) (Qd : Hp → Prop) : List V → Hp → Prop
  | [], H => G H ∧ Qd H
  | x :: r, H => G H ∧ g x (wipe σ vs) H fun σ2 H2 => wipe σ2 vs = wipe σ vs ∧ tt σ2 H2 fun b H3 =>
    if b = true then te σ2 H3 fun y H4 => ∃ acc, H4 D = some (.lst acc) ∧ acc.length < sizeLine ∧ unrC G g tt te D vs σ Qd r (upd H4 D (.lst (acc ++ [y]))) else unrC G g tt te D vs σ Qd r H3
theorem lc_unr {xs : List V} (w : Walk J xs.length G (YAt xs)) {tt : TT} {te : TE} {vs : List Nat} {σ : L2.St} {H1 : Hp} {D : Addr} {Qd : Hp → Prop} (h : unrC G g tt te D vs σ Qd xs (upd H1 D (.lst []))) :
    ∃ W : Nat → Nat → Hp → Prop, (∃ m, W 0 m (upd H1 D (.lst []))) ∧ ∀ i m H, W i m H →
      (J.stop i H ∧ Qd H) ∨ (J.go i H ∧ ∃ Nx : Hp → Prop, (∀ H', Nx H' → ∃ m', m' < m ∧ W (i + 1) m' H') ∧ ∀ x H', J.yld i H x H' → g x (wipe σ vs) H' fun σ2 H2 => wipe σ2 vs = wipe σ vs ∧ tt σ2 H2 fun b H3 =>
        if b = true then te σ2 H3 fun y H4 => ∃ acc, H4 D = some (.lst acc) ∧ acc.length < sizeLine ∧ Nx (upd H4 D (.lst (acc ++ [y]))) else Nx H3) := by
  refine ⟨fun i m H => m = xs.length - i ∧ i ≤ xs.length ∧ unrC G g tt te D vs σ Qd (xs.drop i) H, ⟨xs.length, by simp, Nat.zero_le _, h⟩, ?_⟩
  rintro i m H ⟨rfl, hi, p⟩
  by_cases hlt : i < xs.length
  · rw [List.drop_eq_getElem_cons hlt] at p
    obtain ⟨gg, p⟩ := p
    refine .inr ⟨w.goes i H hlt gg, unrC G g tt te D vs σ Qd (xs.drop (i + 1)), fun H' p' => ⟨xs.length - (i + 1), by omega, rfl, hlt, p'⟩, fun x H' y => ?_⟩
    obtain ⟨e, y2⟩ := w.yields i H x H' hlt gg y
    subst e
    rw [List.getElem?_eq_getElem hlt] at y2
    cases y2
    exact p
  · have e : i = xs.length := by omega
    subst e
    rw [List.drop_length] at p
    exact .inl ⟨w.stops H p.1, p.2⟩
/-- .. without a test -/
def unrY (G : Hp → Prop) (g : TG) (te : TE) (D : Addr) (vs : List Nat) (σ : L2.St) (Qd : Hp → Prop) : List V → Hp → Prop
  | [], H => G H ∧ Qd H
  | x :: r, H => G H ∧ g x (wipe σ vs) H fun σ2 H2 => wipe σ2 vs = wipe σ vs ∧ te σ2 H2 fun y H4 => ∃ acc, H4 D = some (.lst acc) ∧ acc.length < sizeLine ∧ unrY G g te D vs σ Qd r (upd H4 D (.lst (acc ++ [y])))
theorem unrY_eq {te : TE} {D : Addr} {vs : List Nat} {σ : L2.St} {Qd : Hp → Prop} : ∀ xs : List V, unrC G g tYes te D vs σ Qd xs = unrY G g te D vs σ Qd xs
  | [] => rfl
  | x :: r => by
    funext H
    unfold unrC unrY
    rw [unrY_eq r]
    simp only [tYes, if_true]
theorem lc_yes {xs : List V} (w : Walk J xs.length G (YAt xs)) {te : TE} {vs : List Nat} {σ : L2.St} {H1 : Hp} {D : Addr} {Qd : Hp → Prop} (h : unrY G g te D vs σ Qd xs (upd H1 D (.lst []))) :
    ∃ W : Nat → Nat → Hp → Prop, (∃ m, W 0 m (upd H1 D (.lst []))) ∧ ∀ i m H, W i m H →
      (J.stop i H ∧ Qd H) ∨ (J.go i H ∧ ∃ Nx : Hp → Prop, (∀ H', Nx H' → ∃ m', m' < m ∧ W (i + 1) m' H') ∧ ∀ x H', J.yld i H x H' → g x (wipe σ vs) H' fun σ2 H2 => wipe σ2 vs = wipe σ vs ∧ tYes σ2 H2 fun b H3 =>
        if b = true then te σ2 H3 fun y H4 => ∃ acc, H4 D = some (.lst acc) ∧ acc.length < sizeLine ∧ Nx (upd H4 D (.lst (acc ++ [y]))) else Nx H3) :=
  lc_unr w (by rw [unrY_eq]; exact h)
/-- the turns of a comprehension over a zip of two lists -/
def unrZ (G : Hp → Prop) (g : TG) (tt : TT) (te : TE) (D : Addr) (vs : List Nat) (σ : L2.St) (Qd : Hp → Prop) : List (V × V) → Hp → Prop
  | [], H => G H ∧ Qd H
  | x :: r, H => G H ∧ ∀ T, H T = none → g (.ref T) (wipe σ vs) (upd H T (.tup [x.1, x.2])) fun σ2 H2 => wipe σ2 vs = wipe σ vs ∧ tt σ2 H2 fun b H3 =>
    if b = true then te σ2 H3 fun y H4 => ∃ acc, H4 D = some (.lst acc) ∧ acc.length < sizeLine ∧ unrZ G g tt te D vs σ Qd r (upd H4 D (.lst (acc ++ [y]))) else unrZ G g tt te D vs σ Qd r H3
theorem lc_unrZ {K : PySem.W.Frag} {a b : Addr} {xs ys : List V} {tt : TT} {te : TE} {vs : List Nat} {σ : L2.St} {H1 : Hp} {D : Addr} {Qd : Hp → Prop}
    (h : unrZ (fun H => SqL K H a xs ∧ SqL K H b ys) g tt te D vs σ Qd (xs.zip ys) (upd H1 D (.lst []))) :
    ∃ W : Nat → Nat → Hp → Prop, (∃ m, W 0 m (upd H1 D (.lst []))) ∧ ∀ i m H, W i m H →
      ((Itz K a b).stop i H ∧ Qd H) ∨ ((Itz K a b).go i H ∧ ∃ Nx : Hp → Prop, (∀ H', Nx H' → ∃ m', m' < m ∧ W (i + 1) m' H') ∧ ∀ x H', (Itz K a b).yld i H x H' → g x (wipe σ vs) H' fun σ2 H2 => wipe σ2 vs = wipe σ vs ∧ tt σ2 H2 fun b H3 =>
        if b = true then te σ2 H3 fun y H4 => ∃ acc, H4 D = some (.lst acc) ∧ acc.length < sizeLine ∧ Nx (upd H4 D (.lst (acc ++ [y]))) else Nx H3) := by
  refine ⟨fun i m H => m = (xs.zip ys).length - i ∧ i ≤ (xs.zip ys).length ∧ unrZ (fun H => SqL K H a xs ∧ SqL K H b ys) g tt te D vs σ Qd ((xs.zip ys).drop i) H, ⟨(xs.zip ys).length, by simp, Nat.zero_le _, h⟩, ?_⟩
  rintro i m H ⟨rfl, hi, p⟩
  by_cases hlt : i < (xs.zip ys).length
  · rw [List.drop_eq_getElem_cons hlt] at p
    obtain ⟨⟨gx, gy⟩, p⟩ := p
    have hl := hlt
    rw [List.length_zip] at hl
    have h1 : i < xs.length := by omega
    have h2 : i < ys.length := by omega
    refine .inr ⟨⟨xs, ys, xs[i], ys[i], gx, gy, List.getElem?_eq_getElem h1, List.getElem?_eq_getElem h2⟩, unrZ (fun H => SqL K H a xs ∧ SqL K H b ys) g tt te D vs σ Qd ((xs.zip ys).drop (i + 1)), fun H' p' => ⟨(xs.zip ys).length - (i + 1), by omega, rfl, hlt, p'⟩, fun x H' y => ?_⟩
    obtain ⟨T, u, v, rfl, hT, rfl, y1, y2⟩ := y
    have e1 := y1 xs gx
    have e2 := y2 ys gy
    rw [List.getElem?_eq_getElem h1] at e1
    rw [List.getElem?_eq_getElem h2] at e2
    cases e1
    cases e2
    have p2 := p T hT
    rw [List.getElem_zip] at p2
    exact p2
  · have e : i = (xs.zip ys).length := by omega
    subst e
    rw [List.drop_length] at p
    refine .inl ⟨⟨xs, ys, p.1.1, p.1.2, ?_⟩, p.2⟩
    rw [List.length_zip]
    omega
/-- a while of at most k turns -/
def unrW (c : TT) (tb : TS) (D : Ends) : Nat → L2.St → Hp → Prop
  | 0, σ, H => c σ H fun b H1 => b = false ∧ D.nx σ H1
  | k + 1, σ, H => c σ H fun b H1 => if b = true then tb { D with nx := unrW c tb D k, ct := unrW c tb D k, bk := D.nx } σ H1 else D.nx σ H1
end
/-- a test's reading that may be weakened -/
def tMnT (t : TT) : TT := fun σ H Q => ∃ Q0 : Bool → Hp → Prop, t σ H Q0 ∧ ∀ b H1, Q0 b H1 → Q b H1
theorem pt_mn {X : Cx} {c : Expr} {t : TT} (h : PT X c t) : PT X c (tMnT t) := by
  refine ⟨fun pins s σ H Q I hq => ?_⟩
  obtain ⟨Q0, q0, im⟩ := hq
  exact thn (h.run pins s σ H Q0 I q0) fun b s1 ⟨H1, I1, q⟩ => ⟨H1, I1, im b H1 q⟩
def tWhU (t : TT) (tb : TS) : TS := fun D σ H => ∃ k, unrW t tb D k σ H
/-- while, a known number of turns at most -/
theorem ps_whU {X : Cx} {c : Expr} {body : List Stmt} {tc : TT} {tb : TS} {pos : Pos} (hp : PassesOwn (model X.prog X.w) X.A X.env X.xe) (hc : PT X c tc) (hb : PSs X body tb) : PS X (.While c body [] pos) (tWhU tc tb) := by
  have h := ps_while (pos := pos) hp (pt_mn hc) hb
  refine ⟨fun pins s σ H D I hq => h.run pins s σ H D I ?_⟩
  obtain ⟨k, hq⟩ := hq
  refine ⟨fun m σ H => unrW tc tb D m σ H, ⟨k, hq⟩, ?_⟩
  intro m σ H p
  cases m with
  | zero =>
    refine ⟨_, p, fun b H1 q => ?_⟩
    obtain ⟨rfl, q⟩ := q
    exact q
  | succ m =>
    refine ⟨_, p, fun b H1 q => ?_⟩
    cases b with
    | true => exact ⟨unrW tc tb D m, fun σ' H' p' => ⟨m, Nat.lt_succ_self m, p'⟩, q⟩
    | false => exact q
def tWhB (t : TT) (tb : TS) : TS := fun D σ H => ∃ (Pv : L2.St → Hp → Prop) (μ : L2.St → Hp → Nat), Pv σ H ∧ ∀ σ H, Pv σ H → t σ H fun b H1 =>
  if b = true then tb { D with nx := fun σ' H' => Pv σ' H' ∧ μ σ' H' < μ σ H, ct := fun σ' H' => Pv σ' H' ∧ μ σ' H' < μ σ H, bk := D.nx } σ H1 else D.nx σ H1
/-- while, by a word and a measure of the state -/
theorem ps_whB {X : Cx} {c : Expr} {body : List Stmt} {tc : TT} {tb : TS} {pos : Pos} (hp : PassesOwn (model X.prog X.w) X.A X.env X.xe) (hc : PT X c tc) (hb : PSs X body tb) : PS X (.While c body [] pos) (tWhB tc tb) := by
  have h := ps_while (pos := pos) hp (pt_mn hc) hb
  refine ⟨fun pins s σ H D I hq => h.run pins s σ H D I ?_⟩
  obtain ⟨Pv, μ, h0, hs⟩ := hq
  refine ⟨fun m σ H => m = μ σ H ∧ Pv σ H, ⟨_, rfl, h0⟩, ?_⟩
  rintro m σ H ⟨rfl, p⟩
  refine ⟨_, hs σ H p, fun b H1 q => ?_⟩
  cases b with
  | true => exact ⟨_, fun σ' H' ⟨p', l⟩ => ⟨_, l, rfl, p'⟩, q⟩
  | false => exact q
/-! ### what is never asked -/
theorem pe_nv {X : Cx} {e : Expr} : PE X e (fun _ _ _ => False) := ⟨fun _ _ _ _ _ _ h => False.elim h⟩
theorem ps_nv {X : Cx} {e : Stmt} : PS X e (fun _ _ _ => False) := ⟨fun _ _ _ _ _ _ h => False.elim h⟩
theorem pss_nv {X : Cx} {e : List Stmt} : PSs X e (fun _ _ _ => False) := ⟨fun _ _ _ _ _ _ h => False.elim h⟩
/-! ### heaps -/
theorem Same.put {H0 H1 : Hp} {p : Addr} {o : HO} (s : Same H0 H1) (h : H0 p = none) : Same H0 (upd H1 p o) := fun b u e => by
  rw [upd_ne (ne_of_none e h)]
  exact s b u e
theorem same_new {H : Hp} {p : Addr} {o : HO} (hp : H p = none) : Same H (upd H p o) := fun b u e => by
  rw [upd_ne (ne_of_none e hp)]
  exact e
theorem Same.new {H0 H1 : Hp} {p : Addr} {o : HO} (s : Same H0 H1) (h : H1 p = none) : Same H0 (upd H1 p o) := s.trans (same_new h)
theorem new_of {H0 H1 : Hp} {p : Addr} (s : Same H0 H1) (h : H1 p = none) : H0 p = none := by
  cases e : H0 p with
  | none => rfl
  | some u =>
    rw [s _ _ e] at h
    cases h
end Xq

/-! The defs' promises in one form; integers, fractions, terms. -/
namespace Xq
open PySem PySem.Spec PyProof.Rows L2
def top (i : Nat) : Stmt := PySem.Challenge.pw_likepanes_k42_whole_texts_of_trees.main.body.getD i (.Pass ⟨0, 0, 0, 0⟩)
/-- called with args a where pre holds, it gives a value of which post holds; what was tracked is as it was -/
def Prm {α : Type} (args : α → List V) (pre : α → Hp → Prop) (post : α → Hp → V → Hp → Prop) : Sp := fun vs H Q _ => ∃ a, vs = args a ∧ pre a H ∧ ∀ v H', Same H H' → post a H v H' → Q v H'
/-- a def of the module that keeps a promise, as it is called by its name -/
structure Cal (P : Program) (w : World) (K : PySem.W.Frag) (mg : Str → Option Value) (base : Heap) (k : Nat) (x : Str) (ps : List Str) (sp : Sp) : Prop where
  ex : ∃ f fd, FnOk P w K mg base CX0 k f fd ps sp ∧ Binds K fd ps [] ∧ mg x = some (.ref f) ∧ PySem.W.keepIn K (.ref f) = true ∧ ∃ oc od osl, K.lookup f = some ⟨oc, od, .func fd, osl⟩
/-- the def st stands under its name -/
structure Df (K : PySem.W.Frag) (mg : Str → Option Value) (x : Str) (st : Stmt) : Prop where
  ex : ∃ f fd, Fun K x x st f fd ∧ mg x = some (.ref f)
section
variable {X : Cx} {k j : Nat} {ps : List Str} {sp : Sp} {x : Str} {p pos : Pos} {e : Expr} {es : List Expr} {t : TA}
theorem pe_cl (C : Cal X.prog X.w X.K X.mg X.base k x ps sp) (hr : Room j X.A) (ha : PA X (e :: es) t) (hkj : k ≤ j := by decide) (hg : Gl X x := by rfl) (hdb : (x == ("__debug__" : Str)) = false := by decide)
    (he : starEach (e :: es) X.env = (false, eval e X.env) :: starEach es X.env := by rfl) (hpl : (backTo pos (starEach es X.env)).any (·.1) = false := by rfl) :
    PE X (.Call (.Name x p) (e :: es) [] pos) (tCall sp [] E0 t) := by
  obtain ⟨f, fd, F, b, m, kp, _⟩ := C.ex
  exact pe_call F (hr.mono hkj) hg m kp b .nil pass0 ha hdb he hpl
end
theorem mkC {P : Program} {w : World} {K : PySem.W.Frag} {mg : Str → Option Value} {base : Heap} {α : Type} {args : α → List V} {pre : α → Hp → Prop} {post : α → Hp → V → Hp → Prop} {N ps : List Str} {x : Str} {st : Stmt} {k : Nat}
    (D : Df K mg x st) (S : FnScope N ps (defScope st))
    (hb : ∀ (kV doc pm : Value) (an : Option Addr) (cdv ct : Value) (us : List Value), us.length = ps.length → bindArgs (PySem.W.fnOf x x (defArgs st) (defBody st) (defScope st) .none kV doc pm an cdv ct) ⟨us, []⟩ = pure (ps.zip us))
    (hl : ∀ a : α, (args a).length = ps.length)
    (h : ∀ (f : Addr) (cdv : Value) (A : Around) (outer : List Env) (s : Shared) (H : Hp) (a : α) (Q : VK) (E : XK), Room k (A.deeper (envOfC x (defScope st) s.heap.objs.size f cdv)) → pre a H →
      (∀ v H', Same H H' → post a H v H' → Q v H') →
      ∃ t, PSs (cxOf CX0 P w K mg base N x (defScope st) f cdv A outer s H E).nox (defBody st) t ∧ t { nx := fun _ H' => Q .non H', rt := Q } (L2.start N (args a)) H) :
    Cal P w K mg base (k + 1) x ps (Prm args pre post) := by
  obtain ⟨f, fd, F, m⟩ := D.ex
  have lk : ∃ oc od osl, K.lookup f = some ⟨oc, od, .func fd, osl⟩ := by
    obtain ⟨oc, od, kV, doc, pm, an, cdv, ct, osl, _, lk, _⟩ := F.ex
    exact ⟨oc, od, osl, lk⟩
  refine ⟨f, fd, F.ok S (fun vs H Q E h => ?_) (fun cdv A outer s H vs Q E hr hp => ?_), F.binds hb, m, F.kp, lk⟩
  · obtain ⟨a, rfl, _⟩ := h
    exact hl a
  · obtain ⟨a, rfl, hpre, hk⟩ := hp
    exact h f cdv A outer s H a Q E hr hpre hk
/-- of two promises either -/
def OrS (a b : Sp) : Sp := fun vs H Q E => a vs H Q E ∨ b vs H Q E
theorem Cal.or {P : Program} {w : World} {K : PySem.W.Frag} {mg : Str → Option Value} {base : Heap} {k : Nat} {x : Str} {ps : List Str} {a b : Sp} (C : Cal P w K mg base k x ps a) (C' : Cal P w K mg base k x ps b) : Cal P w K mg base k x ps (OrS a b) := by
  obtain ⟨f, fd, F, bb, m, kp, oc, od, osl, lk⟩ := C.ex
  obtain ⟨f', fd', F', _, m', _, oc', od', osl', lk'⟩ := C'.ex
  rw [m] at m'
  cases m'
  rw [lk] at lk'
  cases lk'
  refine ⟨f, fd, ⟨fun vs H Q E h => h.elim (F.len vs H Q E) (F'.len vs H Q E), ?_⟩, bb, m, kp, oc, od, osl, lk⟩
  intro A outer s H args us vs Q E hr e0 hbd r h
  rcases h with h | h
  · exact F.run A outer s H args us vs Q E hr e0 hbd r h
  · exact F'.run A outer s H args us vs Q E hr e0 hbd r h
/-- the built-ins' names are free -/
structure Bl (mg : Str → Option Value) : Prop where
  isinstance_ : mg "isinstance" = none
  int_ : mg "int" = none
  bool_ : mg "bool" = none
  tuple_ : mg "tuple" = none
  str_ : mg "str" = none
  len_ : mg "len" = none
  all_ : mg "all" = none
  range_ : mg "range" = none
  max_ : mg "max" = none
  min_ : mg "min" = none
  abs_ : mg "abs" = none
  enumerate_ : mg "enumerate" = none
  zip_ : mg "zip" = none
  gcd_ : mg "gcd" = some (.builtin "math.gcd")
  deg_ : ∃ t, mg "MOST_DEGREE" = some (.int 5 t)
  term_ : ∃ t, mg "MOST_TERM" = some (.int 1000 t)
  bits_ : ∃ t, mg "FIRST_BITS" = some (.int 64 t)
theorem gn {i : Nat} {v : V} {σ : L2.St} {H : Hp} {Q : L2.St → Hp → Prop} : gName i v σ H Q = Q (σ.set i (some v)) H := rfl
/-- a tuple of ints -/
def TI (H : Hp) (p : Addr) (xs : List Int) : Prop := H p = some (.tup (xs.map V.int))
def LI (H : Hp) (p : Addr) (xs : List Int) : Prop := H p = some (.lst (xs.map V.int))
theorem TI.same {H H' : Hp} {p : Addr} {xs : List Int} (s : Same H H') (h : TI H p xs) : TI H' p xs := s _ _ h
section
variable {P : Program} {w : World} {K : PySem.W.Frag} {mg : Str → Option Value} {base : Heap}
theorem pe_isi {X : Cx} {e : Expr} {te : TE} {p p2 pos : Pos} {x : Str} {v : V} {u : Value} (hg : Gl X "isinstance") (hm : X.mg "isinstance" = none) (he : PE X e te) (hg2 : Gl X x) (hm2 : X.mg x = none) (hv : bootBuiltins x = some u) (r : RelV v u)
    (hst : starEach [e, .Name x p2] X.env = (false, eval e X.env) :: starEach [.Name x p2] X.env := by rfl)
    (hn : x ≠ "__name__" := by decide) (hd : (x == ("__debug__" : Str)) = false := by decide) :
    PE X (.Call (.Name "isinstance" p) [e, .Name x p2] [] pos) (tCB (rIsi X.K) (tCons te (tCons (tC v) tNil))) :=
  pe_callB call_isi hg hm (by decide +kernel) (pa_cons he (pa_cons (pe_bltn hg2 hm2 hv r hn hd) pa_nil) hst) (by decide) (by decide) hst
abbrev spIsInt : Sp := Prm (α := Int) (fun i => [.int i]) (fun _ _ => True) (fun _ H v H' => v = .bl true ∧ H' = H)
theorem c_isint (D : Df K mg "is_integer" (top 18)) (B : Bl mg) : Cal P w K mg base 1 "is_integer" ["value"] spIsInt := by
  refine mkC D (N := ["value"]) (⟨rfl, rfl, rfl, by decide +kernel, rfl, by decide +kernel, by decide +kernel⟩) (fun _ _ _ _ _ _ us hl => match us, hl with | [_], _ => rfl) (fun _ => rfl) (fun f cdv A outer s H a Q E hr _ k => ?_)
  refine ⟨_, pss_one (ps_ret (pe_and (pe_isi (v := .ty "int") (by rfl) B.isinstance_ (pv 0) (by rfl) B.int_ PyProof.Rows.boot_int rfl) (pe_one (pe_not (pe_isi (v := .ty "bool") (by rfl) B.isinstance_ (pv 0) (by rfl) B.bool_ PyProof.Rows.boot_bool rfl))))), ?_⟩
  refine ⟨_, rfl, _, _, _, _, true, rfl, .ty _, .base (.int _), kit_ty (by decide +kernel), _, rfl, iteT ?_⟩
  refine ⟨_, rfl, _, _, _, _, false, rfl, .ty _, .base (.int _), kit_ty (by decide +kernel), _, rfl, k _ _ (Same.refl _) ⟨rfl, rfl⟩⟩
end
end Xq

namespace Xq
open PySem PySem.Spec PyProof.Rows L2
section
variable {P : Program} {w : World} {K : PySem.W.Frag} {mg : Str → Option Value} {base : Heap}
/-- a tuple of two ints -/
abbrev pre2 : Addr × Int × Int → Hp → Prop := fun a H => TI H a.1 [a.2.1, a.2.2]
theorem s21 : FnScope ["value"] ["value"] (defScope (top 22)) := (⟨rfl, rfl, rfl, by decide +kernel, rfl, by decide +kernel, by decide +kernel⟩)
abbrev spIsTerm : Sp := Prm (α := Int) (fun i => [.int i]) (fun i _ => -1000 ≤ i ∧ i ≤ 1000) (fun _ H v H' => v = .bl true ∧ H' = H)
theorem c_isterm (D : Df K mg "is_term" (top 22)) (B : Bl mg) (C : Cal P w K mg base 1 "is_integer" ["value"] spIsInt) : Cal P w K mg base 2 "is_term" ["value"] spIsTerm := by
  refine mkC D s21 (fun _ _ _ _ _ _ us hl => match us, hl with | [_], _ => rfl) (fun _ => rfl) (fun f cdv A outer s H i Q E hr h k => ?_)
  obtain ⟨t, ht⟩ := B.term_
  refine ⟨_, pss_one (ps_ret (pe_and (pe_cl C hr (pa_cons (pv 0) pa_nil)) (pe_one (pe_chain op_le op_le (pe_un un_neg (pe_glob (v := .int 1000) (by rfl) ht ⟨_, rfl⟩)) (pv 0) (pe_glob (v := .int 1000) (by rfl) ht ⟨_, rfl⟩))))), ?_⟩
  refine ⟨_, rfl, i, rfl, trivial, ?_⟩
  rintro _ _ - ⟨rfl, rfl⟩
  refine ⟨_, rfl, iteT ?_⟩
  refine ⟨_, rfl, _, rfl, _, _, rfl, rfl, _, rfl, ?_⟩
  rw [decide_eq_true (show -1000 ≤ i from h.1)]
  refine iteT ⟨_, _, rfl, rfl, k _ _ (Same.refl _) ⟨?_, rfl⟩⟩
  show V.bl (decide (i ≤ 1000)) = _
  rw [decide_eq_true h.2]
theorem s22 : FnScope ["equation", "at", "term", "last"] ["equation"] (defScope (top 23)) := (⟨rfl, rfl, rfl, by decide +kernel, rfl, by decide +kernel, by decide +kernel⟩)
abbrev spWrong : Sp := Prm (α := Addr × Int × Int × Int) (fun a => [.ref a.1]) (fun a H => TI H a.1 [a.2.1, a.2.2.1, a.2.2.2] ∧ (-1000 ≤ a.2.1 ∧ a.2.1 ≤ 1000) ∧ (-1000 ≤ a.2.2.1 ∧ a.2.2.1 ≤ 1000) ∧ (-1000 ≤ a.2.2.2 ∧ a.2.2.2 ≤ 1000) ∧ a.2.2.2 ≠ 0) (fun _ H v H' => v = .non)
theorem c_wrong (D : Df K mg "wrong_term" (top 23)) (B : Bl mg) (C : Cal P w K mg base 2 "is_term" ["value"] spIsTerm) : Cal P w K mg base 3 "wrong_term" ["equation"] spWrong := by
  refine mkC D s22 (fun _ _ _ _ _ _ us hl => match us, hl with | [_], _ => rfl) (fun _ => rfl) (fun f cdv A outer s H a Q E hr h k => ?_)
  obtain ⟨p, x, y, u⟩ := a
  obtain ⟨h, hx, hy, hu, hz⟩ := h
  obtain ⟨t, ht⟩ := B.deg_
  refine ⟨_, pss_cons (ps_for PassesOwn.never rfl (pi_enumT (by rfl) B.enumerate_ (pa_cons (pv 0) pa_nil)) (pg_tup rfl (pgs_cons ((pg_name (i := 1) (FnScope.nd s22) rfl (Or.inl rfl))) (pgs_cons ((pg_name (i := 2) (FnScope.nd s22) rfl (Or.inl rfl))) pgs_nil)))
      (pss_one (ps_if (PW.pt (pw_or ((pt_cmpR op_gt (pv 1) (pe_glob (v := .int 5) (by rfl) ht ⟨_, rfl⟩) (nomark _))) (pw_or1 (pt_not (pt_val (pe_cl C hr (pa_cons (pv 2) pa_nil))))))) pss_nv pss_nil)))
    (pss_cons ((ps_set (i := 3) (FnScope.nd s22) rfl (Or.inl rfl) (pe_op op_sub ((pe_callB call_len_seq (by rfl) (Bl.len_ B) PySem.boot_len (pa_cons (pv 0) pa_nil))) pe_int)))
    (pss_one (ps_ret (pe_ifExp ((pt_cmpR op_eq ((pe_ix ix_tup (pv 0) (pv 3) (fun _ _ => rfl))) pe_int (nomark _))) pe_nv pe_non)))), ?_⟩
  have h0 : H p = some (.tup [.int x, .int y, .int u]) := h
  refine ⟨_, rfl, p, _, rfl, SqT.of h0, for_unrE (xs := [.int x, .int y, .int u]) ?_⟩
  refine ⟨SqT.of h0, fun T hT => ⟨T, _, rfl, SqT.of upd_same, rfl, _, _, rfl, _, _, rfl, rfl, ?_⟩⟩
  have s1 := same_new (o := .tup [.int (0 : Nat), .int x]) hT
  refine ⟨_, rfl, _, _, rfl, rfl, _, rfl, iteF ?_⟩
  refine ⟨_, rfl, x, rfl, hx, ?_⟩
  rintro _ _ - ⟨rfl, rfl⟩
  refine ⟨_, rfl, iteF ?_⟩
  have h1 := s1 _ _ h0
  refine ⟨SqT.of h1, fun T2 hT2 => ⟨T2, _, rfl, SqT.of upd_same, rfl, _, _, rfl, _, _, rfl, rfl, ?_⟩⟩
  have s2 := s1.trans (same_new (o := .tup [.int (1 : Nat), .int y]) hT2)
  refine ⟨_, rfl, _, _, rfl, rfl, _, rfl, iteF ?_⟩
  refine ⟨_, rfl, y, rfl, hy, ?_⟩
  rintro _ _ - ⟨rfl, rfl⟩
  refine ⟨_, rfl, iteF ?_⟩
  have h2 := s2 _ _ h0
  refine ⟨SqT.of h2, fun T3 hT3 => ⟨T3, _, rfl, SqT.of upd_same, rfl, _, _, rfl, _, _, rfl, rfl, ?_⟩⟩
  have s3 := s2.trans (same_new (o := .tup [.int (2 : Nat), .int u]) hT3)
  refine ⟨_, rfl, _, _, rfl, rfl, _, rfl, iteF ?_⟩
  refine ⟨_, rfl, u, rfl, hu, ?_⟩
  rintro _ _ - ⟨rfl, rfl⟩
  refine ⟨_, rfl, iteF ?_⟩
  have h3 := s3 _ _ h0
  refine ⟨SqT.of h3, ?_⟩
  refine ⟨_, rfl, p, _, rfl, .inr (SqT.of h3), _, _, rfl, rfl, ?_⟩
  refine ⟨_, rfl, _, rfl, p, _, 2, .int u, rfl, rfl, SqT.of h3, atI_nat (j := 2) rfl, rfl, _, rfl, ?_⟩
  rw [dec_int, show (u == 0) = false from by simpa using hz]
  exact iteF (k _ _ s3 rfl)
end
end Xq

namespace Xq
open PySem PySem.Spec PyProof.Rows L2
def trimM (xs : List Int) : Nat → Nat
  | 0 => 0
  | m + 1 => if xs.getD m 0 = 0 then trimM xs m else m + 1
def trimI (xs : List Int) : List Int := xs.take (trimM xs xs.length)
theorem trimM_le (xs : List Int) : ∀ m, trimM xs m ≤ m
  | 0 => Nat.le_refl _
  | m + 1 => by
    unfold trimM
    split
    · exact Nat.le_succ_of_le (trimM_le xs m)
    · exact Nat.le_refl _
def gcdL (xs : List Int) : Nat := xs.foldl (fun g x => Nat.gcd g x.natAbs) 0
theorem gcdL_succ {xs : List Int} {i : Nat} {x : Int} (h : xs[i]? = some x) : gcdL (xs.take (i + 1)) = Nat.gcd (gcdL (xs.take i)) x.natAbs := by
  unfold gcdL
  rw [List.take_add_one, h, Option.toList_some, List.foldl_append]
  rfl
section
variable {P : Program} {w : World} {K : PySem.W.Frag} {mg : Str → Option Value} {base : Heap}
theorem s24 : FnScope ["terms", "many"] ["terms"] (defScope (top 25)) := (⟨rfl, rfl, rfl, by decide +kernel, rfl, by decide +kernel, by decide +kernel⟩)
/-- a list or a tuple of ints -/
def Sq (H : Hp) (p : Addr) (xs : List Int) : Prop := LI H p xs ∨ TI H p xs
theorem Sq.len {H : Hp} {p : Addr} {xs : List Int} (h : Sq H p xs) : SqL K H p (xs.map V.int) ∨ SqT K H p (xs.map V.int) := h.elim (fun q => .inl (SqL.of q)) (fun q => .inr (SqT.of q))
abbrev spTrim : Sp := Prm (α := Addr × List Int) (fun a => [.ref a.1]) (fun a H => Sq H a.1 a.2) (fun a H v H' => ∃ q, v = .ref q ∧ TI H' q (trimI a.2))
theorem c_trim (D : Df K mg "trimmed" (top 25)) (B : Bl mg) : Cal P w K mg base 1 "trimmed" ["terms"] spTrim := by
  refine mkC D s24 (fun _ _ _ _ _ _ us hl => match us, hl with | [_], _ => rfl) (fun _ => rfl) (fun f cdv A outer s H a Q E hr h k => ?_)
  obtain ⟨p, xs⟩ := a
  have len0 : SqL K H p (xs.map V.int) ∨ SqT K H p (xs.map V.int) := Sq.len h
  have cut : cutV (xs.map V.int) none (some (trimM xs xs.length : Nat)) = (trimI xs).map V.int := by
    have hl := trimM_le xs xs.length
    have e1 : HT.sIx (xs.map V.int).length 0 none = 0 := rfl
    have e2 : HT.sIx (xs.map V.int).length (xs.map V.int).length (some ((trimM xs xs.length : Nat) : Int)) = trimM xs xs.length := by
      rw [HT.sIx_nat, List.length_map]
      omega
    unfold cutV trimI
    rw [e1, e2, List.drop_zero, Nat.sub_zero, List.map_take]
  have stp : ∀ m : Nat, 0 < m → m ≤ xs.length → ∃ z, xs[m - 1]? = some z ∧ (xs.map V.int)[m - 1]? = some (V.int z) ∧ (z = 0 → trimM xs m = trimM xs (m - 1)) ∧ (z ≠ 0 → trimM xs m = m) := fun m h0 hm => by
    have hlt : m - 1 < xs.length := by omega
    refine ⟨xs[m - 1], List.getElem?_eq_getElem hlt, by rw [List.getElem?_map, List.getElem?_eq_getElem hlt]; rfl, fun hz => ?_, fun hz => ?_⟩
    · obtain ⟨n, rfl⟩ : ∃ n, m = n + 1 := ⟨m - 1, by omega⟩
      have e : xs.getD n 0 = 0 := by
        rw [List.getD_eq_getElem?_getD, List.getElem?_eq_getElem (show n < xs.length from hlt), Option.getD_some]
        exact hz
      show (if xs.getD n 0 = 0 then trimM xs n else n + 1) = trimM xs n
      rw [if_pos e]
    · obtain ⟨n, rfl⟩ : ∃ n, m = n + 1 := ⟨m - 1, by omega⟩
      have e : ¬ xs.getD n 0 = 0 := by
        rw [List.getD_eq_getElem?_getD, List.getElem?_eq_getElem (show n < xs.length from hlt), Option.getD_some]
        exact hz
      show (if xs.getD n 0 = 0 then trimM xs n else n + 1) = n + 1
      rw [if_neg e]
  rcases h with h | h
  · have hq : SqL K H p (xs.map V.int) := SqL.of h
    refine ⟨_, pss_cons ((ps_set (i := 1) (FnScope.nd s24) rfl (Or.inl rfl) ((pe_callB call_len_seq (by rfl) (Bl.len_ B) PySem.boot_len (pa_cons (pv 0) pa_nil)))))
      (pss_cons (ps_whB PassesOwn.never (PW.pt (pw_and ((pt_cmpR op_gt (pv 1) pe_int (nomark _))) (pw_and1 ((pt_cmpR op_eq ((pe_ix ix_list (pv 0) (pe_op op_sub (pv 1) pe_int) (fun _ _ => rfl))) pe_int (nomark _)))))) (pss_one (ps_aug (i := 1) s24.nd rfl (Or.inl rfl) pe_int ip_sub)))
      (pss_one (ps_ret (pe_callTy call_tuple_of (by rfl) B.tuple_ PyProof.Rows.boot_tuple (pa_cons (pe_slice sl_list (pv 0) po_none (po_some (pv 1))) pa_nil))))), ?_⟩
    refine ⟨_, rfl, p, _, rfl, len0, ?_⟩
    refine ⟨fun σ H' => H' = H ∧ ∃ m : Nat, σ = [some (.ref p), some (.int m)] ∧ m ≤ xs.length ∧ trimM xs m = trimM xs xs.length, fun σ _ => (match σ with | [_, some (.int m)] => m.toNat | _ => 0), ⟨rfl, xs.length, by rw [List.length_map]; rfl, Nat.le_refl _, rfl⟩, ?_⟩
    rintro σ H' ⟨rfl, m, rfl, hm, ht⟩
    have fin : m = 0 ∨ trimM xs m = m → Q (.ref p) H' ∨ True := fun _ => .inr trivial
    refine ⟨_, rfl, _, _, rfl, rfl, _, rfl, ?_⟩
    have done : trimM xs m = m → (tRet (tCB (fun xs H Q => ∃ p ys, xs = [.ref p] ∧ ((SqL K H p ys ∧ ∀ l, H l = none → Q (.ref l) (upd H l (.tup ys))) ∨ (SqT K H p ys ∧ Q (.ref p) H))) (tCons (tSl (rSlL K) (tVar 0) tNoPart (tPart (tVar 1))) tNil))) { nx := fun _ H' => Q .non H', rt := Q } [some (.ref p), some (.int m)] H' := fun e => by
      refine ⟨_, rfl, _, rfl, _, rfl, p, _, rfl, hq, fun q hq2 => ?_⟩
      have em : m = trimM xs xs.length := e.symm.trans ht
      subst em
      rw [cut]
      have s1 := same_new (o := .lst ((trimI xs).map V.int)) hq2
      refine ⟨q, _, rfl, .inl ⟨SqL.of upd_same, fun q3 hq3 => ?_⟩⟩
      exact k _ _ (Same.new s1 hq3) ⟨q3, rfl, upd_same⟩
    refine ite2 (fun hb => ?_) (fun hb => ?_)
    · have h0 : 0 < m := by
        have q : ((m : Int) > 0) := of_decide_eq_true hb
        omega
      obtain ⟨z, z1, z2, z3, z4⟩ := stp m h0 hm
      have em : ((m : Int) - 1) = ((m - 1 : Nat) : Int) := by omega
      refine ⟨_, rfl, _, rfl, _, _, rfl, rfl, p, _, _, .int z, rfl, rfl, hq, (by rw [em]; exact atI_nat z2), rfl, _, rfl, ?_⟩
      rw [dec_int]
      refine ite2 (fun hz => ?_) (fun hz => ?_)
      · refine ⟨_, rfl, _, _, rfl, rfl, ?_⟩
        refine ⟨⟨rfl, m - 1, by rw [← em]; rfl, by omega, by rw [← z3 (by simpa using hz)]; exact ht⟩, ?_⟩
        show ((m : Int) - 1).toNat < (m : Int).toNat
        omega
      · exact done (z4 (by simpa using hz))
    · have h0 : m = 0 := by
        have q : ¬ ((m : Int) > 0) := fun q => hb (decide_eq_true q)
        omega
      subst h0
      exact done rfl
  · have hq : SqT K H p (xs.map V.int) := SqT.of h
    refine ⟨_, pss_cons ((ps_set (i := 1) (FnScope.nd s24) rfl (Or.inl rfl) ((pe_callB call_len_seq (by rfl) (Bl.len_ B) PySem.boot_len (pa_cons (pv 0) pa_nil)))))
      (pss_cons (ps_whB PassesOwn.never (PW.pt (pw_and ((pt_cmpR op_gt (pv 1) pe_int (nomark _))) (pw_and1 ((pt_cmpR op_eq ((pe_ix ix_tup (pv 0) (pe_op op_sub (pv 1) pe_int) (fun _ _ => rfl))) pe_int (nomark _)))))) (pss_one (ps_aug (i := 1) s24.nd rfl (Or.inl rfl) pe_int ip_sub)))
      (pss_one (ps_ret (pe_callTy call_tuple_of (by rfl) B.tuple_ PyProof.Rows.boot_tuple (pa_cons (pe_slice sl_tupA (pv 0) po_none (po_some (pv 1))) pa_nil))))), ?_⟩
    refine ⟨_, rfl, p, _, rfl, len0, ?_⟩
    refine ⟨fun σ H' => H' = H ∧ ∃ m : Nat, σ = [some (.ref p), some (.int m)] ∧ m ≤ xs.length ∧ trimM xs m = trimM xs xs.length, fun σ _ => (match σ with | [_, some (.int m)] => m.toNat | _ => 0), ⟨rfl, xs.length, by rw [List.length_map]; rfl, Nat.le_refl _, rfl⟩, ?_⟩
    rintro σ H' ⟨rfl, m, rfl, hm, ht⟩
    refine ⟨_, rfl, _, _, rfl, rfl, _, rfl, ?_⟩
    have done : trimM xs m = m → (tRet (tCB (fun xs H Q => ∃ p ys, xs = [.ref p] ∧ ((SqL K H p ys ∧ ∀ l, H l = none → Q (.ref l) (upd H l (.tup ys))) ∨ (SqT K H p ys ∧ Q (.ref p) H))) (tCons (tSl (rSlA K) (tVar 0) tNoPart (tPart (tVar 1))) tNil))) { nx := fun _ H' => Q .non H', rt := Q } [some (.ref p), some (.int m)] H' := fun e => by
      have em : m = trimM xs xs.length := e.symm.trans ht
      refine ⟨_, rfl, _, rfl, _, rfl, p, _, rfl, hq, fun hw => ?_, fun hw q hq2 => ?_⟩
      · have e2 : HT.sIx (xs.map V.int).length (xs.map V.int).length (some (m : Int)) = (xs.map V.int).length := hw.2
        have hml : m = xs.length := by
          rw [HT.sIx_nat, List.length_map] at e2
          omega
        refine ⟨p, _, rfl, .inr ⟨hq, k _ _ (Same.refl _) ⟨p, rfl, ?_⟩⟩⟩
        have et : trimI xs = xs := by
          unfold trimI
          rw [← em, hml, List.take_length]
        show TI H' p (trimI xs)
        rw [et]
        exact h
      · subst em
        rw [cut]
        have s1 := same_new (o := .tup ((trimI xs).map V.int)) hq2
        exact ⟨q, _, rfl, .inr ⟨SqT.of upd_same, k _ _ s1 ⟨q, rfl, upd_same⟩⟩⟩
    refine ite2 (fun hb => ?_) (fun hb => ?_)
    · have h0 : 0 < m := by
        have q : ((m : Int) > 0) := of_decide_eq_true hb
        omega
      obtain ⟨z, z1, z2, z3, z4⟩ := stp m h0 hm
      have em : ((m : Int) - 1) = ((m - 1 : Nat) : Int) := by omega
      refine ⟨_, rfl, _, rfl, _, _, rfl, rfl, p, _, _, .int z, rfl, rfl, hq, (by rw [em]; exact atI_nat z2), rfl, _, rfl, ?_⟩
      rw [dec_int]
      refine ite2 (fun hz => ?_) (fun hz => ?_)
      · refine ⟨_, rfl, _, _, rfl, rfl, ?_⟩
        refine ⟨⟨rfl, m - 1, by rw [← em]; rfl, by omega, by rw [← z3 (by simpa using hz)]; exact ht⟩, ?_⟩
        show ((m : Int) - 1).toNat < (m : Int).toNat
        omega
      · exact done (z4 (by simpa using hz))
    · have h0 : m = 0 := by
        have q : ¬ ((m : Int) > 0) := fun q => hb (decide_eq_true q)
        omega
      subst h0
      exact done rfl
theorem s25 : FnScope ["terms", "common", "term"] ["terms"] (defScope (top 26)) := (⟨rfl, rfl, rfl, by decide +kernel, rfl, by decide +kernel, by decide +kernel⟩)
abbrev spGcd : Sp := Prm (α := Addr × List Int) (fun a => [.ref a.1]) (fun a H => Sq H a.1 a.2) (fun a H v H' => v = .int (gcdL a.2 : Nat) ∧ H' = H)
theorem c_gcd (D : Df K mg "common_divisor" (top 26)) (B : Bl mg) : Cal P w K mg base 1 "common_divisor" ["terms"] spGcd := by
  refine mkC D s25 (fun _ _ _ _ _ _ us hl => match us, hl with | [_], _ => rfl) (fun _ => rfl) (fun f cdv A outer s H a Q E hr h k => ?_)
  obtain ⟨p, xs⟩ := a
  have turn : ∀ (i : Nat) (x : V) (g : Nat), (xs.map V.int)[i]? = some x → ∃ z, xs[i]? = some z ∧ x = .int z := fun i x g hx => by
    rw [List.getElem?_map] at hx
    cases e : xs[i]? with
    | none => rw [e] at hx; cases hx
    | some z => rw [e] at hx; exact ⟨z, rfl, (Option.some.inj hx).symm⟩
  rcases h with h | h
  · have hq : SqL K H p (xs.map V.int) := SqL.of h
    refine ⟨_, pss_cons ((ps_set (i := 1) (FnScope.nd s25) rfl (Or.inl rfl) pe_int)) (pss_cons (ps_for PassesOwn.never rfl (pi_list (pv 0)) ((pg_name (i := 2) (FnScope.nd s25) rfl (Or.inl rfl)))
        (pss_one ((ps_set (i := 1) (FnScope.nd s25) rfl (Or.inl rfl) (pe_callBfun cr_gcd (by rfl) B.gcd_ (pa_cons (pv 1) (pa_cons (pv 2) pa_nil))))))) (pss_one (ps_ret (pv 1)))), ?_⟩
    refine ⟨_, rfl, p, rfl, ⟨_, hq⟩, for_list (xs := xs.map V.int) (fun i σ H' => H' = H ∧ ∃ z, σ = [some (.ref p), some (.int (gcdL (xs.take i) : Nat)), z]) ⟨rfl, none, rfl⟩ (fun i σ H' _ q => by rw [q.1]; exact hq) ?_ ?_⟩
    · rintro i x σ H' hx ⟨rfl, z, rfl⟩
      obtain ⟨y, hy, rfl⟩ := turn i x 0 hx
      refine ⟨_, rfl, _, rfl, _, _, rfl, ?_⟩
      refine ⟨rfl, some (.int y), ?_⟩
      rw [gcdL_succ hy]
      rfl
    · rintro σ H' ⟨rfl, z, rfl⟩
      refine ⟨_, rfl, k _ _ (Same.refl _) ⟨?_, rfl⟩⟩
      rw [List.length_map, List.take_length]
  · have hq : SqT K H p (xs.map V.int) := SqT.of h
    refine ⟨_, pss_cons ((ps_set (i := 1) (FnScope.nd s25) rfl (Or.inl rfl) pe_int)) (pss_cons (ps_for PassesOwn.never rfl (pi_tup (pv 0)) ((pg_name (i := 2) (FnScope.nd s25) rfl (Or.inl rfl)))
        (pss_one ((ps_set (i := 1) (FnScope.nd s25) rfl (Or.inl rfl) (pe_callBfun cr_gcd (by rfl) B.gcd_ (pa_cons (pv 1) (pa_cons (pv 2) pa_nil))))))) (pss_one (ps_ret (pv 1)))), ?_⟩
    refine ⟨_, rfl, p, rfl, ⟨_, hq⟩, for_tup (xs := xs.map V.int) (fun i σ H' => H' = H ∧ ∃ z, σ = [some (.ref p), some (.int (gcdL (xs.take i) : Nat)), z]) ⟨rfl, none, rfl⟩ (fun i σ H' _ q => by rw [q.1]; exact hq) ?_ ?_⟩
    · rintro i x σ H' hx ⟨rfl, z, rfl⟩
      obtain ⟨y, hy, rfl⟩ := turn i x 0 hx
      refine ⟨_, rfl, _, rfl, _, _, rfl, ?_⟩
      refine ⟨rfl, some (.int y), ?_⟩
      rw [gcdL_succ hy]
      rfl
    · rintro σ H' ⟨rfl, z, rfl⟩
      refine ⟨_, rfl, k _ _ (Same.refl _) ⟨?_, rfl⟩⟩
      rw [List.length_map, List.take_length]
theorem s26 : FnScope ["terms", "common", "term"] ["terms"] (defScope (top 27)) := (⟨rfl, rfl, rfl, by decide +kernel, rfl, by decide +kernel, by decide +kernel⟩)
/-- asked here of () and (-8,) alone -/
abbrev spPrim0 : Sp := Prm (α := Addr) (fun a => [.ref a]) (fun a H => TI H a []) (fun a H v H' => v = .ref a ∧ H' = H)
abbrev spPrim8 : Sp := Prm (α := Addr) (fun a => [.ref a]) (fun a H => TI H a [-8]) (fun a H v H' => ∃ q, v = .ref q ∧ TI H' q [-1])
theorem c_prim0 (D : Df K mg "primitive" (top 27)) (B : Bl mg) (C : Cal P w K mg base 1 "common_divisor" ["terms"] spGcd) : Cal P w K mg base 2 "primitive" ["terms"] spPrim0 := by
  refine mkC D s26 (fun _ _ _ _ _ _ us hl => match us, hl with | [_], _ => rfl) (fun _ => rfl) (fun f cdv A outer s H p Q E hr h k => ?_)
  refine ⟨_, pss_cons (ps_set (i := 1) s26.nd rfl (Or.inr rfl) (pe_cl C hr (pa_cons (pv 0) pa_nil))) (pss_one (ps_ret (pe_ifExp ((pt_cmpR op_gt (pv 1) pe_int (nomark _))) pe_nv (pv 0)))), ?_⟩
  refine ⟨_, rfl, (p, []), rfl, .inr h, ?_⟩
  rintro _ _ - ⟨rfl, rfl⟩
  exact ⟨_, rfl, _, _, rfl, rfl, _, rfl, iteF ⟨_, rfl, k _ _ (Same.refl _) ⟨rfl, rfl⟩⟩⟩
theorem c_prim8 (D : Df K mg "primitive" (top 27)) (B : Bl mg) (C : Cal P w K mg base 1 "common_divisor" ["terms"] spGcd) : Cal P w K mg base 2 "primitive" ["terms"] spPrim8 := by
  refine mkC D s26 (fun _ _ _ _ _ _ us hl => match us, hl with | [_], _ => rfl) (fun _ => rfl) (fun f cdv A outer s H p Q E hr h k => ?_)
  refine ⟨_, pss_cons (ps_set (i := 1) s26.nd rfl (Or.inr rfl) (pe_cl C hr (pa_cons (pv 0) pa_nil))) (pss_one (ps_ret (pe_ifExp ((pt_cmpR op_gt (pv 1) pe_int (nomark _))) (pe_callTy call_tuple_of (by rfl) B.tuple_ PyProof.Rows.boot_tuple (pa_cons (pe_lc (own := [("term", 2)]) (g := gName 2) (tt := tYes) (te := tOp (rI CDiv fun i j => .int (i / j)) (tVar 2) (tVar 1)) rfl s26.nd (pi_tup (pv 0))
      (blkOk_by (N := ["terms", "common", "term"]) (sc := defScope (top 27)) (by decide +kernel)) (fun _ _ _ _ _ => (pg_name (i := 2) (FnScope.nd s26) rfl (Or.inl rfl))) (fun _ _ _ _ _ => pts_nil)
      (fun _ _ _ _ _ => pe_op op_fdiv (pv 2) (pv 1))) pa_nil)) (pv 0)))), ?_⟩
  have h0 : H p = some (.tup [.int (-8)]) := h
  refine ⟨_, rfl, (p, [-8]), rfl, .inr h, ?_⟩
  rintro _ _ - ⟨rfl, rfl⟩
  have eg : gcdL [-8] = 8 := rfl
  rw [eg]
  refine ⟨_, rfl, _, _, rfl, rfl, _, rfl, iteT ⟨_, rfl, p, rfl, ⟨_, SqT.of h0⟩, fun D hD => lc_yes (G := fun H => SqT K H p [.int (-8)]) (xs := [.int (-8)]) walk_tup ?_⟩⟩
  have s1 := same_new (o := .lst []) hD
  refine ⟨SqT.of (s1 _ _ h0), rfl, _, rfl, _, rfl, _, _, rfl, rfl, ⟨by decide, by decide⟩, _, upd_same, by decide, ?_⟩
  rw [upd_upd]
  have s2 := same_new (o := .lst [.int (-1)]) hD
  refine ⟨SqT.of (s2 _ _ h0), D, [.int (-1)], rfl, .inl ⟨SqL.of upd_same, fun q hq => ?_⟩⟩
  exact k _ _ (Same.new s2 hq) ⟨q, rfl, upd_same⟩
theorem c_prim (D : Df K mg "primitive" (top 27)) (B : Bl mg) (C : Cal P w K mg base 1 "common_divisor" ["terms"] spGcd) : Cal P w K mg base 2 "primitive" ["terms"] (OrS spPrim0 spPrim8) := (c_prim0 D B C).or (c_prim8 D B C)
theorem s27 : FnScope ["terms", "term"] ["terms"] (defScope (top 28)) := (⟨rfl, rfl, rfl, by decide +kernel, rfl, by decide +kernel, by decide +kernel⟩)
abbrev spNeg : Sp := Prm (α := Addr × List Int) (fun a => [.ref a.1]) (fun a H => TI H a.1 a.2 ∧ a.2.length ≤ 1) (fun a H v H' => ∃ q, v = .ref q ∧ TI H' q (a.2.map fun x => -x))
theorem c_neg (D : Df K mg "negative" (top 28)) (B : Bl mg) : Cal P w K mg base 1 "negative" ["terms"] spNeg := by
  refine mkC D s27 (fun _ _ _ _ _ _ us hl => match us, hl with | [_], _ => rfl) (fun _ => rfl) (fun f cdv A outer s H a Q E hr h k => ?_)
  obtain ⟨p, xs⟩ := a
  obtain ⟨h, hl⟩ := h
  refine ⟨_, pss_one (ps_ret (pe_callTy call_tuple_of (by rfl) B.tuple_ PyProof.Rows.boot_tuple (pa_cons (pe_lc (own := [("term", 1)]) (g := gName 1) (tt := tYes) (te := tUn (rU fun i => .int (-i)) (tVar 1)) rfl s27.nd (pi_tup (pv 0))
      (blkOk_by (N := ["terms", "term"]) (sc := defScope (top 28)) (by decide +kernel)) (fun _ _ _ _ _ => (pg_name (i := 1) (FnScope.nd s27) rfl (Or.inl rfl))) (fun _ _ _ _ _ => pts_nil)
      (fun _ _ _ _ _ => pe_un un_neg (pv 1))) pa_nil))), ?_⟩
  have hq : SqT K H p (xs.map V.int) := SqT.of h
  refine ⟨_, rfl, p, rfl, ⟨_, hq⟩, fun D hD => lc_yes (G := fun H => SqT K H p (xs.map V.int)) (xs := xs.map V.int) walk_tup ?_⟩
  have s1 := same_new (o := .lst []) hD
  have fin : ∀ ys : List Int, ys = xs.map (fun x => -x) → ∀ q, upd H D (.lst (ys.map V.int)) q = none → Q (.ref q) (upd (upd H D (.lst (ys.map V.int))) q (.tup (ys.map V.int))) := fun ys e q hq => by
    refine k _ _ (Same.new (same_new hD) hq) ⟨q, rfl, ?_⟩
    rw [← e]
    exact upd_same
  rcases xs with _ | ⟨x, _ | ⟨y, t⟩⟩
  · refine ⟨SqT.of (s1 _ _ h), D, [], rfl, .inl ⟨SqL.of upd_same, fun q hq => ?_⟩⟩
    exact fin [] rfl q hq
  · refine ⟨SqT.of (s1 _ _ h), rfl, _, rfl, x, rfl, _, upd_same, by decide, ?_⟩
    rw [upd_upd]
    have s2 := same_new (o := .lst [.int (-x)]) hD
    refine ⟨SqT.of (s2 _ _ h), D, [.int (-x)], rfl, .inl ⟨SqL.of upd_same, fun q hq => ?_⟩⟩
    exact fin [-x] rfl q hq
  · exact absurd (show t.length + 1 + 1 ≤ 1 from hl) (by omega)
theorem s28 : FnScope ["terms", "at"] ["terms"] (defScope (top 29)) := (⟨rfl, rfl, rfl, by decide +kernel, rfl, by decide +kernel, by decide +kernel⟩)
abbrev spDer : Sp := Prm (α := Addr × Int × Int × Int) (fun a => [.ref a.1]) (fun a H => TI H a.1 [a.2.1, a.2.2.1, a.2.2.2] ∧ -1000 ≤ a.2.2.1 ∧ a.2.2.1 ≤ 1000 ∧ -1000 ≤ a.2.2.2 ∧ a.2.2.2 ≤ 1000) (fun a H v H' => ∃ q, v = .ref q ∧ TI H' q [a.2.2.1, 2 * a.2.2.2])
theorem c_der (D : Df K mg "derivative" (top 29)) (B : Bl mg) : Cal P w K mg base 1 "derivative" ["terms"] spDer := by
  refine mkC D s28 (fun _ _ _ _ _ _ us hl => match us, hl with | [_], _ => rfl) (fun _ => rfl) (fun f cdv A outer s H a Q E hr h k => ?_)
  obtain ⟨p, x, y, u⟩ := a
  obtain ⟨h, b1, b2, b3, b4⟩ := h
  have h0 : H p = some (.tup [.int x, .int y, .int u]) := h
  refine ⟨_, pss_one (ps_ret (pe_callTy call_tuple_of (by rfl) B.tuple_ PyProof.Rows.boot_tuple (pa_cons (pe_lc (own := [("at", 1)]) (g := gName 1) (tt := tYes) (te := tOp (rI CMul fun i j => .int (i * j)) (tVar 1) (tOp (rIxT K) (tVar 0) (tVar 1))) rfl s28.nd
      (pi_range2 (by rfl) B.range_ (pa_cons pe_int (pa_cons ((pe_callB call_len_seq (by rfl) (Bl.len_ B) PySem.boot_len (pa_cons (pv 0) pa_nil))) pa_nil)))
      (blkOk_by (N := ["terms", "at"]) (sc := defScope (top 29)) (by decide +kernel)) (fun _ _ _ _ _ => (pg_name (i := 1) (FnScope.nd s28) rfl (Or.inl rfl))) (fun _ _ _ _ _ => pts_nil)
      (fun _ _ _ _ _ => pe_op op_mul (pv 1) ((pe_ix ix_tup (pv 0) (pv 1) (fun _ _ => rfl))))) pa_nil))), ?_⟩
  refine ⟨_, rfl, p, _, rfl, .inr (SqT.of h0), _, _, rfl, ⟨by decide, by decide, (by show -2 ^ 62 ≤ (3 : Int); decide), (by show (3 : Int) < 2 ^ 62; decide)⟩, fun D hD => lc_range (lo := 1) (n := 2) (fun i H' => (i = 0 ∧ H' = upd H D (.lst [])) ∨ (i = 1 ∧ H' = upd H D (.lst [.int y])) ∨ (i = 2 ∧ H' = upd H D (.lst [.int y, .int (2 * u)]))) (.inl ⟨rfl, rfl⟩) ?_ ?_⟩
  · rintro i H' hi (⟨rfl, rfl⟩ | ⟨rfl, rfl⟩ | ⟨rfl, rfl⟩)
    · have s1 := same_new (o := .lst []) hD
      refine ⟨rfl, ?_⟩
      simp only [tYes, if_true]
      refine ⟨_, rfl, _, rfl, _, rfl, p, _, _, .int y, rfl, rfl, SqT.of (s1 _ _ h0), atI_nat (j := 1) rfl, _, _, rfl, rfl, .inl ⟨by decide, by decide⟩, _, upd_same, by decide, .inr (.inl ⟨trivial, ?_⟩)⟩
      rw [upd_upd]
      show upd H D (.lst [.int (1 * y)]) = _
      rw [Int.one_mul]
    · have s1 := same_new (o := .lst [.int y]) hD
      refine ⟨rfl, ?_⟩
      simp only [tYes, if_true]
      refine ⟨_, rfl, _, rfl, _, rfl, p, _, _, .int u, rfl, rfl, SqT.of (s1 _ _ h0), atI_nat (j := 2) rfl, _, _, rfl, rfl, .inl ⟨by decide, by decide⟩, _, upd_same, (by show 1 < sizeLine; decide), .inr (.inr ⟨trivial, ?_⟩)⟩
      rw [upd_upd]
      rfl
    · exact absurd hi (by decide)
  · rintro H' (⟨e, _⟩ | ⟨e, _⟩ | ⟨_, rfl⟩)
    · cases e
    · cases e
    · have s1 := same_new (o := .lst [.int y, .int (2 * u)]) hD
      exact ⟨D, [.int y, .int (2 * u)], rfl, .inl ⟨SqL.of upd_same, fun q hq => k _ _ (Same.new s1 hq) ⟨q, rfl, upd_same⟩⟩⟩
end
end Xq

namespace Xq
open PySem PySem.Spec PyProof.Rows L2
/-- below 2 ^ n in size -/
abbrev Sm (n : Nat) (i : Int) : Prop := i.natAbs < 2 ^ n
theorem sm_mul {i j : Int} {a b : Nat} (ha : Sm a i) (hb : Sm b j) : Sm (a + b) (i * j) := wide_lt ha hb
theorem sm_le {i : Int} {a b : Nat} (ha : Sm a i) (h : a ≤ b) : Sm b i := Nat.lt_of_lt_of_le ha (Nat.pow_le_pow_right (by decide) h)
theorem sm_neg {i : Int} {a : Nat} (ha : Sm a i) : Sm a (-i) := by
  unfold Sm
  rw [Int.natAbs_neg]
  exact ha
theorem sm_add {i j : Int} {a : Nat} (ha : Sm a i) (hb : Sm a j) : Sm (a + 1) (i + j) := by
  have h := Int.natAbs_add_le i j
  have e : 2 ^ (a + 1) = 2 ^ a + 2 ^ a := by rw [Nat.pow_succ]; omega
  unfold Sm at *
  omega
theorem sm_sub {i j : Int} {a : Nat} (ha : Sm a i) (hb : Sm a j) : Sm (a + 1) (i - j) := by
  rw [Int.sub_eq_add_neg]
  exact sm_add ha (sm_neg hb)
theorem cm {i j : Int} {a b : Nat} (ha : Sm a i) (hb : Sm b j) (h0 : 0 < a := by decide) (h1 : 0 < b := by decide) (h : a + b ≤ 1000000 := by decide) : CMulW i j := wide_mul ha hb h0 h1 h
section
variable {P : Program} {w : World} {K : PySem.W.Frag} {mg : Str → Option Value} {base : Heap}
abbrev nV : List Str := ["terms", "top", "bottom", "value", "scale", "term"]
theorem s29 : FnScope nV ["terms", "top", "bottom"] (defScope (top 30)) := (⟨rfl, rfl, rfl, by decide +kernel, rfl, by decide +kernel, by decide +kernel⟩)
abbrev spVal1 : Sp := Prm (α := Addr × Int × Int × Int) (fun a => [.ref a.1, .int a.2.2.1, .int a.2.2.2]) (fun a H => Sq H a.1 [a.2.1]) (fun a H v H' => v = .int a.2.1)
abbrev spVal2 : Sp := Prm (α := Addr × Int × Int × Int) (fun a => [.ref a.1, .int a.2.2.2, .int 1]) (fun a H => TI H a.1 [a.2.1, a.2.2.1] ∧ -1000 ≤ a.2.2.1 ∧ a.2.2.1 ≤ 1000) (fun a H v H' => v = .int (a.2.2.1 * a.2.2.2 + a.2.1))
theorem c_val1 (D : Df K mg "value_at" (top 30)) : Cal P w K mg base 1 "value_at" ["terms", "top", "bottom"] spVal1 := by
  refine mkC D s29 (fun _ _ _ _ _ _ us hl => match us, hl with | [_, _, _], _ => rfl) (fun _ => rfl) (fun f cdv A outer s H a Q E hr h k => ?_)
  obtain ⟨p, x, t, b⟩ := a
  rcases h with h | h
  · have h0 : H p = some (.lst [.int x]) := h
    refine ⟨_, pss_cons (ps_asg (pe_tup (pa_cons pe_int (pa_cons pe_int pa_nil))) (pg_tup rfl (pgs_cons ((pg_name (i := 3) (FnScope.nd s29) rfl (Or.inl rfl))) (pgs_cons ((pg_name (i := 4) (FnScope.nd s29) rfl (Or.inl rfl))) pgs_nil))))
      (pss_cons (ps_for PassesOwn.never rfl (pi_list (pe_revL (pv 0))) ((pg_name (i := 5) (FnScope.nd s29) rfl (Or.inl rfl)))
        (pss_cons ((ps_set (i := 3) (FnScope.nd s29) rfl (Or.inl rfl) (pe_op op_add (pe_op op_mul (pv 3) (pv 1)) (pe_op op_mul (pv 5) (pv 4))))) (pss_one (ps_aug (i := 4) s29.nd rfl (Or.inl rfl) (pv 2) iop_mul))))
      (pss_one (ps_ret (pv 3)))), ?_⟩
    refine ⟨by decide, fun z hz => ⟨z, _, rfl, SqT.of upd_same, rfl, _, _, rfl, _, _, rfl, rfl, ?_⟩⟩
    have s0 := same_new (o := .tup [.int 0, .int 1]) hz
    refine ⟨_, rfl, p, _, rfl, SqL.of (s0 _ _ h0), fun q hq => ?_⟩
    refine ⟨q, rfl, ⟨_, SqL.of upd_same⟩, for_unr (xs := [.int x]) walk_list ?_⟩
    refine ⟨SqL.of upd_same, _, rfl, _, rfl, _, _, rfl, rfl, .inl ⟨by decide, by decide⟩, _, rfl, _, rfl, _, _, rfl, rfl, .inr ⟨by decide, by decide⟩, _, _, rfl, rfl, ?_⟩
    refine ⟨_, rfl, _, rfl, _, _, rfl, rfl, .inl ⟨by decide, by decide⟩, SqL.of upd_same, _, rfl, k _ _ (Same.new s0 hq) ?_⟩
    show V.int (0 * t + x * 1) = _
    rw [Int.zero_mul, Int.zero_add, Int.mul_one]
  · have h0 : H p = some (.tup [.int x]) := h
    refine ⟨_, pss_cons (ps_asg (pe_tup (pa_cons pe_int (pa_cons pe_int pa_nil))) (pg_tup rfl (pgs_cons ((pg_name (i := 3) (FnScope.nd s29) rfl (Or.inl rfl))) (pgs_cons ((pg_name (i := 4) (FnScope.nd s29) rfl (Or.inl rfl))) pgs_nil))))
      (pss_cons (ps_for PassesOwn.never rfl (pi_tup (pe_revT (pv 0))) ((pg_name (i := 5) (FnScope.nd s29) rfl (Or.inl rfl)))
        (pss_cons ((ps_set (i := 3) (FnScope.nd s29) rfl (Or.inl rfl) (pe_op op_add (pe_op op_mul (pv 3) (pv 1)) (pe_op op_mul (pv 5) (pv 4))))) (pss_one (ps_aug (i := 4) s29.nd rfl (Or.inl rfl) (pv 2) iop_mul))))
      (pss_one (ps_ret (pv 3)))), ?_⟩
    refine ⟨by decide, fun z hz => ⟨z, _, rfl, SqT.of upd_same, rfl, _, _, rfl, _, _, rfl, rfl, ?_⟩⟩
    have s0 := same_new (o := .tup [.int 0, .int 1]) hz
    refine ⟨_, rfl, p, _, rfl, SqT.of (s0 _ _ h0), .inl rfl, fun q hq => ?_⟩
    refine ⟨q, rfl, ⟨_, SqT.of upd_same⟩, for_unr (xs := [.int x]) walk_tup ?_⟩
    refine ⟨SqT.of upd_same, _, rfl, _, rfl, _, _, rfl, rfl, .inl ⟨by decide, by decide⟩, _, rfl, _, rfl, _, _, rfl, rfl, .inr ⟨by decide, by decide⟩, _, _, rfl, rfl, ?_⟩
    refine ⟨_, rfl, _, rfl, _, _, rfl, rfl, .inl ⟨by decide, by decide⟩, SqT.of upd_same, _, rfl, k _ _ (Same.new s0 hq) ?_⟩
    show V.int (0 * t + x * 1) = _
    rw [Int.zero_mul, Int.zero_add, Int.mul_one]
theorem c_val2 (D : Df K mg "value_at" (top 30)) : Cal P w K mg base 1 "value_at" ["terms", "top", "bottom"] spVal2 := by
  refine mkC D s29 (fun _ _ _ _ _ _ us hl => match us, hl with | [_, _, _], _ => rfl) (fun _ => rfl) (fun f cdv A outer s H a Q E hr h k => ?_)
  obtain ⟨p, x, y, t⟩ := a
  obtain ⟨h, hy⟩ := h
  have hy2 : -1000 ≤ y ∧ y ≤ 1000 := hy
  have h0 : H p = some (.tup [.int x, .int y]) := h
  refine ⟨_, pss_cons (ps_asg (pe_tup (pa_cons pe_int (pa_cons pe_int pa_nil))) (pg_tup rfl (pgs_cons ((pg_name (i := 3) (FnScope.nd s29) rfl (Or.inl rfl))) (pgs_cons ((pg_name (i := 4) (FnScope.nd s29) rfl (Or.inl rfl))) pgs_nil))))
    (pss_cons (ps_for PassesOwn.never rfl (pi_tup (pe_revT (pv 0))) ((pg_name (i := 5) (FnScope.nd s29) rfl (Or.inl rfl)))
      (pss_cons ((ps_set (i := 3) (FnScope.nd s29) rfl (Or.inl rfl) (pe_op op_add (pe_op op_mul (pv 3) (pv 1)) (pe_op op_mul (pv 5) (pv 4))))) (pss_one (ps_aug (i := 4) s29.nd rfl (Or.inl rfl) (pv 2) iop_mul))))
    (pss_one (ps_ret (pv 3)))), ?_⟩
  refine ⟨by decide, fun z hz => ⟨z, _, rfl, SqT.of upd_same, rfl, _, _, rfl, _, _, rfl, rfl, ?_⟩⟩
  have s0 := same_new (o := .tup [.int 0, .int 1]) hz
  refine ⟨_, rfl, p, _, rfl, SqT.of (s0 _ _ h0), .inr (.inl rfl), fun q hq => ?_⟩
  refine ⟨q, rfl, ⟨_, SqT.of upd_same⟩, for_unr (xs := [.int y, .int x]) walk_tup ?_⟩
  refine ⟨SqT.of upd_same, _, rfl, _, rfl, _, _, rfl, rfl, .inl ⟨by decide, by decide⟩, _, rfl, _, rfl, _, _, rfl, rfl, .inr ⟨by decide, by decide⟩, _, _, rfl, rfl, ?_⟩
  refine ⟨_, rfl, _, rfl, _, _, rfl, rfl, .inl ⟨by decide, by decide⟩, ?_⟩
  have e : 0 * t + y * 1 = y := by rw [Int.zero_mul, Int.zero_add, Int.mul_one]
  refine ⟨SqT.of upd_same, _, rfl, _, rfl, _, _, rfl, rfl, .inl ⟨(by show -(2 ^ 64) < 0 * t + y * 1; rw [e]; omega), (by show 0 * t + y * 1 < 2 ^ 64; rw [e]; omega)⟩, _, rfl, _, rfl, _, _, rfl, rfl, .inr ⟨by decide, by decide⟩, _, _, rfl, rfl, ?_⟩
  refine ⟨_, rfl, _, rfl, _, _, rfl, rfl, .inl ⟨by decide, by decide⟩, SqT.of upd_same, _, rfl, k _ _ (Same.new s0 hq) ?_⟩
  show V.int ((0 * t + y * 1) * t + x * (1 * 1)) = V.int (y * t + x)
  rw [e, Int.mul_one, Int.mul_one]
/-- x *= y of great numbers -/
theorem iop_mulX {X : Cx} : OpR X (inplaceOp .Mult) (rI CMulW fun i j => .int (i * j)) := opI fun _ _ _ _ _ _ _ hc q => imul_int q hc.ok
def v3 (x y u t b : Int) : Int := (u * t + y * b) * t + x * (b * b)
abbrev spVal3 : Sp := Prm (α := Addr × Int × Int × Int × Int × Int) (fun ⟨p, x, y, u, t, b⟩ => [.ref p, .int t, .int b]) (fun ⟨p, x, y, u, t, b⟩ H => TI H p [x, y, u] ∧ Sm 20 x ∧ Sm 20 y ∧ Sm 20 u ∧ Sm 80 t ∧ Sm 80 b) (fun ⟨p, x, y, u, t, b⟩ H v H' => v = .int (v3 x y u t b))
theorem c_val3 (D : Df K mg "value_at" (top 30)) : Cal P w K mg base 1 "value_at" ["terms", "top", "bottom"] spVal3 := by
  refine mkC D s29 (fun _ _ _ _ _ _ us hl => match us, hl with | [_, _, _], _ => rfl) (fun _ => rfl) (fun f cdv A outer s H a Q E hr h k => ?_)
  obtain ⟨p, x, y, u, t, b⟩ := a
  obtain ⟨h, hx, hy, hu, ht, hb⟩ := h
  have h0 : H p = some (.tup [.int x, .int y, .int u]) := h
  have k : ∀ v H', Same H H' → v = .int (v3 x y u t b) → Q v H' := k
  refine ⟨_, pss_cons (ps_asg (pe_tup (pa_cons pe_int (pa_cons pe_int pa_nil))) (pg_tup rfl (pgs_cons ((pg_name (i := 3) (FnScope.nd s29) rfl (Or.inl rfl))) (pgs_cons ((pg_name (i := 4) (FnScope.nd s29) rfl (Or.inl rfl))) pgs_nil))))
    (pss_cons (ps_for PassesOwn.never rfl (pi_tup (pe_revT (pv 0))) ((pg_name (i := 5) (FnScope.nd s29) rfl (Or.inl rfl)))
      (pss_cons ((ps_set (i := 3) (FnScope.nd s29) rfl (Or.inl rfl) (pe_op op_add (pe_op op_mulW (pv 3) (pv 1)) (pe_op op_mulW (pv 5) (pv 4))))) (pss_one (ps_aug (i := 4) s29.nd rfl (Or.inl rfl) (pv 2) iop_mulX))))
    (pss_one (ps_ret (pv 3)))), ?_⟩
  refine ⟨by decide, fun z hz => ⟨z, _, rfl, SqT.of upd_same, rfl, _, _, rfl, _, _, rfl, rfl, ?_⟩⟩
  have s0 := same_new (o := .tup [.int 0, .int 1]) hz
  refine ⟨_, rfl, p, _, rfl, SqT.of (s0 _ _ h0), .inr (.inr rfl), fun q hq => ?_⟩
  have z0 : Sm 2 (0 : Int) := by decide
  have o1 : Sm 2 (1 : Int) := by decide
  refine ⟨q, rfl, ⟨_, SqT.of upd_same⟩, for_unr (xs := [.int u, .int y, .int x]) walk_tup ?_⟩
  refine ⟨SqT.of upd_same, _, rfl, _, rfl, _, _, rfl, rfl, cm z0 ht, _, rfl, _, rfl, _, _, rfl, rfl, cm hu o1, _, _, rfl, rfl, ?_⟩
  refine ⟨_, rfl, _, rfl, _, _, rfl, rfl, cm o1 hb, ?_⟩
  have e1 : 0 * t + u * 1 = u := by rw [Int.zero_mul, Int.zero_add, Int.mul_one]
  have e2 : 1 * b = b := Int.one_mul b
  have c1 : Sm 20 (0 * t + u * 1) := by rw [e1]; exact hu
  have c2 : Sm 80 (1 * b) := by rw [e2]; exact hb
  have c3 : Sm 101 ((0 * t + u * 1) * t + y * (1 * b)) := sm_add (sm_mul c1 ht) (sm_mul hy c2)
  refine ⟨SqT.of upd_same, _, rfl, _, rfl, _, _, rfl, rfl, cm c1 ht, _, rfl, _, rfl, _, _, rfl, rfl, cm hy c2, _, _, rfl, rfl, ?_⟩
  refine ⟨_, rfl, _, rfl, _, _, rfl, rfl, cm c2 hb, ?_⟩
  refine ⟨SqT.of upd_same, _, rfl, _, rfl, _, _, rfl, rfl, cm c3 ht, _, rfl, _, rfl, _, _, rfl, rfl, cm hx (sm_mul c2 hb), _, _, rfl, rfl, ?_⟩
  refine ⟨_, rfl, _, rfl, _, _, rfl, rfl, cm (sm_mul c2 hb) hb, SqT.of upd_same, _, rfl, k _ _ (Same.new s0 hq) ?_⟩
  show V.int (((0 * t + u * 1) * t + y * (1 * b)) * t + x * (1 * b * b)) = _
  rw [e1, e2]
  rfl
end
end Xq

namespace Xq
open PySem PySem.Spec PyProof.Rows L2
section
variable {P : Program} {w : World} {K : PySem.W.Frag} {mg : Str → Option Value} {base : Heap}
abbrev nC : List Str := ["factor", "one", "weight", "other", "shift", "result", "at", "term"]
theorem s31 : FnScope nC ["factor", "one", "weight", "other", "shift"] (defScope (top 32)) := (⟨rfl, rfl, rfl, by decide +kernel, rfl, by decide +kernel, by decide +kernel⟩)
abbrev spComb11 : Sp := Prm (α := Int × Addr × Int × Addr × Int × Int) (fun ⟨c, p, w, q, x, y⟩ => [.int c, .ref p, .int w, .ref q, .int 0])
  (fun ⟨c, p, w, q, x, y⟩ H => TI H p [x] ∧ TI H q [y] ∧ Sm 400 c ∧ Sm 400 w ∧ Sm 400 x ∧ Sm 400 y)
  (fun ⟨c, p, w, q, x, y⟩ H v H' => ∃ r, v = .ref r ∧ TI H' r (trimI [c * x - w * y]))
theorem c_Comb11 (D : Df K mg "combined" (top 32)) (B : Bl mg) (C : Cal P w K mg base 1 "trimmed" ["terms"] spTrim) : Cal P w K mg base 2 "combined" ["factor", "one", "weight", "other", "shift"] spComb11 := by
  refine mkC D s31 (fun _ _ _ _ _ _ us hl => match us, hl with | [_, _, _, _, _], _ => rfl) (fun _ => rfl) (fun f cdv A outer s H a Q E hr h k => ?_)
  obtain ⟨c, p, wt, q, x, y⟩ := a
  obtain ⟨h1, h2, bc, bw, gx, gy⟩ := h
  refine ⟨_, pss_cons ((ps_set (i := 5) (FnScope.nd s31) rfl (Or.inl rfl) (pe_op op_rep (pe_lst (pa_cons pe_int pa_nil)) (pe_callB (call_max2 rfl) (by rfl) B.max_ PyProof.Rows.boot_max (pa_cons ((pe_callB call_len_seq (by rfl) (Bl.len_ B) PySem.boot_len (pa_cons (pv 1) pa_nil))) (pa_cons (pe_op op_add ((pe_callB call_len_seq (by rfl) (Bl.len_ B) PySem.boot_len (pa_cons (pv 3) pa_nil))) (pv 4)) pa_nil))))))
    (pss_cons (ps_for PassesOwn.never rfl (pi_enumT (by rfl) B.enumerate_ (pa_cons (pv 1) pa_nil)) (pg_tup rfl (pgs_cons ((pg_name (i := 6) (FnScope.nd s31) rfl (Or.inl rfl))) (pgs_cons ((pg_name (i := 7) (FnScope.nd s31) rfl (Or.inl rfl))) pgs_nil)))
        (pss_one (ps_augS (pv 5) (pv 6) get_list (pe_op op_mulW (pv 0) (pv 7)) ip_add set_list)))
    (pss_cons (ps_for PassesOwn.never rfl (pi_enumT (by rfl) B.enumerate_ (pa_cons (pv 3) pa_nil)) (pg_tup rfl (pgs_cons ((pg_name (i := 6) (FnScope.nd s31) rfl (Or.inl rfl))) (pgs_cons ((pg_name (i := 7) (FnScope.nd s31) rfl (Or.inl rfl))) pgs_nil)))
        (pss_one (ps_augS (pv 5) (pe_op op_add (pv 6) (pv 4)) get_list (pe_op op_mulW (pv 2) (pv 7)) ip_sub set_list)))
    (pss_one (ps_ret (pe_cl C hr (pa_cons (pv 5) pa_nil)))))), ?_⟩
  have h10 : H p = some (.tup [.int x]) := h1
  have h20 : H q = some (.tup [.int y]) := h2
  refine ⟨by decide, fun l hl => ?_⟩
  have s1 := same_new (o := .lst [.int 0]) hl
  refine ⟨_, rfl, p, _, rfl, .inr (SqT.of (s1 _ _ h10)), _, rfl, q, _, rfl, .inr (SqT.of (s1 _ _ h20)), _, rfl, _, _, rfl, rfl, _, _, rfl, l, _, _, rfl, rfl, upd_same, (by show -(2 ^ 63) ≤ (1 : Int); decide), (by show (1 : Int) < 2 ^ 63; decide), (by show 1 * 1 ≤ sizeLine; decide), fun m hm => ?_⟩
  have s2 := Same.new (o := .lst [.int 0]) s1 hm
  have hm0 : H m = none := new_of s1 hm
  have m2 : ∀ HH : Hp, (upd HH m (.lst [.int 0])) m = some (.lst [.int 0]) := fun _ => upd_same
  refine ⟨_, rfl, p, _, rfl, SqT.of (s2 _ _ h10), for_unrE (xs := [.int x]) ?_⟩
  refine ⟨SqT.of (s2 _ _ h10), fun T3 hT3 => ?_⟩
  have s3 := Same.new (o := .tup [.int (0 : Nat), .int x]) s2 hT3
  have n3 : m ≠ T3 := ne_of_none (m2 _) hT3
  have m3 : ∀ HH : Hp, (upd (upd HH m (.lst [.int 0])) T3 (.tup [.int (0 : Nat), .int x])) m = some (.lst [.int 0]) := fun HH => (upd_ne n3).trans (m2 _)
  refine ⟨T3, _, rfl, SqT.of upd_same, rfl, _, _, rfl, _, _, rfl, rfl, _, rfl, _, rfl, m, _, _, .int ((0 : Int)), rfl, rfl, SqL.of (m3 _), atI_nat (j := 0) rfl, ?_⟩
  refine ⟨_, rfl, _, rfl, _, _, rfl, rfl, cm bc gx, _, _, rfl, rfl, m, _, _, 0, rfl, rfl, (m3 _), rfl, ?_⟩
  have s4 := Same.put (o := .lst [.int ((0 : Int) + c * x)]) s3 hm0
  have m4 : ∀ HH : Hp, (upd HH m (.lst [.int ((0 : Int) + c * x)])) m = some (.lst [.int ((0 : Int) + c * x)]) := fun _ => upd_same
  refine ⟨SqT.of (s4 _ _ h10), _, rfl, q, _, rfl, SqT.of (s4 _ _ h20), for_unrE (xs := [.int y]) ?_⟩
  refine ⟨SqT.of (s4 _ _ h20), fun T5 hT5 => ?_⟩
  have s5 := Same.new (o := .tup [.int (0 : Nat), .int y]) s4 hT5
  have n5 : m ≠ T5 := ne_of_none (m4 _) hT5
  have m5 : ∀ HH : Hp, (upd (upd HH m (.lst [.int ((0 : Int) + c * x)])) T5 (.tup [.int (0 : Nat), .int y])) m = some (.lst [.int ((0 : Int) + c * x)]) := fun HH => (upd_ne n5).trans (m4 _)
  refine ⟨T5, _, rfl, SqT.of upd_same, rfl, _, _, rfl, _, _, rfl, rfl, _, rfl, _, rfl, _, rfl, _, _, rfl, rfl, m, _, _, .int ((0 : Int) + c * x), rfl, rfl, SqL.of (m5 _), atI_nat (j := 0) rfl, ?_⟩
  refine ⟨_, rfl, _, rfl, _, _, rfl, rfl, cm bw gy, _, _, rfl, rfl, m, _, _, 0, rfl, rfl, (m5 _), rfl, ?_⟩
  have s6 := Same.put (o := .lst [.int ((0 : Int) + c * x - wt * y)]) s5 hm0
  have m6 : ∀ HH : Hp, (upd HH m (.lst [.int ((0 : Int) + c * x - wt * y)])) m = some (.lst [.int ((0 : Int) + c * x - wt * y)]) := fun _ => upd_same
  refine ⟨SqT.of (s6 _ _ h20), _, rfl, (m, [(0 : Int) + c * x - wt * y]), rfl, .inl (m6 _), ?_⟩
  rintro _ H9 s90 ⟨r, rfl, hr9⟩
  refine k _ _ (s6.trans s90) ⟨r, rfl, ?_⟩
  simp only [Int.zero_add] at hr9
  exact hr9
abbrev spComb21 : Sp := Prm (α := Int × Addr × Int × Addr × Int × Int × Int) (fun ⟨c, p, w, q, x, x2, y⟩ => [.int c, .ref p, .int w, .ref q, .int 1])
  (fun ⟨c, p, w, q, x, x2, y⟩ H => TI H p [x, x2] ∧ TI H q [y] ∧ Sm 400 c ∧ Sm 400 w ∧ Sm 400 x ∧ Sm 400 x2 ∧ Sm 400 y)
  (fun ⟨c, p, w, q, x, x2, y⟩ H v H' => ∃ r, v = .ref r ∧ TI H' r (trimI [c * x, c * x2 - w * y]))
theorem c_Comb21 (D : Df K mg "combined" (top 32)) (B : Bl mg) (C : Cal P w K mg base 1 "trimmed" ["terms"] spTrim) : Cal P w K mg base 2 "combined" ["factor", "one", "weight", "other", "shift"] spComb21 := by
  refine mkC D s31 (fun _ _ _ _ _ _ us hl => match us, hl with | [_, _, _, _, _], _ => rfl) (fun _ => rfl) (fun f cdv A outer s H a Q E hr h k => ?_)
  obtain ⟨c, p, wt, q, x, x2, y⟩ := a
  obtain ⟨h1, h2, bc, bw, gx, gx2, gy⟩ := h
  refine ⟨_, pss_cons ((ps_set (i := 5) (FnScope.nd s31) rfl (Or.inl rfl) (pe_op op_rep (pe_lst (pa_cons pe_int pa_nil)) (pe_callB (call_max2 rfl) (by rfl) B.max_ PyProof.Rows.boot_max (pa_cons ((pe_callB call_len_seq (by rfl) (Bl.len_ B) PySem.boot_len (pa_cons (pv 1) pa_nil))) (pa_cons (pe_op op_add ((pe_callB call_len_seq (by rfl) (Bl.len_ B) PySem.boot_len (pa_cons (pv 3) pa_nil))) (pv 4)) pa_nil))))))
    (pss_cons (ps_for PassesOwn.never rfl (pi_enumT (by rfl) B.enumerate_ (pa_cons (pv 1) pa_nil)) (pg_tup rfl (pgs_cons ((pg_name (i := 6) (FnScope.nd s31) rfl (Or.inl rfl))) (pgs_cons ((pg_name (i := 7) (FnScope.nd s31) rfl (Or.inl rfl))) pgs_nil)))
        (pss_one (ps_augS (pv 5) (pv 6) get_list (pe_op op_mulW (pv 0) (pv 7)) ip_add set_list)))
    (pss_cons (ps_for PassesOwn.never rfl (pi_enumT (by rfl) B.enumerate_ (pa_cons (pv 3) pa_nil)) (pg_tup rfl (pgs_cons ((pg_name (i := 6) (FnScope.nd s31) rfl (Or.inl rfl))) (pgs_cons ((pg_name (i := 7) (FnScope.nd s31) rfl (Or.inl rfl))) pgs_nil)))
        (pss_one (ps_augS (pv 5) (pe_op op_add (pv 6) (pv 4)) get_list (pe_op op_mulW (pv 2) (pv 7)) ip_sub set_list)))
    (pss_one (ps_ret (pe_cl C hr (pa_cons (pv 5) pa_nil)))))), ?_⟩
  have h10 : H p = some (.tup [.int x, .int x2]) := h1
  have h20 : H q = some (.tup [.int y]) := h2
  refine ⟨by decide, fun l hl => ?_⟩
  have s1 := same_new (o := .lst [.int 0]) hl
  refine ⟨_, rfl, p, _, rfl, .inr (SqT.of (s1 _ _ h10)), _, rfl, q, _, rfl, .inr (SqT.of (s1 _ _ h20)), _, rfl, _, _, rfl, rfl, _, _, rfl, l, _, _, rfl, rfl, upd_same, (by show -(2 ^ 63) ≤ (2 : Int); decide), (by show (2 : Int) < 2 ^ 63; decide), (by show 1 * 2 ≤ sizeLine; decide), fun m hm => ?_⟩
  have s2 := Same.new (o := .lst [.int 0, .int 0]) s1 hm
  have hm0 : H m = none := new_of s1 hm
  have m2 : ∀ HH : Hp, (upd HH m (.lst [.int 0, .int 0])) m = some (.lst [.int 0, .int 0]) := fun _ => upd_same
  refine ⟨_, rfl, p, _, rfl, SqT.of (s2 _ _ h10), for_unrE (xs := [.int x, .int x2]) ?_⟩
  refine ⟨SqT.of (s2 _ _ h10), fun T3 hT3 => ?_⟩
  have s3 := Same.new (o := .tup [.int (0 : Nat), .int x]) s2 hT3
  have n3 : m ≠ T3 := ne_of_none (m2 _) hT3
  have m3 : ∀ HH : Hp, (upd (upd HH m (.lst [.int 0, .int 0])) T3 (.tup [.int (0 : Nat), .int x])) m = some (.lst [.int 0, .int 0]) := fun HH => (upd_ne n3).trans (m2 _)
  refine ⟨T3, _, rfl, SqT.of upd_same, rfl, _, _, rfl, _, _, rfl, rfl, _, rfl, _, rfl, m, _, _, .int ((0 : Int)), rfl, rfl, SqL.of (m3 _), atI_nat (j := 0) rfl, ?_⟩
  refine ⟨_, rfl, _, rfl, _, _, rfl, rfl, cm bc gx, _, _, rfl, rfl, m, _, _, 0, rfl, rfl, (m3 _), rfl, ?_⟩
  have s4 := Same.put (o := .lst [.int ((0 : Int) + c * x), .int ((0 : Int))]) s3 hm0
  have m4 : ∀ HH : Hp, (upd HH m (.lst [.int ((0 : Int) + c * x), .int ((0 : Int))])) m = some (.lst [.int ((0 : Int) + c * x), .int ((0 : Int))]) := fun _ => upd_same
  refine ⟨SqT.of (s4 _ _ h10), fun T5 hT5 => ?_⟩
  have s5 := Same.new (o := .tup [.int (1 : Nat), .int x2]) s4 hT5
  have n5 : m ≠ T5 := ne_of_none (m4 _) hT5
  have m5 : ∀ HH : Hp, (upd (upd HH m (.lst [.int ((0 : Int) + c * x), .int ((0 : Int))])) T5 (.tup [.int (1 : Nat), .int x2])) m = some (.lst [.int ((0 : Int) + c * x), .int ((0 : Int))]) := fun HH => (upd_ne n5).trans (m4 _)
  refine ⟨T5, _, rfl, SqT.of upd_same, rfl, _, _, rfl, _, _, rfl, rfl, _, rfl, _, rfl, m, _, _, .int ((0 : Int)), rfl, rfl, SqL.of (m5 _), atI_nat (j := 1) rfl, ?_⟩
  refine ⟨_, rfl, _, rfl, _, _, rfl, rfl, cm bc gx2, _, _, rfl, rfl, m, _, _, 1, rfl, rfl, (m5 _), rfl, ?_⟩
  have s6 := Same.put (o := .lst [.int ((0 : Int) + c * x), .int ((0 : Int) + c * x2)]) s5 hm0
  have m6 : ∀ HH : Hp, (upd HH m (.lst [.int ((0 : Int) + c * x), .int ((0 : Int) + c * x2)])) m = some (.lst [.int ((0 : Int) + c * x), .int ((0 : Int) + c * x2)]) := fun _ => upd_same
  refine ⟨SqT.of (s6 _ _ h10), _, rfl, q, _, rfl, SqT.of (s6 _ _ h20), for_unrE (xs := [.int y]) ?_⟩
  refine ⟨SqT.of (s6 _ _ h20), fun T7 hT7 => ?_⟩
  have s7 := Same.new (o := .tup [.int (0 : Nat), .int y]) s6 hT7
  have n7 : m ≠ T7 := ne_of_none (m6 _) hT7
  have m7 : ∀ HH : Hp, (upd (upd HH m (.lst [.int ((0 : Int) + c * x), .int ((0 : Int) + c * x2)])) T7 (.tup [.int (0 : Nat), .int y])) m = some (.lst [.int ((0 : Int) + c * x), .int ((0 : Int) + c * x2)]) := fun HH => (upd_ne n7).trans (m6 _)
  refine ⟨T7, _, rfl, SqT.of upd_same, rfl, _, _, rfl, _, _, rfl, rfl, _, rfl, _, rfl, _, rfl, _, _, rfl, rfl, m, _, _, .int ((0 : Int) + c * x2), rfl, rfl, SqL.of (m7 _), atI_nat (j := 1) rfl, ?_⟩
  refine ⟨_, rfl, _, rfl, _, _, rfl, rfl, cm bw gy, _, _, rfl, rfl, m, _, _, 1, rfl, rfl, (m7 _), rfl, ?_⟩
  have s8 := Same.put (o := .lst [.int ((0 : Int) + c * x), .int ((0 : Int) + c * x2 - wt * y)]) s7 hm0
  have m8 : ∀ HH : Hp, (upd HH m (.lst [.int ((0 : Int) + c * x), .int ((0 : Int) + c * x2 - wt * y)])) m = some (.lst [.int ((0 : Int) + c * x), .int ((0 : Int) + c * x2 - wt * y)]) := fun _ => upd_same
  refine ⟨SqT.of (s8 _ _ h20), _, rfl, (m, [(0 : Int) + c * x, (0 : Int) + c * x2 - wt * y]), rfl, .inl (m8 _), ?_⟩
  rintro _ H9 s90 ⟨r, rfl, hr9⟩
  refine k _ _ (s8.trans s90) ⟨r, rfl, ?_⟩
  simp only [Int.zero_add] at hr9
  exact hr9
abbrev spComb22 : Sp := Prm (α := Int × Addr × Int × Addr × Int × Int × Int × Int) (fun ⟨c, p, w, q, x, x2, y, y2⟩ => [.int c, .ref p, .int w, .ref q, .int 0])
  (fun ⟨c, p, w, q, x, x2, y, y2⟩ H => TI H p [x, x2] ∧ TI H q [y, y2] ∧ Sm 400 c ∧ Sm 400 w ∧ Sm 400 x ∧ Sm 400 x2 ∧ Sm 400 y ∧ Sm 400 y2)
  (fun ⟨c, p, w, q, x, x2, y, y2⟩ H v H' => ∃ r, v = .ref r ∧ TI H' r (trimI [c * x - w * y, c * x2 - w * y2]))
theorem c_Comb22 (D : Df K mg "combined" (top 32)) (B : Bl mg) (C : Cal P w K mg base 1 "trimmed" ["terms"] spTrim) : Cal P w K mg base 2 "combined" ["factor", "one", "weight", "other", "shift"] spComb22 := by
  refine mkC D s31 (fun _ _ _ _ _ _ us hl => match us, hl with | [_, _, _, _, _], _ => rfl) (fun _ => rfl) (fun f cdv A outer s H a Q E hr h k => ?_)
  obtain ⟨c, p, wt, q, x, x2, y, y2⟩ := a
  obtain ⟨h1, h2, bc, bw, gx, gx2, gy, gy2⟩ := h
  refine ⟨_, pss_cons ((ps_set (i := 5) (FnScope.nd s31) rfl (Or.inl rfl) (pe_op op_rep (pe_lst (pa_cons pe_int pa_nil)) (pe_callB (call_max2 rfl) (by rfl) B.max_ PyProof.Rows.boot_max (pa_cons ((pe_callB call_len_seq (by rfl) (Bl.len_ B) PySem.boot_len (pa_cons (pv 1) pa_nil))) (pa_cons (pe_op op_add ((pe_callB call_len_seq (by rfl) (Bl.len_ B) PySem.boot_len (pa_cons (pv 3) pa_nil))) (pv 4)) pa_nil))))))
    (pss_cons (ps_for PassesOwn.never rfl (pi_enumT (by rfl) B.enumerate_ (pa_cons (pv 1) pa_nil)) (pg_tup rfl (pgs_cons ((pg_name (i := 6) (FnScope.nd s31) rfl (Or.inl rfl))) (pgs_cons ((pg_name (i := 7) (FnScope.nd s31) rfl (Or.inl rfl))) pgs_nil)))
        (pss_one (ps_augS (pv 5) (pv 6) get_list (pe_op op_mulW (pv 0) (pv 7)) ip_add set_list)))
    (pss_cons (ps_for PassesOwn.never rfl (pi_enumT (by rfl) B.enumerate_ (pa_cons (pv 3) pa_nil)) (pg_tup rfl (pgs_cons ((pg_name (i := 6) (FnScope.nd s31) rfl (Or.inl rfl))) (pgs_cons ((pg_name (i := 7) (FnScope.nd s31) rfl (Or.inl rfl))) pgs_nil)))
        (pss_one (ps_augS (pv 5) (pe_op op_add (pv 6) (pv 4)) get_list (pe_op op_mulW (pv 2) (pv 7)) ip_sub set_list)))
    (pss_one (ps_ret (pe_cl C hr (pa_cons (pv 5) pa_nil)))))), ?_⟩
  have h10 : H p = some (.tup [.int x, .int x2]) := h1
  have h20 : H q = some (.tup [.int y, .int y2]) := h2
  refine ⟨by decide, fun l hl => ?_⟩
  have s1 := same_new (o := .lst [.int 0]) hl
  refine ⟨_, rfl, p, _, rfl, .inr (SqT.of (s1 _ _ h10)), _, rfl, q, _, rfl, .inr (SqT.of (s1 _ _ h20)), _, rfl, _, _, rfl, rfl, _, _, rfl, l, _, _, rfl, rfl, upd_same, (by show -(2 ^ 63) ≤ (2 : Int); decide), (by show (2 : Int) < 2 ^ 63; decide), (by show 1 * 2 ≤ sizeLine; decide), fun m hm => ?_⟩
  have s2 := Same.new (o := .lst [.int 0, .int 0]) s1 hm
  have hm0 : H m = none := new_of s1 hm
  have m2 : ∀ HH : Hp, (upd HH m (.lst [.int 0, .int 0])) m = some (.lst [.int 0, .int 0]) := fun _ => upd_same
  refine ⟨_, rfl, p, _, rfl, SqT.of (s2 _ _ h10), for_unrE (xs := [.int x, .int x2]) ?_⟩
  refine ⟨SqT.of (s2 _ _ h10), fun T3 hT3 => ?_⟩
  have s3 := Same.new (o := .tup [.int (0 : Nat), .int x]) s2 hT3
  have n3 : m ≠ T3 := ne_of_none (m2 _) hT3
  have m3 : ∀ HH : Hp, (upd (upd HH m (.lst [.int 0, .int 0])) T3 (.tup [.int (0 : Nat), .int x])) m = some (.lst [.int 0, .int 0]) := fun HH => (upd_ne n3).trans (m2 _)
  refine ⟨T3, _, rfl, SqT.of upd_same, rfl, _, _, rfl, _, _, rfl, rfl, _, rfl, _, rfl, m, _, _, .int ((0 : Int)), rfl, rfl, SqL.of (m3 _), atI_nat (j := 0) rfl, ?_⟩
  refine ⟨_, rfl, _, rfl, _, _, rfl, rfl, cm bc gx, _, _, rfl, rfl, m, _, _, 0, rfl, rfl, (m3 _), rfl, ?_⟩
  have s4 := Same.put (o := .lst [.int ((0 : Int) + c * x), .int ((0 : Int))]) s3 hm0
  have m4 : ∀ HH : Hp, (upd HH m (.lst [.int ((0 : Int) + c * x), .int ((0 : Int))])) m = some (.lst [.int ((0 : Int) + c * x), .int ((0 : Int))]) := fun _ => upd_same
  refine ⟨SqT.of (s4 _ _ h10), fun T5 hT5 => ?_⟩
  have s5 := Same.new (o := .tup [.int (1 : Nat), .int x2]) s4 hT5
  have n5 : m ≠ T5 := ne_of_none (m4 _) hT5
  have m5 : ∀ HH : Hp, (upd (upd HH m (.lst [.int ((0 : Int) + c * x), .int ((0 : Int))])) T5 (.tup [.int (1 : Nat), .int x2])) m = some (.lst [.int ((0 : Int) + c * x), .int ((0 : Int))]) := fun HH => (upd_ne n5).trans (m4 _)
  refine ⟨T5, _, rfl, SqT.of upd_same, rfl, _, _, rfl, _, _, rfl, rfl, _, rfl, _, rfl, m, _, _, .int ((0 : Int)), rfl, rfl, SqL.of (m5 _), atI_nat (j := 1) rfl, ?_⟩
  refine ⟨_, rfl, _, rfl, _, _, rfl, rfl, cm bc gx2, _, _, rfl, rfl, m, _, _, 1, rfl, rfl, (m5 _), rfl, ?_⟩
  have s6 := Same.put (o := .lst [.int ((0 : Int) + c * x), .int ((0 : Int) + c * x2)]) s5 hm0
  have m6 : ∀ HH : Hp, (upd HH m (.lst [.int ((0 : Int) + c * x), .int ((0 : Int) + c * x2)])) m = some (.lst [.int ((0 : Int) + c * x), .int ((0 : Int) + c * x2)]) := fun _ => upd_same
  refine ⟨SqT.of (s6 _ _ h10), _, rfl, q, _, rfl, SqT.of (s6 _ _ h20), for_unrE (xs := [.int y, .int y2]) ?_⟩
  refine ⟨SqT.of (s6 _ _ h20), fun T7 hT7 => ?_⟩
  have s7 := Same.new (o := .tup [.int (0 : Nat), .int y]) s6 hT7
  have n7 : m ≠ T7 := ne_of_none (m6 _) hT7
  have m7 : ∀ HH : Hp, (upd (upd HH m (.lst [.int ((0 : Int) + c * x), .int ((0 : Int) + c * x2)])) T7 (.tup [.int (0 : Nat), .int y])) m = some (.lst [.int ((0 : Int) + c * x), .int ((0 : Int) + c * x2)]) := fun HH => (upd_ne n7).trans (m6 _)
  refine ⟨T7, _, rfl, SqT.of upd_same, rfl, _, _, rfl, _, _, rfl, rfl, _, rfl, _, rfl, _, rfl, _, _, rfl, rfl, m, _, _, .int ((0 : Int) + c * x), rfl, rfl, SqL.of (m7 _), atI_nat (j := 0) rfl, ?_⟩
  refine ⟨_, rfl, _, rfl, _, _, rfl, rfl, cm bw gy, _, _, rfl, rfl, m, _, _, 0, rfl, rfl, (m7 _), rfl, ?_⟩
  have s8 := Same.put (o := .lst [.int ((0 : Int) + c * x - wt * y), .int ((0 : Int) + c * x2)]) s7 hm0
  have m8 : ∀ HH : Hp, (upd HH m (.lst [.int ((0 : Int) + c * x - wt * y), .int ((0 : Int) + c * x2)])) m = some (.lst [.int ((0 : Int) + c * x - wt * y), .int ((0 : Int) + c * x2)]) := fun _ => upd_same
  refine ⟨SqT.of (s8 _ _ h20), fun T9 hT9 => ?_⟩
  have s9 := Same.new (o := .tup [.int (1 : Nat), .int y2]) s8 hT9
  have n9 : m ≠ T9 := ne_of_none (m8 _) hT9
  have m9 : ∀ HH : Hp, (upd (upd HH m (.lst [.int ((0 : Int) + c * x - wt * y), .int ((0 : Int) + c * x2)])) T9 (.tup [.int (1 : Nat), .int y2])) m = some (.lst [.int ((0 : Int) + c * x - wt * y), .int ((0 : Int) + c * x2)]) := fun HH => (upd_ne n9).trans (m8 _)
  refine ⟨T9, _, rfl, SqT.of upd_same, rfl, _, _, rfl, _, _, rfl, rfl, _, rfl, _, rfl, _, rfl, _, _, rfl, rfl, m, _, _, .int ((0 : Int) + c * x2), rfl, rfl, SqL.of (m9 _), atI_nat (j := 1) rfl, ?_⟩
  refine ⟨_, rfl, _, rfl, _, _, rfl, rfl, cm bw gy2, _, _, rfl, rfl, m, _, _, 1, rfl, rfl, (m9 _), rfl, ?_⟩
  have s10 := Same.put (o := .lst [.int ((0 : Int) + c * x - wt * y), .int ((0 : Int) + c * x2 - wt * y2)]) s9 hm0
  have m10 : ∀ HH : Hp, (upd HH m (.lst [.int ((0 : Int) + c * x - wt * y), .int ((0 : Int) + c * x2 - wt * y2)])) m = some (.lst [.int ((0 : Int) + c * x - wt * y), .int ((0 : Int) + c * x2 - wt * y2)]) := fun _ => upd_same
  refine ⟨SqT.of (s10 _ _ h20), _, rfl, (m, [(0 : Int) + c * x - wt * y, (0 : Int) + c * x2 - wt * y2]), rfl, .inl (m10 _), ?_⟩
  rintro _ H9 s90 ⟨r, rfl, hr9⟩
  refine k _ _ (s10.trans s90) ⟨r, rfl, ?_⟩
  simp only [Int.zero_add] at hr9
  exact hr9
abbrev spComb32 : Sp := Prm (α := Int × Addr × Int × Addr × Int × Int × Int × Int × Int) (fun ⟨c, p, w, q, x, x2, x3, y, y2⟩ => [.int c, .ref p, .int w, .ref q, .int 1])
  (fun ⟨c, p, w, q, x, x2, x3, y, y2⟩ H => TI H p [x, x2, x3] ∧ TI H q [y, y2] ∧ Sm 400 c ∧ Sm 400 w ∧ Sm 400 x ∧ Sm 400 x2 ∧ Sm 400 x3 ∧ Sm 400 y ∧ Sm 400 y2)
  (fun ⟨c, p, w, q, x, x2, x3, y, y2⟩ H v H' => ∃ r, v = .ref r ∧ TI H' r (trimI [c * x, c * x2 - w * y, c * x3 - w * y2]))
theorem c_Comb32 (D : Df K mg "combined" (top 32)) (B : Bl mg) (C : Cal P w K mg base 1 "trimmed" ["terms"] spTrim) : Cal P w K mg base 2 "combined" ["factor", "one", "weight", "other", "shift"] spComb32 := by
  refine mkC D s31 (fun _ _ _ _ _ _ us hl => match us, hl with | [_, _, _, _, _], _ => rfl) (fun _ => rfl) (fun f cdv A outer s H a Q E hr h k => ?_)
  obtain ⟨c, p, wt, q, x, x2, x3, y, y2⟩ := a
  obtain ⟨h1, h2, bc, bw, gx, gx2, gx3, gy, gy2⟩ := h
  refine ⟨_, pss_cons ((ps_set (i := 5) (FnScope.nd s31) rfl (Or.inl rfl) (pe_op op_rep (pe_lst (pa_cons pe_int pa_nil)) (pe_callB (call_max2 rfl) (by rfl) B.max_ PyProof.Rows.boot_max (pa_cons ((pe_callB call_len_seq (by rfl) (Bl.len_ B) PySem.boot_len (pa_cons (pv 1) pa_nil))) (pa_cons (pe_op op_add ((pe_callB call_len_seq (by rfl) (Bl.len_ B) PySem.boot_len (pa_cons (pv 3) pa_nil))) (pv 4)) pa_nil))))))
    (pss_cons (ps_for PassesOwn.never rfl (pi_enumT (by rfl) B.enumerate_ (pa_cons (pv 1) pa_nil)) (pg_tup rfl (pgs_cons ((pg_name (i := 6) (FnScope.nd s31) rfl (Or.inl rfl))) (pgs_cons ((pg_name (i := 7) (FnScope.nd s31) rfl (Or.inl rfl))) pgs_nil)))
        (pss_one (ps_augS (pv 5) (pv 6) get_list (pe_op op_mulW (pv 0) (pv 7)) ip_add set_list)))
    (pss_cons (ps_for PassesOwn.never rfl (pi_enumT (by rfl) B.enumerate_ (pa_cons (pv 3) pa_nil)) (pg_tup rfl (pgs_cons ((pg_name (i := 6) (FnScope.nd s31) rfl (Or.inl rfl))) (pgs_cons ((pg_name (i := 7) (FnScope.nd s31) rfl (Or.inl rfl))) pgs_nil)))
        (pss_one (ps_augS (pv 5) (pe_op op_add (pv 6) (pv 4)) get_list (pe_op op_mulW (pv 2) (pv 7)) ip_sub set_list)))
    (pss_one (ps_ret (pe_cl C hr (pa_cons (pv 5) pa_nil)))))), ?_⟩
  have h10 : H p = some (.tup [.int x, .int x2, .int x3]) := h1
  have h20 : H q = some (.tup [.int y, .int y2]) := h2
  refine ⟨by decide, fun l hl => ?_⟩
  have s1 := same_new (o := .lst [.int 0]) hl
  refine ⟨_, rfl, p, _, rfl, .inr (SqT.of (s1 _ _ h10)), _, rfl, q, _, rfl, .inr (SqT.of (s1 _ _ h20)), _, rfl, _, _, rfl, rfl, _, _, rfl, l, _, _, rfl, rfl, upd_same, (by show -(2 ^ 63) ≤ (3 : Int); decide), (by show (3 : Int) < 2 ^ 63; decide), (by show 1 * 3 ≤ sizeLine; decide), fun m hm => ?_⟩
  have s2 := Same.new (o := .lst [.int 0, .int 0, .int 0]) s1 hm
  have hm0 : H m = none := new_of s1 hm
  have m2 : ∀ HH : Hp, (upd HH m (.lst [.int 0, .int 0, .int 0])) m = some (.lst [.int 0, .int 0, .int 0]) := fun _ => upd_same
  refine ⟨_, rfl, p, _, rfl, SqT.of (s2 _ _ h10), for_unrE (xs := [.int x, .int x2, .int x3]) ?_⟩
  refine ⟨SqT.of (s2 _ _ h10), fun T3 hT3 => ?_⟩
  have s3 := Same.new (o := .tup [.int (0 : Nat), .int x]) s2 hT3
  have n3 : m ≠ T3 := ne_of_none (m2 _) hT3
  have m3 : ∀ HH : Hp, (upd (upd HH m (.lst [.int 0, .int 0, .int 0])) T3 (.tup [.int (0 : Nat), .int x])) m = some (.lst [.int 0, .int 0, .int 0]) := fun HH => (upd_ne n3).trans (m2 _)
  refine ⟨T3, _, rfl, SqT.of upd_same, rfl, _, _, rfl, _, _, rfl, rfl, _, rfl, _, rfl, m, _, _, .int ((0 : Int)), rfl, rfl, SqL.of (m3 _), atI_nat (j := 0) rfl, ?_⟩
  refine ⟨_, rfl, _, rfl, _, _, rfl, rfl, cm bc gx, _, _, rfl, rfl, m, _, _, 0, rfl, rfl, (m3 _), rfl, ?_⟩
  have s4 := Same.put (o := .lst [.int ((0 : Int) + c * x), .int ((0 : Int)), .int ((0 : Int))]) s3 hm0
  have m4 : ∀ HH : Hp, (upd HH m (.lst [.int ((0 : Int) + c * x), .int ((0 : Int)), .int ((0 : Int))])) m = some (.lst [.int ((0 : Int) + c * x), .int ((0 : Int)), .int ((0 : Int))]) := fun _ => upd_same
  refine ⟨SqT.of (s4 _ _ h10), fun T5 hT5 => ?_⟩
  have s5 := Same.new (o := .tup [.int (1 : Nat), .int x2]) s4 hT5
  have n5 : m ≠ T5 := ne_of_none (m4 _) hT5
  have m5 : ∀ HH : Hp, (upd (upd HH m (.lst [.int ((0 : Int) + c * x), .int ((0 : Int)), .int ((0 : Int))])) T5 (.tup [.int (1 : Nat), .int x2])) m = some (.lst [.int ((0 : Int) + c * x), .int ((0 : Int)), .int ((0 : Int))]) := fun HH => (upd_ne n5).trans (m4 _)
  refine ⟨T5, _, rfl, SqT.of upd_same, rfl, _, _, rfl, _, _, rfl, rfl, _, rfl, _, rfl, m, _, _, .int ((0 : Int)), rfl, rfl, SqL.of (m5 _), atI_nat (j := 1) rfl, ?_⟩
  refine ⟨_, rfl, _, rfl, _, _, rfl, rfl, cm bc gx2, _, _, rfl, rfl, m, _, _, 1, rfl, rfl, (m5 _), rfl, ?_⟩
  have s6 := Same.put (o := .lst [.int ((0 : Int) + c * x), .int ((0 : Int) + c * x2), .int ((0 : Int))]) s5 hm0
  have m6 : ∀ HH : Hp, (upd HH m (.lst [.int ((0 : Int) + c * x), .int ((0 : Int) + c * x2), .int ((0 : Int))])) m = some (.lst [.int ((0 : Int) + c * x), .int ((0 : Int) + c * x2), .int ((0 : Int))]) := fun _ => upd_same
  refine ⟨SqT.of (s6 _ _ h10), fun T7 hT7 => ?_⟩
  have s7 := Same.new (o := .tup [.int (2 : Nat), .int x3]) s6 hT7
  have n7 : m ≠ T7 := ne_of_none (m6 _) hT7
  have m7 : ∀ HH : Hp, (upd (upd HH m (.lst [.int ((0 : Int) + c * x), .int ((0 : Int) + c * x2), .int ((0 : Int))])) T7 (.tup [.int (2 : Nat), .int x3])) m = some (.lst [.int ((0 : Int) + c * x), .int ((0 : Int) + c * x2), .int ((0 : Int))]) := fun HH => (upd_ne n7).trans (m6 _)
  refine ⟨T7, _, rfl, SqT.of upd_same, rfl, _, _, rfl, _, _, rfl, rfl, _, rfl, _, rfl, m, _, _, .int ((0 : Int)), rfl, rfl, SqL.of (m7 _), atI_nat (j := 2) rfl, ?_⟩
  refine ⟨_, rfl, _, rfl, _, _, rfl, rfl, cm bc gx3, _, _, rfl, rfl, m, _, _, 2, rfl, rfl, (m7 _), rfl, ?_⟩
  have s8 := Same.put (o := .lst [.int ((0 : Int) + c * x), .int ((0 : Int) + c * x2), .int ((0 : Int) + c * x3)]) s7 hm0
  have m8 : ∀ HH : Hp, (upd HH m (.lst [.int ((0 : Int) + c * x), .int ((0 : Int) + c * x2), .int ((0 : Int) + c * x3)])) m = some (.lst [.int ((0 : Int) + c * x), .int ((0 : Int) + c * x2), .int ((0 : Int) + c * x3)]) := fun _ => upd_same
  refine ⟨SqT.of (s8 _ _ h10), _, rfl, q, _, rfl, SqT.of (s8 _ _ h20), for_unrE (xs := [.int y, .int y2]) ?_⟩
  refine ⟨SqT.of (s8 _ _ h20), fun T9 hT9 => ?_⟩
  have s9 := Same.new (o := .tup [.int (0 : Nat), .int y]) s8 hT9
  have n9 : m ≠ T9 := ne_of_none (m8 _) hT9
  have m9 : ∀ HH : Hp, (upd (upd HH m (.lst [.int ((0 : Int) + c * x), .int ((0 : Int) + c * x2), .int ((0 : Int) + c * x3)])) T9 (.tup [.int (0 : Nat), .int y])) m = some (.lst [.int ((0 : Int) + c * x), .int ((0 : Int) + c * x2), .int ((0 : Int) + c * x3)]) := fun HH => (upd_ne n9).trans (m8 _)
  refine ⟨T9, _, rfl, SqT.of upd_same, rfl, _, _, rfl, _, _, rfl, rfl, _, rfl, _, rfl, _, rfl, _, _, rfl, rfl, m, _, _, .int ((0 : Int) + c * x2), rfl, rfl, SqL.of (m9 _), atI_nat (j := 1) rfl, ?_⟩
  refine ⟨_, rfl, _, rfl, _, _, rfl, rfl, cm bw gy, _, _, rfl, rfl, m, _, _, 1, rfl, rfl, (m9 _), rfl, ?_⟩
  have s10 := Same.put (o := .lst [.int ((0 : Int) + c * x), .int ((0 : Int) + c * x2 - wt * y), .int ((0 : Int) + c * x3)]) s9 hm0
  have m10 : ∀ HH : Hp, (upd HH m (.lst [.int ((0 : Int) + c * x), .int ((0 : Int) + c * x2 - wt * y), .int ((0 : Int) + c * x3)])) m = some (.lst [.int ((0 : Int) + c * x), .int ((0 : Int) + c * x2 - wt * y), .int ((0 : Int) + c * x3)]) := fun _ => upd_same
  refine ⟨SqT.of (s10 _ _ h20), fun T11 hT11 => ?_⟩
  have s11 := Same.new (o := .tup [.int (1 : Nat), .int y2]) s10 hT11
  have n11 : m ≠ T11 := ne_of_none (m10 _) hT11
  have m11 : ∀ HH : Hp, (upd (upd HH m (.lst [.int ((0 : Int) + c * x), .int ((0 : Int) + c * x2 - wt * y), .int ((0 : Int) + c * x3)])) T11 (.tup [.int (1 : Nat), .int y2])) m = some (.lst [.int ((0 : Int) + c * x), .int ((0 : Int) + c * x2 - wt * y), .int ((0 : Int) + c * x3)]) := fun HH => (upd_ne n11).trans (m10 _)
  refine ⟨T11, _, rfl, SqT.of upd_same, rfl, _, _, rfl, _, _, rfl, rfl, _, rfl, _, rfl, _, rfl, _, _, rfl, rfl, m, _, _, .int ((0 : Int) + c * x3), rfl, rfl, SqL.of (m11 _), atI_nat (j := 2) rfl, ?_⟩
  refine ⟨_, rfl, _, rfl, _, _, rfl, rfl, cm bw gy2, _, _, rfl, rfl, m, _, _, 2, rfl, rfl, (m11 _), rfl, ?_⟩
  have s12 := Same.put (o := .lst [.int ((0 : Int) + c * x), .int ((0 : Int) + c * x2 - wt * y), .int ((0 : Int) + c * x3 - wt * y2)]) s11 hm0
  have m12 : ∀ HH : Hp, (upd HH m (.lst [.int ((0 : Int) + c * x), .int ((0 : Int) + c * x2 - wt * y), .int ((0 : Int) + c * x3 - wt * y2)])) m = some (.lst [.int ((0 : Int) + c * x), .int ((0 : Int) + c * x2 - wt * y), .int ((0 : Int) + c * x3 - wt * y2)]) := fun _ => upd_same
  refine ⟨SqT.of (s12 _ _ h20), _, rfl, (m, [(0 : Int) + c * x, (0 : Int) + c * x2 - wt * y, (0 : Int) + c * x3 - wt * y2]), rfl, .inl (m12 _), ?_⟩
  rintro _ H9 s90 ⟨r, rfl, hr9⟩
  refine k _ _ (s12.trans s90) ⟨r, rfl, ?_⟩
  simp only [Int.zero_add] at hr9
  exact hr9
end
end Xq

namespace Xq
open PySem PySem.Spec PyProof.Rows L2
section
variable {P : Program} {w : World} {K : PySem.W.Frag} {mg : Str → Option Value} {base : Heap}
abbrev spComb : Sp := OrS (OrS spComb32 spComb22) (OrS spComb21 spComb11)
theorem s32 : FnScope ["one", "other", "factor", "weight"] ["one", "other"] (defScope (top 33)) := (⟨rfl, rfl, rfl, by decide +kernel, rfl, by decide +kernel, by decide +kernel⟩)
theorem atl1 (v : V) : atI [v] (-1) = some v := atI_last [] v
theorem atl2 (u v : V) : atI [u, v] (-1) = some v := atI_last [u] v
theorem atl3 (t u v : V) : atI [t, u, v] (-1) = some v := atI_last [t, u] v
theorem atl4 (r t u v : V) : atI [r, t, u, v] (-1) = some v := atI_last [r, t, u] v
abbrev spRemA : Sp := Prm (α := Addr × Addr) (fun a => [.ref a.1, .ref a.2]) (fun a H => TI H a.1 [2, -4, 1] ∧ TI H a.2 [-4, 2]) (fun a H v H' => ∃ r, v = .ref r ∧ TI H' r [-1])
theorem c_remA (D : Df K mg "remainder" (top 33)) (B : Bl mg) (C : Cal P w K mg base 2 "combined" ["factor", "one", "weight", "other", "shift"] spComb) (CP : Cal P w K mg base 2 "primitive" ["terms"] (OrS spPrim0 spPrim8)) : Cal P w K mg base 3 "remainder" ["one", "other"] spRemA := by
  refine mkC D s32 (fun _ _ _ _ _ _ us hl => match us, hl with | [_, _], _ => rfl) (fun _ => rfl) (fun f cdv A outer s H a Q E hr h k => ?_)
  obtain ⟨p, q⟩ := a
  obtain ⟨h1, h2⟩ := h
  have h1 : TI H p [2, -4, 1] := h1
  have h2 : TI H q [-4, 2] := h2
  have sm : ∀ i : Int, i.natAbs < 1000 → Sm 400 i := fun i h => Nat.lt_of_lt_of_le h (by decide)
  refine ⟨_, pss_cons ((ps_set (i := 2) (FnScope.nd s32) rfl (Or.inl rfl) (pe_callB call_abs (by rfl) B.abs_ PyProof.Rows.boot_abs (pa_cons ((pe_ix ix_tup (pv 1) (pe_un un_neg pe_int) (fun _ _ => rfl))) pa_nil))))
    (pss_cons (ps_whU PassesOwn.never ((pt_cmpR op_ge ((pe_callB call_len_seq (by rfl) (Bl.len_ B) PySem.boot_len (pa_cons (pv 0) pa_nil))) ((pe_callB call_len_seq (by rfl) (Bl.len_ B) PySem.boot_len (pa_cons (pv 1) pa_nil))) (nomark _)))
      (pss_cons ((ps_set (i := 3) (FnScope.nd s32) rfl (Or.inl rfl) (pe_ifExp ((pt_cmpR op_gt ((pe_ix ix_tup (pv 1) (pe_un un_neg pe_int) (fun _ _ => rfl))) pe_int (nomark _))) ((pe_ix ix_tup (pv 0) (pe_un un_neg pe_int) (fun _ _ => rfl))) pe_nv)))
      (pss_one ((ps_set (i := 0) (FnScope.nd s32) rfl (Or.inl rfl) (pe_cl C hr (pa_cons (pv 2) (pa_cons (pv 0) (pa_cons (pv 3) (pa_cons (pv 1) (pa_cons (pe_op op_sub ((pe_callB call_len_seq (by rfl) (Bl.len_ B) PySem.boot_len (pa_cons (pv 0) pa_nil))) ((pe_callB call_len_seq (by rfl) (Bl.len_ B) PySem.boot_len (pa_cons (pv 1) pa_nil)))) pa_nil)))))))))))
    (pss_one (ps_ret (pe_cl CP hr (pa_cons (pv 0) pa_nil))))), ?_⟩
  have h10 : H p = some (.tup [.int 2, .int (-4), .int 1]) := h1
  have h20 : H q = some (.tup [.int (-4), .int 2]) := h2
  refine ⟨_, rfl, _, rfl, q, _, _, .int 2, rfl, rfl, SqT.of h20, atl2 _ _, 2, rfl, ?_⟩
  refine ⟨2, _, rfl, p, _, rfl, .inr (SqT.of h10), _, rfl, q, _, rfl, .inr (SqT.of h20), _, _, rfl, rfl, _, rfl, ?_⟩
  refine iteT ⟨_, rfl, _, rfl, q, _, _, .int 2, rfl, rfl, SqT.of h20, atl2 _ _, _, _, rfl, rfl, _, rfl, ?_⟩
  refine iteT ⟨_, rfl, _, rfl, p, _, _, .int 1, rfl, rfl, SqT.of h10, atl3 _ _ _, ?_⟩
  refine ⟨_, rfl, _, rfl, _, rfl, _, rfl, _, rfl, p, _, rfl, .inr (SqT.of h10), _, rfl, q, _, rfl, .inr (SqT.of h20), _, _, rfl, rfl, ?_⟩
  refine .inl (.inl ⟨(2, p, 1, q, 2, -4, 1, -4, 2), rfl, ⟨h1, h2, sm 2 (by decide), sm 1 (by decide), sm 2 (by decide), sm (-4) (by decide), sm 1 (by decide), sm (-4) (by decide), sm 2 (by decide)⟩, ?_⟩)
  rintro _ H2 s2 ⟨r, rfl, hr2⟩
  have hr3 : TI H2 r [4, -4] := hr2
  have hr30 : H2 r = some (.tup [.int 4, .int (-4)]) := hr3
  have h21 := s2 _ _ h20
  refine ⟨_, rfl, r, _, rfl, .inr (SqT.of hr30), _, rfl, q, _, rfl, .inr (SqT.of h21), _, _, rfl, rfl, _, rfl, ?_⟩
  refine iteT ⟨_, rfl, _, rfl, q, _, _, .int 2, rfl, rfl, SqT.of h21, atl2 _ _, _, _, rfl, rfl, _, rfl, ?_⟩
  refine iteT ⟨_, rfl, _, rfl, r, _, _, .int (-4), rfl, rfl, SqT.of hr30, atl2 _ _, ?_⟩
  refine ⟨_, rfl, _, rfl, _, rfl, _, rfl, _, rfl, r, _, rfl, .inr (SqT.of hr30), _, rfl, q, _, rfl, .inr (SqT.of h21), _, _, rfl, rfl, ?_⟩
  refine .inl (.inr ⟨(2, r, -4, q, 4, -4, -4, 2), rfl, ⟨hr3, TI.same s2 h2, sm 2 (by decide), sm (-4) (by decide), sm 4 (by decide), sm (-4) (by decide), sm (-4) (by decide), sm 2 (by decide)⟩, ?_⟩)
  rintro _ H4 s4 ⟨r2, rfl, hr4⟩
  have hr5 : TI H4 r2 [-8] := hr4
  have hr50 : H4 r2 = some (.tup [.int (-8)]) := hr5
  have h22 := s4 _ _ h21
  refine ⟨_, rfl, r2, _, rfl, .inr (SqT.of hr50), _, rfl, q, _, rfl, .inr (SqT.of h22), _, _, rfl, rfl, _, rfl, rfl, ?_⟩
  refine ⟨_, rfl, .inr ⟨r2, rfl, hr5, ?_⟩⟩
  rintro _ H5 s5 ⟨r6, rfl, hr6⟩
  exact k _ _ (s2.trans (s4.trans s5)) ⟨r6, rfl, hr6⟩
abbrev spRemB : Sp := Prm (α := Addr × Addr) (fun a => [.ref a.1, .ref a.2]) (fun a H => TI H a.1 [-4, 2] ∧ TI H a.2 [1]) (fun a H v H' => ∃ r, v = .ref r ∧ TI H' r [])
theorem c_remB (D : Df K mg "remainder" (top 33)) (B : Bl mg) (C : Cal P w K mg base 2 "combined" ["factor", "one", "weight", "other", "shift"] spComb) (CP : Cal P w K mg base 2 "primitive" ["terms"] (OrS spPrim0 spPrim8)) : Cal P w K mg base 3 "remainder" ["one", "other"] spRemB := by
  refine mkC D s32 (fun _ _ _ _ _ _ us hl => match us, hl with | [_, _], _ => rfl) (fun _ => rfl) (fun f cdv A outer s H a Q E hr h k => ?_)
  obtain ⟨p, q⟩ := a
  obtain ⟨h1, h2⟩ := h
  have h1 : TI H p [-4, 2] := h1
  have h2 : TI H q [1] := h2
  have sm : ∀ i : Int, i.natAbs < 1000 → Sm 400 i := fun i h => Nat.lt_of_lt_of_le h (by decide)
  refine ⟨_, pss_cons ((ps_set (i := 2) (FnScope.nd s32) rfl (Or.inl rfl) (pe_callB call_abs (by rfl) B.abs_ PyProof.Rows.boot_abs (pa_cons ((pe_ix ix_tup (pv 1) (pe_un un_neg pe_int) (fun _ _ => rfl))) pa_nil))))
    (pss_cons (ps_whU PassesOwn.never ((pt_cmpR op_ge ((pe_callB call_len_seq (by rfl) (Bl.len_ B) PySem.boot_len (pa_cons (pv 0) pa_nil))) ((pe_callB call_len_seq (by rfl) (Bl.len_ B) PySem.boot_len (pa_cons (pv 1) pa_nil))) (nomark _)))
      (pss_cons ((ps_set (i := 3) (FnScope.nd s32) rfl (Or.inl rfl) (pe_ifExp ((pt_cmpR op_gt ((pe_ix ix_tup (pv 1) (pe_un un_neg pe_int) (fun _ _ => rfl))) pe_int (nomark _))) ((pe_ix ix_tup (pv 0) (pe_un un_neg pe_int) (fun _ _ => rfl))) pe_nv)))
      (pss_one ((ps_set (i := 0) (FnScope.nd s32) rfl (Or.inl rfl) (pe_cl C hr (pa_cons (pv 2) (pa_cons (pv 0) (pa_cons (pv 3) (pa_cons (pv 1) (pa_cons (pe_op op_sub ((pe_callB call_len_seq (by rfl) (Bl.len_ B) PySem.boot_len (pa_cons (pv 0) pa_nil))) ((pe_callB call_len_seq (by rfl) (Bl.len_ B) PySem.boot_len (pa_cons (pv 1) pa_nil)))) pa_nil)))))))))))
    (pss_one (ps_ret (pe_cl CP hr (pa_cons (pv 0) pa_nil))))), ?_⟩
  have h10 : H p = some (.tup [.int (-4), .int 2]) := h1
  have h20 : H q = some (.tup [.int 1]) := h2
  refine ⟨_, rfl, _, rfl, q, _, _, .int 1, rfl, rfl, SqT.of h20, atl1 _, 1, rfl, ?_⟩
  refine ⟨2, _, rfl, p, _, rfl, .inr (SqT.of h10), _, rfl, q, _, rfl, .inr (SqT.of h20), _, _, rfl, rfl, _, rfl, ?_⟩
  refine iteT ⟨_, rfl, _, rfl, q, _, _, .int 1, rfl, rfl, SqT.of h20, atl1 _, _, _, rfl, rfl, _, rfl, ?_⟩
  refine iteT ⟨_, rfl, _, rfl, p, _, _, .int 2, rfl, rfl, SqT.of h10, atl2 _ _, ?_⟩
  refine ⟨_, rfl, _, rfl, _, rfl, _, rfl, _, rfl, p, _, rfl, .inr (SqT.of h10), _, rfl, q, _, rfl, .inr (SqT.of h20), _, _, rfl, rfl, ?_⟩
  refine .inr (.inl ⟨(1, p, 2, q, -4, 2, 1), rfl, ⟨h1, h2, sm 1 (by decide), sm 2 (by decide), sm (-4) (by decide), sm 2 (by decide), sm 1 (by decide)⟩, ?_⟩)
  rintro _ H2 s2 ⟨r, rfl, hr2⟩
  have hr3 : TI H2 r [-4] := hr2
  have hr30 : H2 r = some (.tup [.int (-4)]) := hr3
  have h21 := s2 _ _ h20
  refine ⟨_, rfl, r, _, rfl, .inr (SqT.of hr30), _, rfl, q, _, rfl, .inr (SqT.of h21), _, _, rfl, rfl, _, rfl, ?_⟩
  refine iteT ⟨_, rfl, _, rfl, q, _, _, .int 1, rfl, rfl, SqT.of h21, atl1 _, _, _, rfl, rfl, _, rfl, ?_⟩
  refine iteT ⟨_, rfl, _, rfl, r, _, _, .int (-4), rfl, rfl, SqT.of hr30, atl1 _, ?_⟩
  refine ⟨_, rfl, _, rfl, _, rfl, _, rfl, _, rfl, r, _, rfl, .inr (SqT.of hr30), _, rfl, q, _, rfl, .inr (SqT.of h21), _, _, rfl, rfl, ?_⟩
  refine .inr (.inr ⟨(1, r, -4, q, -4, 1), rfl, ⟨hr3, TI.same s2 h2, sm 1 (by decide), sm (-4) (by decide), sm (-4) (by decide), sm 1 (by decide)⟩, ?_⟩)
  rintro _ H4 s4 ⟨r2, rfl, hr4⟩
  have hr5 : TI H4 r2 [] := hr4
  have hr50 : H4 r2 = some (.tup []) := hr5
  have h22 := s4 _ _ h21
  refine ⟨_, rfl, r2, _, rfl, .inr (SqT.of hr50), _, rfl, q, _, rfl, .inr (SqT.of h22), _, _, rfl, rfl, _, rfl, rfl, ?_⟩
  refine ⟨_, rfl, .inl ⟨r2, rfl, hr5, ?_⟩⟩
  rintro _ H5 s5 ⟨rfl, rfl⟩
  exact k _ _ (s2.trans s4) ⟨r2, rfl, hr5⟩
abbrev spRem : Sp := OrS spRemA spRemB
theorem s36 : FnScope ["terms", "chain"] ["terms"] (defScope (top 37)) := (⟨rfl, rfl, rfl, by decide +kernel, rfl, by decide +kernel, by decide +kernel⟩)
/-- the row of Sturm of (2, -4, 1) -/
def Ch (H : Hp) (c p q r : Addr) : Prop := H c = some (.lst [.ref p, .ref q, .ref r]) ∧ TI H p [2, -4, 1] ∧ TI H q [-4, 2] ∧ TI H r [1]
theorem Ch.same {H H' : Hp} {c p q r : Addr} (s : Same H H') (h : Ch H c p q r) : Ch H' c p q r := ⟨s _ _ h.1, TI.same s h.2.1, TI.same s h.2.2.1, TI.same s h.2.2.2⟩
abbrev spSturm : Sp := Prm (α := Addr) (fun a => [.ref a]) (fun a H => TI H a [2, -4, 1]) (fun a H v H' => ∃ c q r, v = .ref c ∧ Ch H' c a q r)
theorem c_sturm (D : Df K mg "sturm_chain" (top 37)) (B : Bl mg) (CD : Cal P w K mg base 1 "derivative" ["terms"] spDer) (CR : Cal P w K mg base 3 "remainder" ["one", "other"] spRem) (CN : Cal P w K mg base 1 "negative" ["terms"] spNeg) : Cal P w K mg base 4 "sturm_chain" ["terms"] spSturm := by
  refine mkC D s36 (fun _ _ _ _ _ _ us hl => match us, hl with | [_], _ => rfl) (fun _ => rfl) (fun f cdv A outer s H p Q E hr h1 k => ?_)
  have h1 : TI H p [2, -4, 1] := h1
  have hu : (A.deeper (envOfC "sturm_chain" (defScope (top 37)) s.heap.objs.size f cdv)).units + 64 < cLine := by have := hr.un; omega
  refine ⟨_, pss_cons ((ps_set (i := 1) (FnScope.nd s36) rfl (Or.inl rfl) (pe_lst (pa_cons (pv 0) (pa_cons (pe_cl CD hr (pa_cons (pv 0) pa_nil)) pa_nil)))))
    (pss_cons (ps_whU PassesOwn.never (pt_cmpR (op_neD hu) ((pe_ix ix_list (pv 1) (pe_un un_neg pe_int) (fun _ _ => rfl))) (pe_tup pa_nil) (nomark _))
      (pss_one (ps_expr (pe_bm PySem.F.plainAttrs_list PySem.F.slot_list_append PySem.F.type_list_append mt_append (pv 1) (pa_cons (pe_cl CN hr (pa_cons (pe_cl CR hr (pa_cons ((pe_ix ix_list (pv 1) (pe_un un_neg pe_int) (fun _ _ => rfl))) (pa_cons ((pe_ix ix_list (pv 1) (pe_un un_neg pe_int) (fun _ _ => rfl))) pa_nil))) pa_nil)) pa_nil)))))
    (pss_cons (ps_expr (pe_bm0 PySem.F.plainAttrs_list PySem.F.slot_list_pop PySem.F.type_list_pop mt_pop (pv 1)))
    (pss_one (ps_ret (pv 1))))), ?_⟩
  refine ⟨_, rfl, _, rfl, (p, 2, -4, 1), rfl, ⟨h1, (by show (-1000 : Int) ≤ -4; decide), (by show (-4 : Int) ≤ 1000; decide), (by show (-1000 : Int) ≤ 1; decide), (by show (1 : Int) ≤ 1000; decide)⟩, ?_⟩
  rintro _ H1 s1 ⟨q, rfl, hq⟩
  have hq : TI H1 q [-4, 2] := hq
  have hq0 : H1 q = some (.tup [.int (-4), .int 2]) := hq
  refine ⟨(by show 2 ≤ sizeLine; decide), fun c hc => ?_⟩
  have c0 : H c = none := new_of s1 hc
  have kc : ∀ {Ha Hb : Hp} {a : Addr} {xs : List Int}, (∀ b o, b ≠ c → Ha b = some o → Hb b = some o) → a ≠ c → TI Ha a xs → TI Hb a xs := fun e n h => e _ _ n h
  have pc : p ≠ c := ne_of_none (s1 _ _ h1) hc
  have qc : q ≠ c := ne_of_none hq0 hc
  have s2 := Same.new (o := .lst [.ref p, .ref q]) s1 hc
  have hp2 : TI (upd H1 c (.lst [.ref p, .ref q])) p [2, -4, 1] := s2 _ _ h1
  have hq2 : TI (upd H1 c (.lst [.ref p, .ref q])) q [-4, 2] := by show upd _ c _ q = _; rw [upd_ne qc]; exact hq
  have c2 : upd H1 c (.lst [.ref p, .ref q]) c = some (.lst [.ref p, .ref q]) := upd_same
  generalize upd H1 c (.lst [.ref p, .ref q]) = H2 at s2 hp2 hq2 c2 ⊢
  refine ⟨2, _, rfl, _, rfl, c, _, _, .ref q, rfl, rfl, SqL.of c2, atl2 _ _, by decide, fun z hz => ?_⟩
  have t3 := same_new (o := .tup []) hz
  have s3 := s2.trans t3
  have c3 := t3 _ _ c2
  have hp3 := TI.same t3 hp2
  have hq3 := TI.same t3 hq2
  refine ⟨.tuple [.int (-4), .int 2], .tuple [], .tup (SqT.of hq3) (.cons (.int _) (.cons (.int _) .nil)), .tup (SqT.of upd_same) .nil, rfl, rfl, _, rfl, iteT ?_⟩
  generalize upd H2 z (.tup []) = H3 at s3 c3 hp3 hq3 ⊢
  refine ⟨_, rfl, .inl ⟨rfl, _, SqL.of c3⟩, ?_⟩
  refine ⟨_, rfl, _, rfl, c, _, _, .ref p, rfl, rfl, SqL.of c3, rfl, ?_⟩
  refine ⟨_, rfl, _, rfl, c, _, _, .ref q, rfl, rfl, SqL.of c3, atl2 _ _, ?_⟩
  refine .inl ⟨(p, q), rfl, ⟨hp3, hq3⟩, ?_⟩
  rintro _ H4 s4 ⟨r, rfl, hr4⟩
  refine ⟨(r, [-1]), rfl, ⟨hr4, (by show 1 ≤ 1; decide)⟩, ?_⟩
  rintro _ H5 s5 ⟨r2, rfl, hr5⟩
  have hr5 : TI H5 r2 [1] := hr5
  have hr50 : H5 r2 = some (.tup [.int 1]) := hr5
  have s45 := s4.trans s5
  have c5 := s45 _ _ c3
  have rc : r2 ≠ c := fun e => by rw [e, c5] at hr50; cases hr50
  refine ⟨c, _, _, rfl, rfl, c5, (by show 2 < sizeLine; decide), ?_⟩
  have s6 := Same.put (o := .lst ([.ref p, .ref q] ++ [.ref r2])) (s3.trans s45) c0
  have c6 : upd H5 c (.lst ([.ref p, .ref q] ++ [.ref r2])) c = some (.lst [.ref p, .ref q, .ref r2]) := upd_same
  have u6 : ∀ {a : Addr} {xs : List Int}, a ≠ c → TI H5 a xs → TI (upd H5 c (.lst ([.ref p, .ref q] ++ [.ref r2]))) a xs := fun {a xs} n h => by show upd _ c _ a = _; rw [upd_ne n]; exact h
  have hp6 := u6 pc (TI.same s45 hp3)
  have hq6 := u6 qc (TI.same s45 hq3)
  have hr6 := u6 rc hr5
  generalize upd H5 c (.lst ([.ref p, .ref q] ++ [.ref r2])) = H6 at s6 c6 hp6 hq6 hr6 ⊢
  clear hp3 hq3 c3 s3 c5 hr5 hr50 u6 s45 s5 s4 hr4 c2 hp2 hq2 s2 t3 hz
  refine ⟨_, rfl, _, rfl, c, _, _, .ref r2, rfl, rfl, SqL.of c6, atl3 _ _ _, by decide, fun z hz => ?_⟩
  have t3 := same_new (o := .tup []) hz
  have s3 := s6.trans t3
  have c3 := t3 _ _ c6
  have hp3 := TI.same t3 hp6
  have hq3 := TI.same t3 hq6
  have hr3 := TI.same t3 hr6
  refine ⟨.tuple [.int 1], .tuple [], .tup (SqT.of hr3) (.cons (.int _) .nil), .tup (SqT.of upd_same) .nil, rfl, rfl, _, rfl, iteT ?_⟩
  generalize upd H6 z (.tup []) = H7 at s3 c3 hp3 hq3 hr3 ⊢
  refine ⟨_, rfl, .inl ⟨rfl, _, SqL.of c3⟩, ?_⟩
  refine ⟨_, rfl, _, rfl, c, _, _, .ref q, rfl, rfl, SqL.of c3, rfl, ?_⟩
  refine ⟨_, rfl, _, rfl, c, _, _, .ref r2, rfl, rfl, SqL.of c3, atl3 _ _ _, ?_⟩
  refine .inr ⟨(q, r2), rfl, ⟨hq3, hr3⟩, ?_⟩
  rintro _ H8 s8 ⟨e, rfl, he4⟩
  refine ⟨(e, []), rfl, ⟨he4, (by show 0 ≤ 1; decide)⟩, ?_⟩
  rintro _ H9 s9 ⟨e2, rfl, he9⟩
  have he9 : TI H9 e2 [] := he9
  have he90 : H9 e2 = some (.tup []) := he9
  have s89 := s8.trans s9
  have c9 := s89 _ _ c3
  have ec : e2 ≠ c := fun z => by rw [z, c9] at he90; cases he90
  refine ⟨c, _, _, rfl, rfl, c9, (by show 3 < sizeLine; decide), ?_⟩
  have s10 := Same.put (o := .lst ([.ref p, .ref q, .ref r2] ++ [.ref e2])) (s3.trans s89) c0
  have c10 : upd H9 c (.lst ([.ref p, .ref q, .ref r2] ++ [.ref e2])) c = some (.lst [.ref p, .ref q, .ref r2, .ref e2]) := upd_same
  have u6 : ∀ {a : Addr} {xs : List Int}, a ≠ c → TI H9 a xs → TI (upd H9 c (.lst ([.ref p, .ref q, .ref r2] ++ [.ref e2]))) a xs := fun {a xs} n h => by show upd _ c _ a = _; rw [upd_ne n]; exact h
  have hp10 := u6 pc (TI.same s89 hp3)
  have hq10 := u6 qc (TI.same s89 hq3)
  have hr10 := u6 rc (TI.same s89 hr3)
  have he10 := u6 ec he9
  generalize upd H9 c (.lst ([.ref p, .ref q, .ref r2] ++ [.ref e2])) = H10 at s10 c10 hp10 hq10 hr10 he10 ⊢
  refine ⟨_, rfl, _, rfl, c, _, _, .ref e2, rfl, rfl, SqL.of c10, atl4 _ _ _ _, by decide, fun z hz => ?_⟩
  have t3 := same_new (o := .tup []) hz
  have he11 := t3 _ _ he10
  refine ⟨.tuple [], .tuple [], .tup (SqT.of he11) .nil, .tup (SqT.of upd_same) .nil, rfl, rfl, _, rfl, rfl, ?_⟩
  have c11 := t3 _ _ c10
  refine ⟨_, rfl, .inl ⟨rfl, _, SqL.of c11⟩, c, _, .ref e2, rfl, rfl, c11, rfl, ?_⟩
  have s12 := Same.put (o := .lst [.ref p, .ref q, .ref r2]) (s10.trans t3) c0
  have u7 : ∀ {a : Addr} {xs : List Int}, a ≠ c → TI H10 a xs → TI (upd (upd H10 z (.tup [])) c (.lst [.ref p, .ref q, .ref r2])) a xs := fun {a xs} n h => by show upd _ c _ a = _; rw [upd_ne n]; exact t3 _ _ h
  exact ⟨_, rfl, k _ _ s12 ⟨c, q, r2, rfl, upd_same, u7 pc hp10, u7 qc hq10, u7 rc hr10⟩⟩
end
end Xq

namespace Xq
open PySem PySem.Spec PyProof.Rows L2
/-- how often the sign changes, of 2 - 4 x + x x -/
def chgC (t : Int) : Int := if t = 2 ∨ t = 3 then 1 else if t ≤ 0 then 2 else 0
def Six (t : Int) : Prop := t = -5 ∨ t = 5 ∨ t = 0 ∨ t = 2 ∨ t = 3 ∨ t = 4
/-- the signs that come out -/
def Bs (bs : List Bool) (n : Int) : Prop := (bs = [true, false, true] ∧ n = 2) ∨ (bs = [true, true, true] ∧ n = 0) ∨ (bs = [false, true, true] ∧ n = 1) ∨ (bs = [false, true] ∧ n = 1)
section
variable {P : Program} {w : World} {K : PySem.W.Frag} {mg : Str → Option Value} {base : Heap}
abbrev nCh : List Str := ["chain", "top", "bottom", "values", "signs", "terms", "value", "left", "right"]
theorem s37 : FnScope nCh ["chain", "top", "bottom"] (defScope (top 38)) := (⟨rfl, rfl, rfl, by decide +kernel, rfl, by decide +kernel, by decide +kernel⟩)
abbrev spVal : Sp := OrS spVal1 (OrS spVal2 spVal3)
abbrev spChg : Sp := Prm (α := Addr × Addr × Addr × Addr × Int) (fun ⟨c, p, q, r, t⟩ => [.ref c, .int t, .int 1]) (fun ⟨c, p, q, r, t⟩ H => Ch H c p q r ∧ Six t) (fun ⟨c, p, q, r, t⟩ H v H' => v = .int (chgC t))
theorem c_chg (D : Df K mg "changes" (top 38)) (B : Bl mg) (C : Cal P w K mg base 1 "value_at" ["terms", "top", "bottom"] spVal) : Cal P w K mg base 2 "changes" ["chain", "top", "bottom"] spChg := by
  refine mkC D s37 (fun _ _ _ _ _ _ us hl => match us, hl with | [_, _, _], _ => rfl) (fun _ => rfl) (fun f cdv A outer s H a Q E hr h k => ?_)
  obtain ⟨c, p, q, r, t⟩ := a
  obtain ⟨hc, h6⟩ := h
  have h6 : Six t := h6
  obtain ⟨hc, hp, hq, hr0⟩ := hc
  have hc : H c = some (.lst [.ref p, .ref q, .ref r]) := hc
  have hp : TI H p [2, -4, 1] := hp
  have hq : TI H q [-4, 2] := hq
  have hr0 : TI H r [1] := hr0
  have k : ∀ v H', Same H H' → v = .int (chgC t) → Q v H' := k
  refine ⟨_, pss_cons (ps_setLc (i := 3) (own := [("terms", 5)]) (g := gName 5) (tt := tYes) (te := tCall spVal [] E0 (tCons (tVar 5) (tCons (tVar 1) (tCons (tVar 2) tNil)))) rfl s37.nd rfl rfl (sw_true rfl rfl rfl (by decide +kernel)) (pi_list (pv 0))
      (blkOk_by (N := nCh) (sc := defScope (top 38)) (by decide +kernel)) (fun _ _ _ _ _ => (pg_name (i := 5) (FnScope.nd s37) rfl (Or.inl rfl))) (fun _ _ _ _ _ => pts_nil)
      (fun _ _ _ _ _ => pe_cl C hr (pa_cons (pv 5) (pa_cons (pv 1) (pa_cons (pv 2) pa_nil)))))
    (pss_cons (ps_setLc (i := 4) (own := [("value", 6)]) (g := gName 6) (tt := tTest (tOp rNe (tVar 6) (tC (.int 0)))) (te := tOp (rI0 fun i j => .bl (decide (j < i))) (tVar 6) (tC (.int 0))) rfl s37.nd rfl rfl (sw_true rfl rfl rfl (by decide +kernel)) (pi_list (pv 3))
      (blkOk_by (N := nCh) (sc := defScope (top 38)) (by decide +kernel)) (fun _ _ _ _ _ => (pg_name (i := 6) (FnScope.nd s37) rfl (Or.inl rfl))) (fun _ _ _ _ _ => pts_one ((pt_cmpR op_ne (pv 6) pe_int (nomark _))))
      (fun _ _ _ _ _ => pe_cmpR op_gt (pv 6) pe_int (nomark _)))
    (pss_one (ps_ret ((pe_callB call_len_seq (by rfl) (Bl.len_ B) PySem.boot_len (pa_cons (pe_lc (own := [("left", 7), ("right", 8)]) (g := gTup K 2 (gCons (gName 7) (gCons (gName 8) gNil))) (tt := tTest (tOp rNe (tVar 7) (tVar 8))) (te := tVar 7) rfl s37.nd (pi_zip (by rfl) B.zip_ (pa_cons (pv 4) (pa_cons (pe_slice sl_list (pv 4) (po_some pe_int) po_none) pa_nil)))
      (blkOk_by (N := nCh) (sc := defScope (top 38)) (by decide +kernel)) (fun _ _ _ _ _ => pg_tup rfl (pgs_cons ((pg_name (i := 7) (FnScope.nd s37) rfl (Or.inl rfl))) (pgs_cons ((pg_name (i := 8) (FnScope.nd s37) rfl (Or.inl rfl))) pgs_nil))) (fun _ _ _ _ _ => pts_one ((pt_cmpR op_ne (pv 7) (pv 8) (nomark _))))
      (fun _ _ _ _ _ => pv 7)) pa_nil)))))), ?_⟩
  -- the values
  refine ⟨_, rfl, c, rfl, ⟨_, SqL.of hc⟩, fun D hD => lc_yes (G := fun H => SqL K H c [.ref p, .ref q, .ref r]) (xs := [.ref p, .ref q, .ref r]) walk_list ?_⟩
  have s1 := same_new (o := .lst []) hD
  have d1 : ∀ HH : Hp, ∀ o, (upd HH D o) D = some o := fun _ _ => upd_same
  have bt : Sm 80 t := by
    rcases h6 with rfl | rfl | rfl | rfl | rfl | rfl <;> decide
  refine ⟨SqL.of (s1 _ _ hc), rfl, _, rfl, _, rfl, _, rfl, ?_⟩
  refine .inr (.inr ⟨(p, 2, -4, 1, t, 1), rfl, ⟨TI.same s1 hp, (by show Sm 20 (2 : Int); decide), (by show Sm 20 (-4 : Int); decide), (by show Sm 20 (1 : Int); decide), bt, (by show Sm 80 (1 : Int); decide)⟩, ?_⟩)
  rintro _ H2 s2 rfl
  refine ⟨_, s2 _ _ (d1 _ _), by decide, ?_⟩
  have t3 := Same.put (o := .lst [.int (v3 2 (-4) 1 t 1)]) (s1.trans s2) hD
  refine ⟨SqL.of (t3 _ _ hc), rfl, _, rfl, _, rfl, _, rfl, ?_⟩
  refine .inr (.inl ⟨(q, -4, 2, t), rfl, ⟨TI.same t3 hq, (by show (-1000 : Int) ≤ 2; decide), (by show (2 : Int) ≤ 1000; decide)⟩, ?_⟩)
  rintro _ H3 s3 rfl
  refine ⟨_, s3 _ _ (d1 _ _), (by show 1 < sizeLine; decide), ?_⟩
  have t4 := Same.put (o := .lst [.int (v3 2 (-4) 1 t 1), .int (2 * t + -4)]) (t3.trans s3) hD
  refine ⟨SqL.of (t4 _ _ hc), rfl, _, rfl, _, rfl, _, rfl, ?_⟩
  refine .inl ⟨(r, 1, t, 1), rfl, .inr (TI.same t4 hr0), ?_⟩
  rintro _ H4 s4 rfl
  refine ⟨_, s4 _ _ (d1 _ _), (by show 2 < sizeLine; decide), ?_⟩
  have t5 := Same.put (o := .lst [.int (v3 2 (-4) 1 t 1), .int (2 * t + -4), .int 1]) (t4.trans s4) hD
  have d5 : ∀ HH : Hp, (upd HH D (.lst [.int (v3 2 (-4) 1 t 1), .int (2 * t + -4), .int 1])) D = some (.lst [.int (v3 2 (-4) 1 t 1), .int (2 * t + -4), .int 1]) := fun _ => upd_same
  refine ⟨SqL.of (t5 _ _ hc), ?_⟩
  -- what follows, from the signs bs at G
  have rest : ∀ (G : Addr) (bs : List Bool) (H7 : Hp), Bs bs (chgC t) → Same H H7 → H7 G = some (.lst (bs.map V.bl)) →
      tRet (tCB (fun xs H Q => ∃ p ys, xs = [.ref p] ∧ (SqL K H p ys ∨ SqT K H p ys) ∧ Q (.int ys.length) H) (tCons (tLc (iZip K (tCons (tVar 4) (tCons (tSl (rSlL K) (tVar 4) (tPart (tC (.int 1))) tNoPart) tNil))) (gTup K 2 (gCons (gName 7) (gCons (gName 8) gNil))) (tTest (tOp rNe (tVar 7) (tVar 8))) (tVar 7) [7, 8]) tNil)) { nx := fun _ H' => Q .non H', rt := Q } ((List.set (L2.start nCh [.ref c, .int t, .int 1]) 3 (some (.ref D))).set 4 (some (.ref G))) H7 := by
    intro G bs H7 hb s7 hG7
    refine ⟨_, rfl, _, rfl, _, rfl, G, _, rfl, SqL.of hG7, fun R hR => ?_⟩
    have s8 := Same.new (o := .lst (cutV (bs.map V.bl) (some 1) none)) s7 hR
    have g8 := same_new (o := .lst (cutV (bs.map V.bl) (some 1) none)) hR _ _ hG7
    have r8 : (upd H7 R (.lst (cutV (bs.map V.bl) (some 1) none))) R = some (.lst (cutV (bs.map V.bl) (some 1) none)) := upd_same
    refine ⟨G, R, _, _, rfl, SqL.of g8, SqL.of r8, fun M hM => lc_unrZ (xs := bs.map V.bl) (ys := cutV (bs.map V.bl) (some 1) none) ?_⟩
    have m0 : H M = none := new_of s8 hM
    have s9 := Same.new (o := .lst []) s8 hM
    have z9 := same_new (o := .lst []) hM
    have m9 : ∀ HH : Hp, ∀ o, (upd HH M o) M = some o := fun _ _ => upd_same
    generalize upd H7 R (.lst (cutV (bs.map V.bl) (some 1) none)) = H8 at s8 g8 r8 hM s9 z9 ⊢
    rcases hb with ⟨rfl, hn⟩ | ⟨rfl, hn⟩ | ⟨rfl, hn⟩ | ⟨rfl, hn⟩
    · -- true false true
      refine ⟨⟨SqL.of (z9 _ _ g8), SqL.of (z9 _ _ r8)⟩, fun T hT => ?_⟩
      have z10 := Same.new (o := .tup [.bl true, .bl false]) z9 hT
      have s10 := Same.new (o := .tup [.bl true, .bl false]) s9 hT
      have nM : M ≠ T := ne_of_none (m9 _ _) hT
      refine ⟨T, _, rfl, SqT.of upd_same, rfl, _, _, rfl, _, _, rfl, rfl, rfl, _, rfl, _, rfl, rfl, _, rfl, ?_⟩
      refine ⟨_, rfl, _, (upd_ne nM).trans upd_same, by decide, ?_⟩
      have s11 := Same.put (o := .lst [.bl true]) s10 m0
      have z11 := Same.put (o := .lst [.bl true]) z10 hM
      refine ⟨⟨SqL.of (z11 _ _ g8), SqL.of (z11 _ _ r8)⟩, fun T2 hT2 => ?_⟩
      have z12 := Same.new (o := .tup [.bl false, .bl true]) z11 hT2
      have s12 := Same.new (o := .tup [.bl false, .bl true]) s11 hT2
      have nM2 : M ≠ T2 := ne_of_none (m9 _ _) hT2
      refine ⟨T2, _, rfl, SqT.of upd_same, rfl, _, _, rfl, _, _, rfl, rfl, rfl, _, rfl, _, rfl, rfl, _, rfl, ?_⟩
      refine ⟨_, rfl, _, (upd_ne nM2).trans upd_same, (by show 1 < sizeLine; decide), ?_⟩
      have s13 := Same.put (o := .lst [.bl true, .bl false]) s12 m0
      have z13 := Same.put (o := .lst [.bl true, .bl false]) z12 hM
      refine ⟨⟨SqL.of (z13 _ _ g8), SqL.of (z13 _ _ r8)⟩, M, [.bl true, .bl false], rfl, .inl (SqL.of upd_same), k _ _ s13 ?_⟩
      rw [hn]
      rfl
    · -- true true true
      refine ⟨⟨SqL.of (z9 _ _ g8), SqL.of (z9 _ _ r8)⟩, fun T hT => ?_⟩
      have z10 := Same.new (o := .tup [.bl true, .bl true]) z9 hT
      have s10 := Same.new (o := .tup [.bl true, .bl true]) s9 hT
      have nM : M ≠ T := ne_of_none (m9 _ _) hT
      refine ⟨T, _, rfl, SqT.of upd_same, rfl, _, _, rfl, _, _, rfl, rfl, rfl, _, rfl, _, rfl, rfl, _, rfl, ?_⟩
      refine ⟨⟨SqL.of (z10 _ _ g8), SqL.of (z10 _ _ r8)⟩, fun T2 hT2 => ?_⟩
      have z12 := Same.new (o := .tup [.bl true, .bl true]) z10 hT2
      have s12 := Same.new (o := .tup [.bl true, .bl true]) s10 hT2
      have nM2 : M ≠ T2 := ne_of_none ((upd_ne nM).trans (m9 _ _)) hT2
      refine ⟨T2, _, rfl, SqT.of upd_same, rfl, _, _, rfl, _, _, rfl, rfl, rfl, _, rfl, _, rfl, rfl, _, rfl, ?_⟩
      refine ⟨⟨SqL.of (z12 _ _ g8), SqL.of (z12 _ _ r8)⟩, M, [], rfl, .inl (SqL.of ((upd_ne nM2).trans ((upd_ne nM).trans upd_same))), k _ _ s12 ?_⟩
      rw [hn]
      rfl
    · -- false true true
      refine ⟨⟨SqL.of (z9 _ _ g8), SqL.of (z9 _ _ r8)⟩, fun T hT => ?_⟩
      have z10 := Same.new (o := .tup [.bl false, .bl true]) z9 hT
      have s10 := Same.new (o := .tup [.bl false, .bl true]) s9 hT
      have nM : M ≠ T := ne_of_none (m9 _ _) hT
      refine ⟨T, _, rfl, SqT.of upd_same, rfl, _, _, rfl, _, _, rfl, rfl, rfl, _, rfl, _, rfl, rfl, _, rfl, ?_⟩
      refine ⟨_, rfl, _, (upd_ne nM).trans upd_same, by decide, ?_⟩
      have s11 := Same.put (o := .lst [.bl false]) s10 m0
      have z11 := Same.put (o := .lst [.bl false]) z10 hM
      refine ⟨⟨SqL.of (z11 _ _ g8), SqL.of (z11 _ _ r8)⟩, fun T2 hT2 => ?_⟩
      have z12 := Same.new (o := .tup [.bl true, .bl true]) z11 hT2
      have s12 := Same.new (o := .tup [.bl true, .bl true]) s11 hT2
      have nM2 : M ≠ T2 := ne_of_none (m9 _ _) hT2
      refine ⟨T2, _, rfl, SqT.of upd_same, rfl, _, _, rfl, _, _, rfl, rfl, rfl, _, rfl, _, rfl, rfl, _, rfl, ?_⟩
      refine ⟨⟨SqL.of (z12 _ _ g8), SqL.of (z12 _ _ r8)⟩, M, [.bl false], rfl, .inl (SqL.of ((upd_ne nM2).trans upd_same)), k _ _ s12 ?_⟩
      rw [hn]
      rfl
    · -- false true
      refine ⟨⟨SqL.of (z9 _ _ g8), SqL.of (z9 _ _ r8)⟩, fun T hT => ?_⟩
      have z10 := Same.new (o := .tup [.bl false, .bl true]) z9 hT
      have s10 := Same.new (o := .tup [.bl false, .bl true]) s9 hT
      have nM : M ≠ T := ne_of_none (m9 _ _) hT
      refine ⟨T, _, rfl, SqT.of upd_same, rfl, _, _, rfl, _, _, rfl, rfl, rfl, _, rfl, _, rfl, rfl, _, rfl, ?_⟩
      refine ⟨_, rfl, _, (upd_ne nM).trans upd_same, by decide, ?_⟩
      have s11 := Same.put (o := .lst [.bl false]) s10 m0
      have z11 := Same.put (o := .lst [.bl false]) z10 hM
      refine ⟨⟨SqL.of (z11 _ _ g8), SqL.of (z11 _ _ r8)⟩, M, [.bl false], rfl, .inl (SqL.of upd_same), k _ _ s11 ?_⟩
      rw [hn]
      rfl
  -- the signs
  have dd := d5 H4
  have key : ∃ v0 v1 : Int, v3 2 (-4) 1 t 1 = v0 ∧ 2 * t + -4 = v1 ∧ v0 ≠ 0 ∧ ((v1 ≠ 0 ∧ Bs [decide (0 < v0), decide (0 < v1), true] (chgC t)) ∨ (v1 = 0 ∧ Bs [decide (0 < v0), true] (chgC t))) := by
    rcases h6 with rfl | rfl | rfl | rfl | rfl | rfl
    · exact ⟨_, _, rfl, rfl, by decide, .inl ⟨by decide, .inl ⟨by decide, by decide⟩⟩⟩
    · exact ⟨_, _, rfl, rfl, by decide, .inl ⟨by decide, .inr (.inl ⟨by decide, by decide⟩)⟩⟩
    · exact ⟨_, _, rfl, rfl, by decide, .inl ⟨by decide, .inl ⟨by decide, by decide⟩⟩⟩
    · exact ⟨_, _, rfl, rfl, by decide, .inr ⟨by decide, .inr (.inr (.inr ⟨by decide, by decide⟩))⟩⟩
    · exact ⟨_, _, rfl, rfl, by decide, .inl ⟨by decide, .inr (.inr (.inl ⟨by decide, by decide⟩))⟩⟩
    · exact ⟨_, _, rfl, rfl, by decide, .inl ⟨by decide, .inr (.inl ⟨by decide, by decide⟩)⟩⟩
  obtain ⟨v0, v1, e0, e1, n0, key⟩ := key
  show tSeq _ _ _ _ (upd H4 D (.lst [.int (v3 2 (-4) 1 t 1), .int (2 * t + -4), .int 1]))
  rw [e0, e1] at dd t5 ⊢
  generalize upd H4 D (.lst [.int v0, .int v1, .int 1]) = H5 at t5 dd ⊢
  clear d5 d1 t4 t3 s1 s2 s3 s4
  have ne_int : ∀ i : Int, ¬ (i = 0) → (!decide (V.int i = V.int 0)) = true := fun i hi => by rw [dec_int]; simpa using hi
  have eq_int : ∀ i : Int, i = 0 → (!decide (V.int i = V.int 0)) = false := fun i hi => by rw [dec_int]; simpa using hi
  refine ⟨_, rfl, D, rfl, ⟨_, SqL.of dd⟩, fun G hG => lc_unr (G := fun H => SqL K H D [.int v0, .int v1, .int 1]) (xs := [.int v0, .int v1, .int 1]) walk_list ?_⟩
  have nDG : D ≠ G := ne_of_none dd hG
  have g5 : ∀ HH : Hp, ∀ o, (upd HH G o) G = some o := fun _ _ => upd_same
  have z5 : ∀ o, (upd H5 G o) D = some (.lst [.int v0, .int v1, .int 1]) := fun o => (upd_ne nDG).trans dd
  refine ⟨SqL.of (z5 _), rfl, _, rfl, rfl, _, rfl, ?_⟩
  rw [ne_int _ n0]
  refine iteT ⟨_, rfl, _, _, rfl, rfl, _, g5 _ _, by decide, ?_⟩
  rw [upd_upd]
  refine ⟨SqL.of (z5 _), rfl, _, rfl, rfl, _, rfl, ?_⟩
  rcases key with ⟨n1, hb⟩ | ⟨n1, hb⟩
  · rw [ne_int _ n1]
    refine iteT ⟨_, rfl, _, _, rfl, rfl, _, g5 _ _, (by show 1 < sizeLine; decide), ?_⟩
    rw [upd_upd]
    refine ⟨SqL.of (z5 _), rfl, _, rfl, rfl, _, rfl, ?_⟩
    rw [ne_int 1 (by decide)]
    refine iteT ⟨_, rfl, _, _, rfl, rfl, _, g5 _ _, (by show 2 < sizeLine; decide), ?_⟩
    rw [upd_upd]
    exact ⟨SqL.of (z5 _), rest G _ _ hb (Same.new t5 hG) upd_same⟩
  · rw [eq_int _ n1]
    refine iteF ⟨SqL.of (z5 _), rfl, _, rfl, rfl, _, rfl, ?_⟩
    rw [ne_int 1 (by decide)]
    refine iteT ⟨_, rfl, _, _, rfl, rfl, _, g5 _ _, (by show 1 < sizeLine; decide), ?_⟩
    rw [upd_upd]
    exact ⟨SqL.of (z5 _), rest G _ _ hb (Same.new t5 hG) upd_same⟩
end
end Xq

namespace Xq
open PySem PySem.Spec PyProof.Rows L2
section
variable {P : Program} {w : World} {K : PySem.W.Frag} {mg : Str → Option Value} {base : Heap}
theorem s38 : FnScope ["terms", "term"] ["terms"] (defScope (top 39)) := (⟨rfl, rfl, rfl, by decide +kernel, rfl, by decide +kernel, by decide +kernel⟩)
abbrev spReach : Sp := Prm (α := Addr) (fun a => [.ref a]) (fun a H => TI H a [2, -4, 1]) (fun a H v H' => v = .int 5)
theorem c_reach (D : Df K mg "reach" (top 39)) (B : Bl mg) : Cal P w K mg base 1 "reach" ["terms"] spReach := by
  refine mkC D s38 (fun _ _ _ _ _ _ us hl => match us, hl with | [_], _ => rfl) (fun _ => rfl) (fun f cdv A outer s H p Q E hr h1 k => ?_)
  have h10 : H p = some (.tup [.int 2, .int (-4), .int 1]) := h1
  refine ⟨_, pss_one (ps_ret (pe_op op_add pe_int (pe_callB (cr_max rfl) (by rfl) B.max_ PyProof.Rows.boot_max (pa_cons
    (pe_lc (own := [("term", 1)]) (g := gName 1) (tt := tYes) (te := tCB (fun xs H Q => ∃ i, xs = [.int i] ∧ Q (.int (if i < 0 then -i else i)) H) (tCons (tVar 1) tNil)) rfl s38.nd (pi_tup (pv 0))
      (blkOk_by (N := ["terms", "term"]) (sc := defScope (top 39)) (by decide +kernel)) (fun _ _ _ _ _ => (pg_name (i := 1) (FnScope.nd s38) rfl (Or.inl rfl))) (fun _ _ _ _ _ => pts_nil)
      (fun _ _ _ _ _ => pe_callB call_abs (by rfl) B.abs_ PyProof.Rows.boot_abs (pa_cons (pv 1) pa_nil))) pa_nil)))), ?_⟩
  refine ⟨_, rfl, p, rfl, ⟨_, SqT.of h10⟩, fun D hD => lc_yes (G := fun H => SqT K H p [.int 2, .int (-4), .int 1]) (xs := [.int 2, .int (-4), .int 1]) walk_tup ?_⟩
  have s1 := same_new (o := .lst []) hD
  refine ⟨SqT.of (s1 _ _ h10), rfl, _, rfl, 2, rfl, _, upd_same, by decide, ?_⟩
  rw [upd_upd]
  have s2 := same_new (o := .lst [.int 2]) hD
  refine ⟨SqT.of (s2 _ _ h10), rfl, _, rfl, -4, rfl, _, upd_same, (by show 1 < sizeLine; decide), ?_⟩
  rw [upd_upd]
  have s3 := same_new (o := .lst [.int 2, .int 4]) hD
  refine ⟨SqT.of (s3 _ _ h10), rfl, _, rfl, 1, rfl, _, upd_same, (by show 2 < sizeLine; decide), ?_⟩
  rw [upd_upd]
  have s4 := same_new (o := .lst [.int 2, .int 4, .int 1]) hD
  refine ⟨SqT.of (s4 _ _ h10), D, [2, 4, 1], rfl, SqL.of upd_same, (by show 0 < 3; decide), fun m hm hle => ?_⟩
  refine ⟨_, _, rfl, rfl, k _ _ s4 ?_⟩
  have a2 := hle 4 (by simp)
  have em : m = 4 := by
    simp only [List.mem_cons, List.not_mem_nil, or_false] at hm
    omega
  subst em
  rfl
theorem s39 : FnScope ["chain", "top", "bottom"] ["chain", "top", "bottom"] (defScope (top 40)) := (⟨rfl, rfl, rfl, by decide +kernel, rfl, by decide +kernel, by decide +kernel⟩)
abbrev spUpTo : Sp := Prm (α := Addr × Addr × Addr × Addr × Int) (fun ⟨c, p, q, r, t⟩ => [.ref c, .int t, .int 1]) (fun ⟨c, p, q, r, t⟩ H => Ch H c p q r ∧ Six t) (fun ⟨c, p, q, r, t⟩ H v H' => v = .int (2 - chgC t))
theorem c_upto (D : Df K mg "roots_up_to" (top 40)) (C : Cal P w K mg base 2 "changes" ["chain", "top", "bottom"] spChg) (CR : Cal P w K mg base 1 "reach" ["terms"] spReach) : Cal P w K mg base 3 "roots_up_to" ["chain", "top", "bottom"] spUpTo := by
  refine mkC D s39 (fun _ _ _ _ _ _ us hl => match us, hl with | [_, _, _], _ => rfl) (fun _ => rfl) (fun f cdv A outer s H a Q E hr h k => ?_)
  obtain ⟨c, p, q, r, t⟩ := a
  obtain ⟨hc, h6⟩ := h
  have hc : Ch H c p q r := hc
  have h6 : Six t := h6
  have k : ∀ v H', Same H H' → v = .int (2 - chgC t) → Q v H' := k
  refine ⟨_, pss_one (ps_ret (pe_op op_sub (pe_cl C hr (pa_cons (pv 0) (pa_cons (pe_un un_neg (pe_cl CR hr (pa_cons ((pe_ix ix_list (pv 0) pe_int (fun _ _ => rfl))) pa_nil))) (pa_cons pe_int pa_nil)))) (pe_cl C hr (pa_cons (pv 0) (pa_cons (pv 1) (pa_cons (pv 2) pa_nil)))))), ?_⟩
  refine ⟨_, rfl, _, rfl, c, _, _, .ref p, rfl, rfl, SqL.of hc.1, atI_nat (j := 0) rfl, ?_⟩
  refine ⟨p, rfl, hc.2.1, ?_⟩
  rintro _ H1 s1 rfl
  refine ⟨5, rfl, (c, p, q, r, -5), rfl, ⟨hc.same s1, .inl rfl⟩, ?_⟩
  rintro _ H2 s2 rfl
  refine ⟨_, rfl, _, rfl, _, rfl, (c, p, q, r, t), rfl, ⟨hc.same (s1.trans s2), h6⟩, ?_⟩
  rintro _ H3 s3 rfl
  exact ⟨_, _, rfl, rfl, k _ _ (s1.trans (s2.trans s3)) rfl⟩
theorem s40 : FnScope ["chain"] ["chain"] (defScope (top 41)) := (⟨rfl, rfl, rfl, by decide +kernel, rfl, by decide +kernel, by decide +kernel⟩)
abbrev spAll : Sp := Prm (α := Addr × Addr × Addr × Addr) (fun ⟨c, p, q, r⟩ => [.ref c]) (fun ⟨c, p, q, r⟩ H => Ch H c p q r) (fun _ H v H' => v = .int 2)
theorem c_all (D : Df K mg "roots_in_all" (top 41)) (C : Cal P w K mg base 3 "roots_up_to" ["chain", "top", "bottom"] spUpTo) (CR : Cal P w K mg base 1 "reach" ["terms"] spReach) : Cal P w K mg base 4 "roots_in_all" ["chain"] spAll := by
  refine mkC D s40 (fun _ _ _ _ _ _ us hl => match us, hl with | [_], _ => rfl) (fun _ => rfl) (fun f cdv A outer s H a Q E hr h k => ?_)
  obtain ⟨c, p, q, r⟩ := a
  have hc : Ch H c p q r := h
  refine ⟨_, pss_one (ps_ret (pe_cl C hr (pa_cons (pv 0) (pa_cons (pe_cl CR hr (pa_cons ((pe_ix ix_list (pv 0) pe_int (fun _ _ => rfl))) pa_nil)) (pa_cons pe_int pa_nil))))), ?_⟩
  refine ⟨_, rfl, _, rfl, c, _, _, .ref p, rfl, rfl, SqL.of hc.1, atI_nat (j := 0) rfl, ?_⟩
  refine ⟨p, rfl, hc.2.1, ?_⟩
  rintro _ H1 s1 rfl
  refine ⟨(c, p, q, r, 5), rfl, ⟨hc.same s1, .inr (.inl rfl)⟩, ?_⟩
  rintro _ H2 s2 rfl
  exact k _ _ (s1.trans s2) rfl
abbrev nL : List Str := ["equation", "rank", "chain", "low", "high", "bits", "middle"]
theorem s44 : FnScope nL ["equation", "rank"] (defScope (top 45)) := (⟨rfl, rfl, rfl, by decide +kernel, rfl, by decide +kernel, by decide +kernel⟩)
abbrev spLone : Sp := Prm (α := Addr) (fun a => [.ref a, .int 1]) (fun a H => TI H a [2, -4, 1]) (fun a H v H' => ∃ r, v = .ref r ∧ TI H' r [3, 0])
theorem c_lone (D : Df K mg "lonely_stretch" (top 45)) (CS : Cal P w K mg base 4 "sturm_chain" ["terms"] spSturm) (CR : Cal P w K mg base 1 "reach" ["terms"] spReach) (CC : Cal P w K mg base 2 "changes" ["chain", "top", "bottom"] spChg) (CU : Cal P w K mg base 3 "roots_up_to" ["chain", "top", "bottom"] spUpTo) : Cal P w K mg base 5 "lonely_stretch" ["equation", "rank"] spLone := by
  refine mkC D s44 (fun _ _ _ _ _ _ us hl => match us, hl with | [_, _], _ => rfl) (fun _ => rfl) (fun f cdv A outer s H p Q E hr h k => ?_)
  have h : TI H p [2, -4, 1] := h
  refine ⟨_, pss_cons ((ps_set (i := 2) (FnScope.nd s44) rfl (Or.inl rfl) (pe_cl CS hr (pa_cons (pv 0) pa_nil))))
    (pss_cons (ps_par3 (i := 3) (j := 4) (l := 5) rfl s44.nd rfl rfl rfl (by decide) (by decide) (by decide) rfl rfl rfl (pa_cons pe_int (pa_cons (pe_cl CR hr (pa_cons (pv 0) pa_nil)) (pa_cons pe_int pa_nil))) rfl)
    (pss_cons (ps_whU PassesOwn.never (PW.pt (pw_or ((pt_cmpR op_gt (pe_op op_sub (pv 4) (pv 3)) pe_int (nomark _))) (pw_or1 ((pt_cmpR op_gt (pe_op op_sub (pe_cl CC hr (pa_cons (pv 2) (pa_cons (pv 3) (pa_cons (pe_op op_shl pe_int (pv 5)) pa_nil)))) (pe_cl CC hr (pa_cons (pv 2) (pa_cons (pv 4) (pa_cons (pe_op op_shl pe_int (pv 5)) pa_nil))))) pe_int (nomark _))))))
      (pss_cons (ps_if ((pt_cmpR op_eq (pe_op op_sub (pv 4) (pv 3)) pe_int (nomark _))) pss_nv pss_nil)
      (pss_cons ((ps_set (i := 6) (FnScope.nd s44) rfl (Or.inl rfl) (pe_op op_fdiv (pe_op op_add (pv 3) (pv 4)) pe_int)))
      (pss_one (ps_if ((pt_cmpR op_gt (pe_cl CU hr (pa_cons (pv 2) (pa_cons (pv 6) (pa_cons (pe_op op_shl pe_int (pv 5)) pa_nil)))) (pv 1) (nomark _))) (pss_one ((ps_set (i := 4) (FnScope.nd s44) rfl (Or.inl rfl) (pv 6)))) (pss_one ((ps_set (i := 3) (FnScope.nd s44) rfl (Or.inl rfl) (pv 6)))))))))
    (pss_one (ps_ret (pe_tup (pa_cons (pv 3) (pa_cons (pv 5) pa_nil))))))), ?_⟩
  refine ⟨_, rfl, p, rfl, h, ?_⟩
  rintro _ H1 s1 ⟨c, q, r, rfl, hc⟩
  have hc : Ch H1 c p q r := hc
  refine ⟨_, rfl, p, rfl, TI.same s1 h, ?_⟩
  rintro _ H2 s2 rfl
  refine ⟨_, _, _, rfl, ?_⟩
  have hc2 := hc.same s2
  have p1 : CPow 1 0 := ⟨by decide, by decide, by decide⟩
  -- 0, 5
  refine ⟨3, _, rfl, _, rfl, _, _, rfl, rfl, _, _, rfl, rfl, _, rfl, iteT ?_⟩
  refine ⟨_, rfl, _, rfl, _, _, rfl, rfl, rfl, _, rfl, iteF ?_⟩
  refine ⟨_, rfl, _, rfl, _, _, rfl, rfl, _, _, rfl, rfl, ⟨by decide, by decide⟩, ?_⟩
  refine ⟨_, rfl, _, rfl, _, rfl, _, _, rfl, rfl, p1, (c, p, q, r, 2), rfl, ⟨hc2, .inr (.inr (.inr (.inl rfl)))⟩, ?_⟩
  rintro _ H3 s3 rfl
  have hc3 := hc2.same s3
  refine ⟨_, rfl, _, _, rfl, rfl, _, rfl, iteF ⟨_, rfl, ?_⟩⟩
  -- 2, 5
  refine ⟨_, rfl, _, rfl, _, _, rfl, rfl, _, _, rfl, rfl, _, rfl, iteT ?_⟩
  refine ⟨_, rfl, _, rfl, _, _, rfl, rfl, rfl, _, rfl, iteF ?_⟩
  refine ⟨_, rfl, _, rfl, _, _, rfl, rfl, _, _, rfl, rfl, ⟨by decide, by decide⟩, ?_⟩
  refine ⟨_, rfl, _, rfl, _, rfl, _, _, rfl, rfl, p1, (c, p, q, r, 3), rfl, ⟨hc3, .inr (.inr (.inr (.inr (.inl rfl))))⟩, ?_⟩
  rintro _ H4 s4 rfl
  have hc4 := hc3.same s4
  refine ⟨_, rfl, _, _, rfl, rfl, _, rfl, iteF ⟨_, rfl, ?_⟩⟩
  -- 3, 5
  refine ⟨_, rfl, _, rfl, _, _, rfl, rfl, _, _, rfl, rfl, _, rfl, iteT ?_⟩
  refine ⟨_, rfl, _, rfl, _, _, rfl, rfl, rfl, _, rfl, iteF ?_⟩
  refine ⟨_, rfl, _, rfl, _, _, rfl, rfl, _, _, rfl, rfl, ⟨by decide, by decide⟩, ?_⟩
  refine ⟨_, rfl, _, rfl, _, rfl, _, _, rfl, rfl, p1, (c, p, q, r, 4), rfl, ⟨hc4, .inr (.inr (.inr (.inr (.inr rfl))))⟩, ?_⟩
  rintro _ H5 s5 rfl
  have hc5 := hc4.same s5
  refine ⟨_, rfl, _, _, rfl, rfl, _, rfl, iteT ⟨_, rfl, ?_⟩⟩
  -- 3, 4
  refine ⟨_, rfl, _, rfl, _, _, rfl, rfl, _, _, rfl, rfl, _, rfl, iteF ?_⟩
  refine ⟨_, rfl, _, rfl, _, rfl, _, _, rfl, rfl, p1, (c, p, q, r, 3), rfl, ⟨hc5, .inr (.inr (.inr (.inr (.inl rfl))))⟩, ?_⟩
  rintro _ H6 s6 rfl
  refine ⟨_, rfl, _, rfl, _, rfl, _, _, rfl, rfl, p1, (c, p, q, r, 4), rfl, ⟨hc5.same s6, .inr (.inr (.inr (.inr (.inr rfl))))⟩, ?_⟩
  rintro _ H7 s7 rfl
  refine ⟨_, _, rfl, rfl, _, _, rfl, rfl, _, rfl, rfl, ?_⟩
  refine ⟨_, rfl, _, rfl, (by show 2 ≤ sizeLine; decide), fun r hr2 => ?_⟩
  exact k _ _ (s1.trans (s2.trans (s3.trans (s4.trans (s5.trans (s6.trans (Same.new s7 hr2))))))) ⟨r, rfl, upd_same⟩
end
end Xq

namespace Xq
open PySem PySem.Spec PyProof.Rows L2
def pw (b : Nat) : Int := 1 * 2 ^ b
theorem sm_pw {b n : Nat} (h : b < n) : Sm n (pw b) := by
  unfold pw Sm
  rw [Int.one_mul, Int.natAbs_pow]
  exact Nat.pow_lt_pow_right (by decide) h
def vP (t b : Int) : Int := v3 2 (-4) 1 t b
def ng (t b : Int) : Bool := decide (vP t b < 0)
/-- where it is looked for first -/
def plc (near : Int) (b s : Nat) : Int := near * 2 ^ s + (vP near (pw b) * 2 ^ s).fdiv (vP near (pw b) - vP (near + 1) (pw b))
def adj (near : Int) (b s : Nat) : Int :=
  if ng (plc near b s) (pw (b + s)) = ng near (pw b) then (if ng (plc near b s + 1) (pw (b + s)) = ng near (pw b) then plc near b s + 1 else plc near b s) else plc near b s - 1
/-- z is told, and all is small -/
def gdB (near : Int) (b s : Nat) (z : Int) : Bool :=
  decide (near.natAbs < 2 ^ 78) && decide (b + s < 78) && decide (vP near (pw b) - vP (near + 1) (pw b) ≠ 0) && decide ((plc near b s).natAbs < 2 ^ 78) && decide ((adj near b s).natAbs < 2 ^ 78) &&
    decide (adj near b s = z) && decide (ng z (pw (b + s)) = ng near (pw b)) && !decide (ng (z + 1) (pw (b + s)) = ng near (pw b))
theorem turn1 : gdB 3 0 1 6 = true := by decide +kernel
theorem turn2 : gdB 6 1 2 27 = true := by decide +kernel
theorem turn3 : gdB 27 3 4 437 = true := by decide +kernel
theorem turn4 : gdB 437 7 8 111876 = true := by decide +kernel
theorem turn5 : gdB 111876 15 16 7331967795 = true := by decide +kernel
theorem turn6 : gdB 7331967795 31 32 31490561899042333828 = true := by decide +kernel
theorem turn7 : gdB 31490561899042333828 63 1 62981123798084667656 = true := by decide +kernel
section
variable {P : Program} {w : World} {K : PySem.W.Frag} {mg : Str → Option Value} {base : Heap}
theorem sm_up {i : Int} {n : Nat} (h : i.natAbs < 2 ^ n) : Sm n i := h
theorem vP_sm {t b : Int} (ht : Sm 80 t) (hb : Sm 80 b) : Sm 184 (vP t b) := by
  have h2 : Sm 20 (2 : Int) := by decide
  have h4 : Sm 20 (-4 : Int) := by decide
  have h1 : Sm 20 (1 : Int) := by decide
  have a : Sm 101 (1 * t + -4 * b) := sm_add (sm_mul h1 ht) (sm_mul h4 hb)
  have c : Sm 181 ((1 * t + -4 * b) * t) := sm_mul a ht
  have d : Sm 180 (2 * (b * b)) := sm_mul h2 (sm_mul hb hb)
  exact sm_le (sm_add c (sm_le d (by decide))) (by decide)
abbrev nG : List Str := ["equation", "near", "bits", "step", "low", "high", "bottom", "place", "starts", "ends"]
theorem s47 : FnScope nG ["equation", "near", "bits", "step"] (defScope (top 47)) := (⟨rfl, rfl, rfl, by decide +kernel, rfl, by decide +kernel, by decide +kernel⟩)
abbrev spGue : Sp := Prm (α := Addr × Int × Nat × Nat × Int) (fun ⟨p, near, b, s, z⟩ => [.ref p, .int near, .int (b : Int), .int (s : Int)]) (fun ⟨p, near, b, s, z⟩ H => TI H p [2, -4, 1] ∧ gdB near b s z = true) (fun ⟨p, near, b, s, z⟩ H v H' => v = .int z)
theorem c_gue (D : Df K mg "guessed" (top 47)) (C : Cal P w K mg base 1 "value_at" ["terms", "top", "bottom"] spVal) : Cal P w K mg base 2 "guessed" ["equation", "near", "bits", "step"] spGue := by
  refine mkC D s47 (fun _ _ _ _ _ _ us hl => match us, hl with | [_, _, _, _], _ => rfl) (fun _ => rfl) (fun f cdv A outer s H a Q E hr h k => ?_)
  obtain ⟨p, near, b, st, z⟩ := a
  obtain ⟨h, hg⟩ := h
  have h : TI H p [2, -4, 1] := h
  have k : ∀ v H', Same H H' → v = .int z → Q v H' := k
  have hg : gdB near b st z = true := hg
  unfold gdB at hg
  simp only [Bool.and_eq_true, decide_eq_true_eq, Bool.not_eq_true', decide_eq_false_iff_not] at hg
  obtain ⟨⟨⟨⟨⟨⟨⟨g1, g2⟩, g3⟩, g4⟩, g5⟩, g6⟩, g7⟩, g8⟩ := hg
  have i2 : Sm 20 (2 : Int) := by decide
  have i4 : Sm 20 (-4 : Int) := by decide
  have i1 : Sm 20 (1 : Int) := by decide
  have n80 : Sm 80 near := sm_le g1 (by decide)
  have n81 : Sm 80 (near + 1) := sm_le (sm_add g1 (show Sm 78 (1 : Int) by decide)) (by decide)
  have b80 : Sm 80 (pw b) := sm_pw (by omega)
  have bs80 : Sm 80 (pw (b + st)) := sm_pw (by omega)
  -- a call
  have call : ∀ {H1 : Hp} {t bb : Int} {Qv : VK}, Same H H1 → Sm 80 t → Sm 80 bb → (∀ H2, Same H H2 → Qv (.int (vP t bb)) H2) → spVal [.ref p, .int t, .int bb] H1 Qv E0 := fun {H1 t bb Qv} s1 ht hb kk => by
    refine .inr (.inr ⟨(p, 2, -4, 1, t, bb), rfl, ⟨TI.same s1 h, i2, i4, i1, ht, hb⟩, ?_⟩)
    rintro _ H2 s2 rfl
    exact kk _ (s1.trans s2)
  refine ⟨_, pss_cons ((ps_set (i := 4) (FnScope.nd s47) rfl (Or.inl rfl) (pe_cl C hr (pa_cons (pv 0) (pa_cons (pv 1) (pa_cons (pe_op op_shlN pe_int (pv 2)) pa_nil))))))
    (pss_cons ((ps_set (i := 5) (FnScope.nd s47) rfl (Or.inl rfl) (pe_cl C hr (pa_cons (pv 0) (pa_cons (pe_op op_add (pv 1) pe_int) (pa_cons (pe_op op_shlN pe_int (pv 2)) pa_nil))))))
    (pss_cons ((ps_set (i := 6) (FnScope.nd s47) rfl (Or.inl rfl) (pe_op op_shlN pe_int (pe_op op_add (pv 2) (pv 3)))))
    (pss_cons ((ps_set (i := 7) (FnScope.nd s47) rfl (Or.inl rfl) (pe_op op_add (pe_op op_shlN (pv 1) (pv 3)) (pe_op op_fdivX (pe_op op_shlN (pv 4) (pv 3)) (pe_op op_sub (pv 4) (pv 5))))))
    (C8.pss_cut (ps_if ((pt_cmpR op_ne (pe_cmpR op_lt (pe_cl C hr (pa_cons (pv 0) (pa_cons (pv 7) (pa_cons (pv 6) pa_nil)))) pe_int (nomark _)) (pe_cmpR op_lt (pv 4) pe_int (nomark _)) (nomark _)))
        (pss_one (ps_aug (i := 7) s47.nd rfl (Or.inl rfl) pe_int ip_sub))
        (pss_one (ps_if ((pt_cmpR op_eq (pe_cmpR op_lt (pe_cl C hr (pa_cons (pv 0) (pa_cons (pe_op op_add (pv 7) pe_int) (pa_cons (pv 6) pa_nil)))) pe_int (nomark _)) (pe_cmpR op_lt (pv 4) pe_int (nomark _)) (nomark _)))
          (pss_one (ps_aug (i := 7) s47.nd rfl (Or.inl rfl) pe_int ip_add)) pss_nil)))
    (pss_cons ((ps_set (i := 8) (FnScope.nd s47) rfl (Or.inl rfl) (pe_cmpR op_eq (pe_cmpR op_lt (pe_cl C hr (pa_cons (pv 0) (pa_cons (pv 7) (pa_cons (pv 6) pa_nil)))) pe_int (nomark _)) (pe_cmpR op_lt (pv 4) pe_int (nomark _)) (nomark _))))
    (pss_cons ((ps_set (i := 9) (FnScope.nd s47) rfl (Or.inl rfl) (pe_cmpR op_ne (pe_cmpR op_lt (pe_cl C hr (pa_cons (pv 0) (pa_cons (pe_op op_add (pv 7) pe_int) (pa_cons (pv 6) pa_nil)))) pe_int (nomark _)) (pe_cmpR op_lt (pv 4) pe_int (nomark _)) (nomark _))))
    (pss_one (ps_ret (pe_ifExp (PW.pt (pw_and (pt_val (pv 8)) (pw_and1 (pt_val (pv 9))))) (pv 7) pe_non))))))))), ?_⟩
  have cs1 : CShl 1 (b : Int) := shl_ok (n := 2) (by decide) (by omega)
  refine ⟨_, rfl, _, rfl, _, rfl, 1, b, rfl, rfl, cs1, call (Same.refl _) n80 b80 fun H1 s1 => ?_⟩
  refine ⟨_, rfl, _, rfl, _, _, rfl, rfl, _, rfl, 1, b, rfl, rfl, cs1, call s1 n81 b80 fun H2 s2 => ?_⟩
  have cs2 : CShl 1 ((b + st : Nat) : Int) := shl_ok (n := 2) (by decide) (by omega)
  refine ⟨_, rfl, _, rfl, _, _, rfl, rfl, 1, b + st, rfl, rfl, cs2, ?_⟩
  have cs3 : CShl near (st : Int) := shl_ok (n := 78) g1 (by omega)
  have cs4 : CShl (vP near (pw b)) (st : Int) := shl_ok (n := 184) (vP_sm n80 b80) (by omega)
  have dv : CDivX (vP near (pw b) * 2 ^ st) (vP near (pw b) - vP (near + 1) (pw b)) := by
    refine ⟨g3, ?_⟩
    exact Nat.lt_of_lt_of_le (PySem.Flt.log2_lt_of (by decide) (sm_sub (vP_sm n80 b80) (vP_sm n81 b80))) (by decide)
  refine ⟨_, rfl, _, rfl, near, st, rfl, rfl, cs3, _, rfl, _, rfl, _, st, rfl, rfl, cs4, _, rfl, _, rfl, _, _, rfl, rfl, _, _, rfl, rfl, dv, _, _, rfl, rfl, ?_⟩
  have dT : ∀ x y : Bool, x = y → decide (V.bl x = V.bl y) = true := fun x y e => by rw [e]; exact decide_eq_true rfl
  have dF : ∀ x y : Bool, ¬ x = y → decide (V.bl x = V.bl y) = false := fun x y e => decide_eq_false fun q => e (V.bl.inj q)
  have p80 : Sm 80 (plc near b st) := sm_le g4 (by decide)
  have p81 : Sm 80 (plc near b st + 1) := sm_le (sm_add g4 (show Sm 78 (1 : Int) by decide)) (by decide)
  refine ⟨fun σ' H' => σ' = [some (.ref p), some (.int near), some (.int (b : Int)), some (.int (st : Int)), some (.int (vP near (pw b))), some (.int (vP (near + 1) (pw b))), some (.int (pw (b + st))), some (.int z), none, none] ∧ Same H H', ?_, ?_⟩
  · refine ⟨_, rfl, _, rfl, _, rfl, call s2 p80 bs80 fun H3 s3 => ⟨_, _, rfl, rfl, _, rfl, _, _, rfl, rfl, rfl, _, rfl, ?_⟩⟩
    show (if (!decide (V.bl (ng (plc near b st) (pw (b + st))) = V.bl (ng near (pw b)))) = true then _ else _)
    by_cases e : ng (plc near b st) (pw (b + st)) = ng near (pw b)
    · rw [dT _ _ e]
      refine iteF ⟨_, rfl, _, rfl, _, _, rfl, rfl, _, rfl, call s3 p81 bs80 fun H4 s4 => ⟨_, _, rfl, rfl, _, rfl, _, _, rfl, rfl, rfl, _, rfl, ?_⟩⟩
      show (if decide (V.bl (ng (plc near b st + 1) (pw (b + st))) = V.bl (ng near (pw b))) = true then _ else _)
      by_cases e2 : ng (plc near b st + 1) (pw (b + st)) = ng near (pw b)
      · rw [dT _ _ e2]
        have ez : plc near b st + 1 = z := by rw [← g6, adj, if_pos e, if_pos e2]
        refine iteT ⟨_, rfl, _, _, rfl, rfl, ?_, s4⟩
        rw [← ez]
        rfl
      · rw [dF _ _ e2]
        have ez : plc near b st = z := by rw [← g6, adj, if_pos e, if_neg e2]
        refine iteF ⟨?_, s4⟩
        rw [← ez]
        rfl
    · rw [dF _ _ e]
      have ez : plc near b st - 1 = z := by rw [← g6, adj, if_neg e]
      refine iteT ⟨_, rfl, _, _, rfl, rfl, ?_, s3⟩
      rw [← ez]
      rfl
  · rintro σ' H5 ⟨rfl, s5⟩
    have z80 : Sm 80 z := by
      rw [← g6]
      exact sm_le g5 (by decide)
    have z81 : Sm 80 (z + 1) := by
      rw [← g6]
      exact sm_le (sm_add g5 (show Sm 78 (1 : Int) by decide)) (by decide)
    refine ⟨_, rfl, _, rfl, _, rfl, call s5 z80 bs80 fun H6 s6 => ⟨_, _, rfl, rfl, _, rfl, _, _, rfl, rfl, rfl, ?_⟩⟩
    refine ⟨_, rfl, _, rfl, _, _, rfl, rfl, _, rfl, call s6 z81 bs80 fun H7 s7 => ⟨_, _, rfl, rfl, _, rfl, _, _, rfl, rfl, rfl, ?_⟩⟩
    refine ⟨_, rfl, _, rfl, ?_⟩
    show (if decide (V.bl (ng z (pw (b + st))) = V.bl (ng near (pw b))) = true then _ else _)
    rw [dT _ _ g7]
    refine iteT ⟨_, rfl, _, rfl, ?_⟩
    show (if (!decide (V.bl (ng (z + 1) (pw (b + st))) = V.bl (ng near (pw b)))) = true then _ else _)
    rw [dF _ _ g8]
    exact iteT ⟨_, rfl, k _ _ s7 rfl⟩
end
end Xq

namespace Xq
open PySem PySem.Spec PyProof.Rows L2
/-- where the search stands, turn by turn -/
def trc : List (Int × Nat × Nat) := [(3, 0, 1), (6, 1, 2), (27, 3, 4), (437, 7, 8), (111876, 15, 16), (7331967795, 31, 32), (31490561899042333828, 63, 64), (62981123798084667656, 64, 2)]
theorem trc_next : ∀ x ∈ trc, x.2.1 < 64 → ∃ z, gdB x.1 x.2.1 (min x.2.2 (64 - x.2.1)) z = true ∧ (z, x.2.1 + min x.2.2 (64 - x.2.1), 2 * min x.2.2 (64 - x.2.1)) ∈ trc ∧ 0 < min x.2.2 (64 - x.2.1) := by
  intro x hx
  simp only [trc, List.mem_cons, List.not_mem_nil, or_false] at hx
  rcases hx with rfl | rfl | rfl | rfl | rfl | rfl | rfl | rfl
  · exact fun _ => ⟨_, turn1, by decide +kernel, by decide⟩
  · exact fun _ => ⟨_, turn2, by decide +kernel, by decide⟩
  · exact fun _ => ⟨_, turn3, by decide +kernel, by decide⟩
  · exact fun _ => ⟨_, turn4, by decide +kernel, by decide⟩
  · exact fun _ => ⟨_, turn5, by decide +kernel, by decide⟩
  · exact fun _ => ⟨_, turn6, by decide +kernel, by decide⟩
  · exact fun _ => ⟨_, turn7, by decide +kernel, by decide⟩
  · exact fun h => absurd h (by decide)
theorem trc_end : ∀ x ∈ trc, ¬ x.2.1 < 64 → x.1 = 62981123798084667656 ∧ x.2.1 = 64 := by
  intro x hx
  simp only [trc, List.mem_cons, List.not_mem_nil, or_false] at hx
  rcases hx with rfl | rfl | rfl | rfl | rfl | rfl | rfl | rfl
  all_goals first | exact fun _ => ⟨rfl, rfl⟩ | exact fun h => absurd (by decide) h
section
variable {P : Program} {w : World} {K : PySem.W.Frag} {mg : Str → Option Value} {base : Heap}
abbrev nR : List Str := ["equation", "near", "bits", "wanted", "step", "closer"]
theorem s46 : FnScope nR ["equation", "near", "bits", "wanted"] (defScope (top 46)) := (⟨rfl, rfl, rfl, by decide +kernel, rfl, by decide +kernel, by decide +kernel⟩)
abbrev spRef : Sp := Prm (α := Addr) (fun p => [.ref p, .int 3, .int 0, .int 64]) (fun p H => TI H p [2, -4, 1]) (fun p H v H' => v = .int 62981123798084667656)
theorem c_ref (D : Df K mg "refined" (top 46)) (B : Bl mg) (C : Cal P w K mg base 2 "guessed" ["equation", "near", "bits", "step"] spGue) : Cal P w K mg base 3 "refined" ["equation", "near", "bits", "wanted"] spRef := by
  refine mkC D s46 (fun _ _ _ _ _ _ us hl => match us, hl with | [_, _, _, _], _ => rfl) (fun _ => rfl) (fun f cdv A outer s H p Q E hr h k => ?_)
  have h : TI H p [2, -4, 1] := h
  have h0 : H p = some (.tup [.int 2, .int (-4), .int 1]) := h
  have k : ∀ v H', Same H H' → v = .int 62981123798084667656 → Q v H' := k
  refine ⟨_, pss_cons (ps_if ((pt_cmpR op_eq ((pe_callB call_len_seq (by rfl) (Bl.len_ B) PySem.boot_len (pa_cons (pv 0) pa_nil))) pe_int (nomark _))) pss_nv pss_nil)
    (pss_cons ((ps_set (i := 4) (FnScope.nd s46) rfl (Or.inl rfl) pe_int))
    (pss_cons (ps_whB PassesOwn.never ((pt_cmpR op_lt (pv 2) (pv 3) (nomark _)))
      (pss_cons ((ps_set (i := 4) (FnScope.nd s46) rfl (Or.inl rfl) (pe_callB (call_min2 rfl) (by rfl) B.min_ PyProof.Rows.boot_min (pa_cons (pv 4) (pa_cons (pe_op op_sub (pv 3) (pv 2)) pa_nil)))))
      (pss_cons ((ps_set (i := 5) (FnScope.nd s46) rfl (Or.inl rfl) (pe_cl C hr (pa_cons (pv 0) (pa_cons (pv 1) (pa_cons (pv 2) (pa_cons (pv 4) pa_nil)))))))
      (pss_one (ps_if (pt_cmpR op_isN (pv 5) pe_non (nomark _)) pss_nv
        (pss_one (ps_par3 (i := 1) (j := 2) (l := 4) rfl s46.nd rfl rfl rfl (by decide) (by decide) (by decide) rfl rfl rfl (pa_cons (pv 5) (pa_cons (pe_op op_add (pv 2) (pv 4)) (pa_cons (pe_op op_mul pe_int (pv 4)) pa_nil))) rfl)))))))
    (pss_one (ps_ret (pe_op op_shrN (pv 1) (pe_op op_sub (pv 2) (pv 3))))))), ?_⟩
  refine ⟨_, rfl, p, _, rfl, .inr (SqT.of h0), rfl, _, rfl, iteF ?_⟩
  refine ⟨fun σ H' => Same H H' ∧ ∃ (near : Int) (b st : Nat) (z5 : Option V), σ = [some (.ref p), some (.int near), some (.int (b : Int)), some (.int 64), some (.int (st : Int)), z5] ∧ (near, b, st) ∈ trc,
    fun σ _ => (match σ with | [_, _, some (.int b), _, _, _] => (64 - b).toNat | _ => 0), ⟨Same.refl _, 3, 0, 1, none, rfl, by decide +kernel⟩, ?_⟩
  rintro σ H1 ⟨s1, near, b, st, z5, rfl, hm⟩
  refine ⟨_, rfl, _, rfl, _, _, rfl, rfl, _, rfl, ite2 (fun hb => ?_) (fun hb => ?_)⟩
  · have hb2 : b < 64 := by
      have q : (b : Int) < 64 := of_decide_eq_true hb
      omega
    obtain ⟨z, g1, g2, g3⟩ := trc_next _ hm hb2
    have g1 : gdB near b (min st (64 - b)) z = true := g1
    have g2 : (z, b + min st (64 - b), 2 * min st (64 - b)) ∈ trc := g2
    have g3 : 0 < min st (64 - b) := g3
    have em : (if (64 : Int) - (b : Int) < (st : Int) then (64 : Int) - (b : Int) else (st : Int)) = ((min st (64 - b) : Nat) : Int) := by
      split <;> omega
    refine ⟨_, rfl, _, rfl, _, rfl, _, _, rfl, rfl, _, _, rfl, ?_⟩
    show tSeq _ _ _ [some (.ref p), some (.int near), some (.int (b : Int)), some (.int 64), some (.int (if (64 : Int) - (b : Int) < (st : Int) then (64 : Int) - (b : Int) else (st : Int))), z5] H1
    rw [em]
    refine ⟨_, rfl, _, rfl, _, rfl, _, rfl, (p, near, b, min st (64 - b), z), rfl, ⟨TI.same s1 h, g1⟩, ?_⟩
    rintro _ H2 s2 rfl
    refine ⟨_, rfl, rfl, _, rfl, iteF ?_⟩
    refine ⟨_, rfl, _, rfl, _, rfl, _, _, rfl, rfl, _, rfl, _, _, rfl, rfl, .inl ⟨by decide, by decide⟩, _, _, _, rfl, ?_⟩
    refine ⟨⟨s1.trans s2, z, b + min st (64 - b), 2 * min st (64 - b), some (.int z), ?_, g2⟩, ?_⟩
    · rfl
    · show (64 - ((b : Int) + ((min st (64 - b) : Nat) : Int))).toNat < (64 - (b : Int)).toNat
      omega
  · have hb2 : ¬ b < 64 := fun q => hb (decide_eq_true (show (b : Int) < 64 by omega))
    obtain ⟨e1, e2⟩ := trc_end _ hm hb2
    have e1 : near = 62981123798084667656 := e1
    have e2 : b = 64 := e2
    subst e1 e2
    refine ⟨_, rfl, _, rfl, _, rfl, _, _, rfl, rfl, 62981123798084667656, 0, rfl, rfl, k _ _ s1 ?_⟩
    show V.int (62981123798084667656 / 2 ^ 0) = _
    rw [Int.pow_zero, Int.ediv_one]
abbrev nS : List Str := ["equation", "rank", "near", "bits", "wanted"]
theorem s43 : FnScope nS ["equation", "rank"] (defScope (top 44)) := (⟨rfl, rfl, rfl, by decide +kernel, rfl, by decide +kernel, by decide +kernel⟩)
abbrev spStr : Sp := Prm (α := Addr) (fun a => [.ref a, .int 1]) (fun a H => TI H a [2, -4, 1]) (fun a H v H' => ∃ r, v = .ref r ∧ TI H' r [62981123798084667656, 64])
theorem c_str (D : Df K mg "stretch_of" (top 44)) (B : Bl mg) (CL : Cal P w K mg base 5 "lonely_stretch" ["equation", "rank"] spLone) (CF : Cal P w K mg base 3 "refined" ["equation", "near", "bits", "wanted"] spRef) : Cal P w K mg base 6 "stretch_of" ["equation", "rank"] spStr := by
  refine mkC D s43 (fun _ _ _ _ _ _ us hl => match us, hl with | [_, _], _ => rfl) (fun _ => rfl) (fun f cdv A outer s H p Q E hr h k => ?_)
  have h : TI H p [2, -4, 1] := h
  obtain ⟨tb, htb⟩ := B.bits_
  refine ⟨_, pss_cons (ps_asg (pe_cl CL hr (pa_cons (pv 0) (pa_cons (pv 1) pa_nil))) (pg_tup rfl (pgs_cons ((pg_name (i := 2) (FnScope.nd s43) rfl (Or.inl rfl))) (pgs_cons ((pg_name (i := 3) (FnScope.nd s43) rfl (Or.inl rfl))) pgs_nil))))
    (pss_cons ((ps_set (i := 4) (FnScope.nd s43) rfl (Or.inl rfl) (pe_callB (call_max2 rfl) (by rfl) B.max_ PyProof.Rows.boot_max (pa_cons (pv 3) (pa_cons (pe_glob (v := .int 64) (by rfl) htb ⟨_, rfl⟩) pa_nil)))))
    (pss_one (ps_ret (pe_tup (pa_cons (pe_cl CF hr (pa_cons (pv 0) (pa_cons (pv 2) (pa_cons (pv 3) (pa_cons (pv 4) pa_nil))))) (pa_cons (pv 4) pa_nil)))))), ?_⟩
  refine ⟨_, rfl, _, rfl, p, rfl, h, ?_⟩
  rintro _ H1 s1 ⟨r, rfl, hr1⟩
  refine ⟨r, _, rfl, SqT.of hr1, rfl, _, _, rfl, _, _, rfl, rfl, ?_⟩
  refine ⟨_, rfl, _, _, rfl, ?_⟩
  refine ⟨_, rfl, _, rfl, _, rfl, _, rfl, p, rfl, TI.same s1 h, ?_⟩
  rintro _ H2 s2 rfl
  refine ⟨_, rfl, (by show 2 ≤ sizeLine; decide), fun r2 hr2 => ?_⟩
  exact k _ _ (s1.trans (Same.new s2 hr2)) ⟨r2, rfl, upd_same⟩
end
end Xq

namespace Xq
open PySem PySem.Spec PyProof.Rows L2
/-! ### texts of ints -/
/-- the text of an int -/
abbrev W (i : Int) : Str := Str.ofString (toString i)
theorem tlW_nat (n : Nat) : TL.tl (W (n : Int)) = TL.numL n := TL.tl_num n
theorem tlW_neg {i : Int} (h : i < 0) : TL.tl (W i) = 45 :: TL.numL i.natAbs := by
  obtain ⟨m, rfl⟩ : ∃ m : Nat, i = Int.negSucc m := by
    cases i with
    | ofNat k => exact absurd h (by have := Int.natCast_nonneg k; show ¬ ((k : Int) < 0); omega)
    | negSucc m => exact ⟨m, rfl⟩
  rw [TL.tl_ofString]
  have e : (toString (Int.negSucc m) : String) = "-" ++ Nat.repr (m + 1) := rfl
  rw [e, String.toList_append, List.map_append, Nat.toList_repr]
  rfl
theorem tlW (i : Int) : TL.tl (W i) = (if i < 0 then [45] else []) ++ TL.numL i.natAbs := by
  by_cases h : i < 0
  · rw [if_pos h, tlW_neg h]
    rfl
  · rw [if_neg h, List.nil_append]
    have e : i = ((i.natAbs : Nat) : Int) := by omega
    have q := tlW_nat i.natAbs
    rw [← e] at q
    exact q
theorem free32 (i : Int) : 32 ∉ TL.tl (W i) := int_text_free' 32 ⟨by decide, by decide⟩ i
theorem len4 {i : Int} (h : i.natAbs ≤ 1000) : (TL.numL i.natAbs).length ≤ 4 := TL.numL_len (by decide) (by omega)
/-- the digits of it -/
def Dg (i : Int) : Str := ⟨(TL.numL i.natAbs).toArray⟩
theorem rm_minus (i : Int) : Txt.removeprefix (W i) (Str.ofString "-") = Dg i := by
  have e1 : (Str.ofString "-").cps.toList = [45] := rfl
  have e2 : (Str.ofString "-").length = 1 := rfl
  unfold Txt.removeprefix
  rw [PySem.StrLaws.subAt_eq, e1, e2, List.drop_zero]
  by_cases h : i < 0
  · have q : (W i).cps.toList = 45 :: TL.numL i.natAbs := tlW_neg h
    rw [q]
    have e3 : (List.take 1 (45 :: TL.numL i.natAbs) == [45]) = true := by simp
    rw [e3, if_pos rfl]
    unfold Txt.affix
    have hl : (W i).length = (TL.numL i.natAbs).length + 1 := by
      rw [TL.len_tl, show TL.tl (W i) = _ from q]
      rfl
    rw [hl]
    have e4 : ((TL.numL i.natAbs).length + 1 - 1 == (TL.numL i.natAbs).length + 1) = false := by
      rw [beq_eq_false_iff_ne]
      omega
    show (if ((TL.numL i.natAbs).length + 1 - 1 == (TL.numL i.natAbs).length + 1) = true then _ else _) = _
    rw [e4, if_neg (by decide)]
    refine TL.ext_tl ?_
    rw [TL.tl_strSub, show TL.tl (W i) = _ from q]
    show List.take ((TL.numL i.natAbs).length + 1 - 1) (TL.numL i.natAbs) = TL.numL i.natAbs
    rw [Nat.add_sub_cancel, List.take_length]
  · have q : (W i).cps.toList = TL.numL i.natAbs := by
      have z := tlW i
      rw [if_neg h] at z
      exact z
    rw [q]
    have e3 : (List.take 1 (TL.numL i.natAbs) == [45]) = false := by
      have hn := TL.numL_ne i.natAbs
      have hf := TL.numL_free (n := i.natAbs) (s := 45) (.inl (by decide))
      cases e : TL.numL i.natAbs with
      | nil => exact absurd e hn
      | cons a r =>
        rw [e] at hf
        rw [beq_eq_false_iff_ne]
        intro z
        have z2 : a = 45 := by simpa using z
        exact hf (by rw [z2]; exact List.mem_cons_self)
    rw [e3, if_neg (by decide)]
    show W i = _
    exact TL.ext_tl q
theorem dg_ascii (i : Int) : Txt.isascii (Dg i) = true := by
  unfold Txt.isascii Dg
  rw [List.all_toArray, List.all_eq_true]
  intro c hc
  have h := TL.numL_digits _ c hc
  exact decide_eq_true (by omega)
theorem ten_digits : ∀ k, k < 10 → Unicode.isDigit (48 + k) = true := by decide +kernel
theorem dg_digit (i : Int) : Txt.isdigit (Dg i) = true := by
  unfold Txt.isdigit
  have hl : (Dg i).length > 0 := by
    rw [TL.len_tl]
    exact List.length_pos_iff.mpr (TL.numL_ne _)
  rw [decide_eq_true hl, Bool.true_and]
  unfold Dg
  rw [List.all_toArray, List.all_eq_true]
  intro c hc
  have h := TL.numL_digits _ c hc
  obtain ⟨k, rfl⟩ : ∃ k, c = 48 + k := ⟨c - 48, by omega⟩
  exact ten_digits k (by omega)
theorem dg_len {i : Int} (h : i.natAbs ≤ 1000) : (Dg i).length ≤ 4 := by
  rw [TL.len_tl]
  exact len4 h
theorem w_len {i : Int} (h : i.natAbs ≤ 1000) : (W i).length ≤ 5 := by
  rw [TL.len_tl, tlW]
  have q := len4 h
  rw [List.length_append]
  split
  · show 1 + _ ≤ 5
    omega
  · show 0 + _ ≤ 5
    omega
theorem w_int {i : Int} (h : i.natAbs ≤ 1000) : PySem.intText? (W i) = some i := by
  have hl := w_len h
  by_cases hi : i < 0
  · have e := PySem.intText_neg (x := W i) (cs := TL.numL i.natAbs) (tlW_neg hi) (TL.numL_digits _) (TL.numL_ne _) (by omega)
    rw [TL.numL_val] at e
    refine e.trans ?_
    congr 1
    omega
  · have e : i = ((i.natAbs : Nat) : Int) := by omega
    have q := TL.int_num (n := i.natAbs) (by have := len4 h; omega)
    rw [← e] at q
    exact q
theorem len1000 : (W 1000).length = 4 := by decide +kernel
end Xq

namespace Xq
open PySem PySem.Spec PyProof.Rows L2
section
variable {P : Program} {w : World} {K : PySem.W.Frag} {mg : Str → Option Value} {base : Heap}
theorem s63 : FnScope ["word", "digits"] ["word"] (defScope (top 65)) := (⟨rfl, rfl, rfl, by decide +kernel, rfl, by decide +kernel, by decide +kernel⟩)
abbrev spIntOf : Sp := Prm (α := Int) (fun i => [.str (W i)]) (fun i _ => i.natAbs ≤ 1000) (fun i H v H' => v = .int i ∧ H' = H)
theorem c_intof (D : Df K mg "integer_of" (top 65)) (B : Bl mg) : Cal P w K mg base 1 "integer_of" ["word"] spIntOf := by
  refine mkC D s63 (fun _ _ _ _ _ _ us hl => match us, hl with | [_], _ => rfl) (fun _ => rfl) (fun f cdv A outer s H i Q E hr h k => ?_)
  have h : i.natAbs ≤ 1000 := h
  obtain ⟨tt, htt⟩ := B.term_
  refine ⟨_, pss_cons ((ps_set (i := 1) (FnScope.nd s63) rfl (Or.inl rfl) (pe_m1 PySem.F.slot_str_removeprefix PySem.F.type_str_removeprefix mt_removeprefix (pv 0) pe_str)))
    (pss_cons (ps_if (PW.pt (pw_or (pt_not (pt_val (pe_m0 PySem.F.slot_str_isascii PySem.F.type_str_isascii mt_isascii (pv 1))))
      (pw_or (pt_not (pt_val (pe_m0 PySem.F.slot_str_isdigit PySem.F.type_str_isdigit mt_isdigit (pv 1))))
      (pw_or1 ((pt_cmpR op_gt ((pe_callB call_len_str (by rfl) (Bl.len_ B) PySem.boot_len (pa_cons (pv 1) pa_nil))) ((pe_callB call_len_str (by rfl) (Bl.len_ B) PySem.boot_len (pa_cons (pe_callTy call_str_int (by rfl) B.str_ PyProof.Rows.boot_str (pa_cons (pe_glob (v := .int 1000) (by rfl) htt ⟨_, rfl⟩) pa_nil)) pa_nil))) (nomark _))))))) pss_nv pss_nil)
    (pss_one (ps_ret (pe_ifExp ((pt_cmpR op_eq (pe_callTy call_str_int (by rfl) B.str_ PyProof.Rows.boot_str (pa_cons (pe_callTy call_int_str (by rfl) B.int_ PyProof.Rows.boot_int (pa_cons (pv 0) pa_nil)) pa_nil)) (pv 0) (nomark _)))
      (pe_callTy call_int_str (by rfl) B.int_ PyProof.Rows.boot_int (pa_cons (pv 0) pa_nil)) pe_nv)))), ?_⟩
  have w5 := w_len h
  have sl : (640 : Nat) ≤ sizeLine := by decide
  refine ⟨_, rfl, ⟨_, rfl⟩, _, _, rfl, rfl, by omega, ?_⟩
  rw [rm_minus]
  refine ⟨_, rfl, ⟨_, rfl⟩, _, rfl, rfl, trivial, _, rfl, ?_⟩
  rw [dg_ascii]
  refine iteF ⟨_, rfl, ⟨_, rfl⟩, _, rfl, rfl, trivial, _, rfl, ?_⟩
  rw [dg_digit]
  have d4 := dg_len h
  refine iteF ⟨_, rfl, _, rfl, by omega, _, rfl, (by decide +kernel), _, rfl, ?_, _, _, rfl, rfl, _, rfl, ?_⟩
  · rw [show Str.length (Str.ofString (toString (1000 : Int))) = 4 from len1000]
    omega
  have ng : ¬ (((Dg i).length : Int) > (((W 1000).length : Nat) : Int)) := by
    rw [len1000]
    omega
  refine ite2 (fun hb => absurd (of_decide_eq_true hb) ng) (fun _ => ?_)
  have l2 : i.natAbs.log2 < 1920 := Nat.lt_of_lt_of_le (PySem.Flt.log2_lt_of (show 0 < 10 by decide) (show i.natAbs < 2 ^ 10 by omega)) (by decide)
  refine ⟨_, rfl, _, i, rfl, w_int h, by omega, i, rfl, l2, _, rfl, rfl, _, rfl, ?_⟩
  rw [decide_eq_true rfl]
  exact iteT ⟨_, rfl, _, i, rfl, w_int h, by omega, k _ _ (Same.refl _) ⟨rfl, rfl⟩⟩
theorem s52 : FnScope ["number", "low"] ["number"] (defScope (top 52)) := (⟨rfl, rfl, rfl, by decide +kernel, rfl, by decide +kernel, by decide +kernel⟩)
def dvs (i : Int) : List Int := if i = 1 then [1] else [1, 2]
abbrev spDiv : Sp := Prm (α := Int) (fun i => [.int i]) (fun i _ => i = 1 ∨ i = 2) (fun i H v H' => ∃ q, v = .ref q ∧ LI H' q (dvs i))
theorem c_div (D : Df K mg "divisors" (top 52)) (B : Bl mg) : Cal P w K mg base 1 "divisors" ["number"] spDiv := by
  refine mkC D s52 (fun _ _ _ _ _ _ us hl => match us, hl with | [_], _ => rfl) (fun _ => rfl) (fun f cdv A outer s H i Q E hr h k => ?_)
  have h : i = 1 ∨ i = 2 := h
  refine ⟨_, pss_one (ps_ret (pe_lc (own := [("low", 1)]) (g := gName 1) (tt := tTest (tOp rEq (tOp (rI (fun _ j => 0 < j) fun i j => .int (i % j)) (tVar 0) (tVar 1)) (tC (.int 0)))) (te := tVar 1) rfl s52.nd
      (pi_range2 (by rfl) B.range_ (pa_cons pe_int (pa_cons (pe_op op_add (pe_callB call_abs (by rfl) B.abs_ PyProof.Rows.boot_abs (pa_cons (pv 0) pa_nil)) pe_int) pa_nil)))
      (blkOk_by (N := ["number", "low"]) (sc := defScope (top 52)) (by decide +kernel)) (fun _ _ _ _ _ => (pg_name (i := 1) (FnScope.nd s52) rfl (Or.inl rfl))) (fun _ _ _ _ _ => pts_one ((pt_cmpR op_eq (pe_op op_mod (pv 0) (pv 1)) pe_int (nomark _))))
      (fun _ _ _ _ _ => pv 1))), ?_⟩
  rcases h with rfl | rfl
  · refine ⟨_, rfl, 1, rfl, _, _, rfl, rfl, _, _, rfl, ⟨by decide, by decide, (by show -2 ^ 62 ≤ (2 : Int); decide), (by show (2 : Int) < 2 ^ 62; decide)⟩, fun D hD => lc_range (lo := 1) (n := 1) (fun i H' => (i = 0 ∧ H' = upd H D (.lst [])) ∨ (i = 1 ∧ H' = upd H D (.lst [.int 1]))) (.inl ⟨rfl, rfl⟩) ?_ ?_⟩
    · rintro i H' hi (⟨rfl, rfl⟩ | ⟨rfl, rfl⟩)
      · refine ⟨rfl, ?_⟩
        refine ⟨_, rfl, _, rfl, _, _, rfl, rfl, (by show (0 : Int) < 1; decide), rfl, _, rfl, iteT ⟨_, rfl, _, upd_same, by decide, .inr ⟨rfl, ?_⟩⟩⟩
        rw [upd_upd]
        rfl
      · exact absurd hi (by decide)
    · rintro H' (⟨e, _⟩ | ⟨_, rfl⟩)
      · cases e
      · exact k _ _ (same_new hD) ⟨D, rfl, upd_same⟩
  · refine ⟨_, rfl, 2, rfl, _, _, rfl, rfl, _, _, rfl, ⟨by decide, by decide, (by show -2 ^ 62 ≤ (3 : Int); decide), (by show (3 : Int) < 2 ^ 62; decide)⟩, fun D hD => lc_range (lo := 1) (n := 2) (fun i H' => (i = 0 ∧ H' = upd H D (.lst [])) ∨ (i = 1 ∧ H' = upd H D (.lst [.int 1])) ∨ (i = 2 ∧ H' = upd H D (.lst [.int 1, .int 2]))) (.inl ⟨rfl, rfl⟩) ?_ ?_⟩
    · rintro i H' hi (⟨rfl, rfl⟩ | ⟨rfl, rfl⟩ | ⟨rfl, rfl⟩)
      · refine ⟨rfl, ?_⟩
        refine ⟨_, rfl, _, rfl, _, _, rfl, rfl, (by show (0 : Int) < 1; decide), rfl, _, rfl, iteT ⟨_, rfl, _, upd_same, by decide, .inr (.inl ⟨rfl, ?_⟩)⟩⟩
        rw [upd_upd]
        rfl
      · refine ⟨rfl, ?_⟩
        refine ⟨_, rfl, _, rfl, _, _, rfl, rfl, (by show (0 : Int) < 2; decide), rfl, _, rfl, iteT ⟨_, rfl, _, upd_same, (by show 1 < sizeLine; decide), .inr (.inr ⟨rfl, ?_⟩)⟩⟩
        rw [upd_upd]
        rfl
      · exact absurd hi (by decide)
    · rintro H' (⟨e, _⟩ | ⟨e, _⟩ | ⟨_, rfl⟩)
      · cases e
      · cases e
      · exact k _ _ (same_new hD) ⟨D, rfl, upd_same⟩
abbrev nLf : List Str := ["terms", "bottoms", "top", "bottom", "side"]
theorem s53 : FnScope nLf ["terms"] (defScope (top 53)) := (⟨rfl, rfl, rfl, by decide +kernel, rfl, by decide +kernel, by decide +kernel⟩)
abbrev spLin : Sp := Prm (α := Addr) (fun p => [.ref p]) (fun p H => TI H p [2, -4, 1]) (fun p H v H' => v = .non)
theorem c_lin (D : Df K mg "linear_factor" (top 53)) (B : Bl mg) (CD : Cal P w K mg base 1 "divisors" ["number"] spDiv) (C : Cal P w K mg base 1 "value_at" ["terms", "top", "bottom"] spVal) : Cal P w K mg base 2 "linear_factor" ["terms"] spLin := by
  refine mkC D s53 (fun _ _ _ _ _ _ us hl => match us, hl with | [_], _ => rfl) (fun _ => rfl) (fun f cdv A outer s H p Q E hr h k => ?_)
  have h : TI H p [2, -4, 1] := h
  have h0 : H p = some (.tup [.int 2, .int (-4), .int 1]) := h
  have k : ∀ v H', Same H H' → v = .non → Q v H' := k
  have i2 : Sm 20 (2 : Int) := by decide
  have i4 : Sm 20 (-4 : Int) := by decide
  have i1 : Sm 20 (1 : Int) := by decide
  have call : ∀ {H1 : Hp} {t : Int} {Qv : VK}, Same H H1 → Sm 80 t → (∀ H2, Same H1 H2 → Qv (.int (v3 2 (-4) 1 t 1)) H2) → spVal [.ref p, .int t, .int 1] H1 Qv E0 := fun {H1 t Qv} s1 ht kk => by
    refine .inr (.inr ⟨(p, 2, -4, 1, t, 1), rfl, ⟨TI.same s1 h, i2, i4, i1, ht, (by show Sm 80 (1 : Int); decide)⟩, ?_⟩)
    rintro _ H2 s2 rfl
    exact kk _ s2
  refine ⟨_, pss_cons (ps_if ((pt_cmpR op_eq ((pe_ix ix_tup (pv 0) pe_int (fun _ _ => rfl))) pe_int (nomark _))) pss_nv pss_nil)
    (pss_cons ((ps_set (i := 1) (FnScope.nd s53) rfl (Or.inl rfl) (pe_cl CD hr (pa_cons ((pe_ix ix_tup (pv 0) (pe_un un_neg pe_int) (fun _ _ => rfl))) pa_nil))))
    (pss_cons (ps_for PassesOwn.never rfl (pi_list (pe_cl CD hr (pa_cons ((pe_ix ix_tup (pv 0) pe_int (fun _ _ => rfl))) pa_nil))) ((pg_name (i := 2) (FnScope.nd s53) rfl (Or.inl rfl)))
      (pss_one (ps_for PassesOwn.never rfl (pi_list (pv 1)) ((pg_name (i := 3) (FnScope.nd s53) rfl (Or.inl rfl)))
        (pss_cons (ps_if ((pt_cmpR op_ne (pe_callBfun cr_gcd (by rfl) B.gcd_ (pa_cons (pv 2) (pa_cons (pv 3) pa_nil))) pe_int (nomark _))) pss_nv pss_nil)
        (pss_one (ps_for PassesOwn.never rfl (pi_tup (pe_tup (pa_cons (pv 2) (pa_cons (pe_un un_neg (pv 2)) pa_nil)))) ((pg_name (i := 4) (FnScope.nd s53) rfl (Or.inl rfl)))
          (pss_one (ps_if ((pt_cmpR op_eq (pe_cl C hr (pa_cons (pv 0) (pa_cons (pv 4) (pa_cons (pv 3) pa_nil)))) pe_int (nomark _))) pss_nv pss_nil))))))))
    (pss_one (ps_ret pe_non)))), ?_⟩
  refine ⟨_, rfl, p, _, _, .int 2, rfl, rfl, SqT.of h0, atI_nat (j := 0) rfl, rfl, _, rfl, iteF ?_⟩
  refine ⟨_, rfl, _, rfl, p, _, _, .int 1, rfl, rfl, SqT.of h0, atl3 _ _ _, 1, rfl, .inl rfl, ?_⟩
  rintro _ H1 s1 ⟨bo, rfl, hbo⟩
  have hbo : H1 bo = some (.lst [.int 1]) := hbo
  have h1 := s1 _ _ h0
  refine ⟨_, rfl, p, _, _, .int 2, rfl, rfl, SqT.of h1, atI_nat (j := 0) rfl, 2, rfl, .inr rfl, ?_⟩
  rintro _ H2 s2 ⟨to, rfl, hto⟩
  have hto : H2 to = some (.lst [.int 1, .int 2]) := hto
  have hbo2 := s2 _ _ hbo
  have s12 := s1.trans s2
  refine ⟨to, rfl, ⟨_, SqL.of hto⟩, for_unr (xs := [.int 1, .int 2]) walk_list ?_⟩
  -- top 1
  refine ⟨SqL.of hto, ?_⟩
  refine ⟨_, rfl, bo, rfl, ⟨_, SqL.of hbo2⟩, for_unr (xs := [.int 1]) walk_list ?_⟩
  refine ⟨SqL.of hbo2, ?_⟩
  refine ⟨_, rfl, _, rfl, 1, 1, rfl, rfl, _, rfl, iteF ?_⟩
  refine ⟨_, rfl, _, rfl, 1, rfl, (by show 2 ≤ sizeLine; decide), fun a na => ?_⟩
  have t1 := same_new (o := .tup [.int 1, .int (-1)]) na
  have ha : upd H2 a (.tup [.int 1, .int (-1)]) a = some (.tup [.int 1, .int (-1)]) := upd_same
  refine ⟨a, rfl, ⟨_, SqT.of ha⟩, for_unr (xs := [.int 1, .int (-1)]) walk_tup ?_⟩
  refine ⟨SqT.of ha, ?_⟩
  refine ⟨_, rfl, _, rfl, _, rfl, call (s12.trans t1) (by decide) fun H3 s3 => ⟨rfl, _, rfl, iteF ?_⟩⟩
  refine ⟨SqT.of (s3 _ _ ha), ?_⟩
  refine ⟨_, rfl, _, rfl, _, rfl, call ((s12.trans t1).trans s3) (by decide) fun H4 s4 => ⟨rfl, _, rfl, iteF ?_⟩⟩
  have s24 := (t1.trans s3).trans s4
  refine ⟨SqT.of (s4 _ _ (s3 _ _ ha)), SqL.of (s24 _ _ hbo2), ?_⟩
  -- top 2
  have hto4 := s24 _ _ hto
  have hbo4 := s24 _ _ hbo2
  have s04 := s12.trans s24
  refine ⟨SqL.of hto4, ?_⟩
  refine ⟨_, rfl, bo, rfl, ⟨_, SqL.of hbo4⟩, for_unr (xs := [.int 1]) walk_list ?_⟩
  refine ⟨SqL.of hbo4, ?_⟩
  refine ⟨_, rfl, _, rfl, 2, 1, rfl, rfl, _, rfl, iteF ?_⟩
  refine ⟨_, rfl, _, rfl, 2, rfl, (by show 2 ≤ sizeLine; decide), fun a na => ?_⟩
  have t1 := same_new (o := .tup [.int 2, .int (-2)]) na
  have ha : upd H4 a (.tup [.int 2, .int (-2)]) a = some (.tup [.int 2, .int (-2)]) := upd_same
  refine ⟨a, rfl, ⟨_, SqT.of ha⟩, for_unr (xs := [.int 2, .int (-2)]) walk_tup ?_⟩
  refine ⟨SqT.of ha, ?_⟩
  refine ⟨_, rfl, _, rfl, _, rfl, call (s04.trans t1) (by decide) fun H5 s5 => ⟨rfl, _, rfl, iteF ?_⟩⟩
  refine ⟨SqT.of (s5 _ _ ha), ?_⟩
  refine ⟨_, rfl, _, rfl, _, rfl, call ((s04.trans t1).trans s5) (by decide) fun H6 s6 => ⟨rfl, _, rfl, iteF ?_⟩⟩
  have s46 := (t1.trans s5).trans s6
  exact ⟨SqT.of (s6 _ _ (s5 _ _ ha)), SqL.of (s46 _ _ hbo4), SqL.of (s46 _ _ hto4), k _ _ (s04.trans s46) rfl⟩
theorem s51 : FnScope ["terms", "found"] ["terms"] (defScope (top 51)) := (⟨rfl, rfl, rfl, by decide +kernel, rfl, by decide +kernel, by decide +kernel⟩)
abbrev spLF : Sp := Prm (α := Addr) (fun a => [.ref a]) (fun a H => TI H a [2, -4, 1]) (fun a H v H' => v = .ref a)
theorem c_lf (D : Df K mg "least_factor" (top 51)) (B : Bl mg) (C : Cal P w K mg base 2 "linear_factor" ["terms"] spLin) : Cal P w K mg base 3 "least_factor" ["terms"] spLF := by
  refine mkC D s51 (fun _ _ _ _ _ _ us hl => match us, hl with | [_], _ => rfl) (fun _ => rfl) (fun f cdv A outer s H p Q E hr h k => ?_)
  have h0 : H p = some (.tup [.int 2, .int (-4), .int 1]) := h
  have k : ∀ v H', Same H H' → v = .ref p → Q v H' := k
  refine ⟨_, pss_cons (ps_if ((pt_cmpR op_eq ((pe_callB call_len_seq (by rfl) (Bl.len_ B) PySem.boot_len (pa_cons (pv 0) pa_nil))) pe_int (nomark _))) pss_nv pss_nil)
    (pss_cons ((ps_set (i := 1) (FnScope.nd s51) rfl (Or.inl rfl) (pe_cl C hr (pa_cons (pv 0) pa_nil))))
    (pss_cons (ps_if (PW.pt (pw_and (pt_cmpR op_isN (pv 1) pe_non (nomark _)) (pw_and1 ((pt_cmpR op_ge ((pe_callB call_len_seq (by rfl) (Bl.len_ B) PySem.boot_len (pa_cons (pv 0) pa_nil))) pe_int (nomark _)))))) pss_nv pss_nil)
    (pss_one (ps_ret (pe_ifExp (pt_cmpR op_isN (pv 1) pe_non (nomark _)) (pv 0) pe_nv))))), ?_⟩
  refine ⟨_, rfl, p, _, rfl, .inr (SqT.of h0), rfl, _, rfl, iteF ?_⟩
  refine ⟨_, rfl, p, rfl, h, ?_⟩
  rintro _ H1 s1 rfl
  refine ⟨_, rfl, rfl, _, rfl, iteT ⟨_, rfl, p, _, rfl, .inr (SqT.of (s1 _ _ h0)), _, _, rfl, rfl, _, rfl, iteF ?_⟩⟩
  exact ⟨_, rfl, rfl, _, rfl, iteT ⟨_, rfl, k _ _ s1 rfl⟩⟩
theorem s49 : FnScope ["equation"] ["equation"] (defScope (top 49)) := (⟨rfl, rfl, rfl, by decide +kernel, rfl, by decide +kernel, by decide +kernel⟩)
abbrev spLeast : Sp := Prm (α := Addr) (fun a => [.ref a]) (fun a H => TI H a [2, -4, 1]) (fun a H v H' => v = .bl true)
theorem c_least (D : Df K mg "is_least" (top 49)) (CG : Cal P w K mg base 1 "common_divisor" ["terms"] spGcd) (CL : Cal P w K mg base 3 "least_factor" ["terms"] spLF) : Cal P w K mg base 4 "is_least" ["equation"] spLeast := by
  refine mkC D s49 (fun _ _ _ _ _ _ us hl => match us, hl with | [_], _ => rfl) (fun _ => rfl) (fun f cdv A outer s H p Q E hr h k => ?_)
  have h : TI H p [2, -4, 1] := h
  have h0 : H p = some (.tup [.int 2, .int (-4), .int 1]) := h
  have k : ∀ v H', Same H H' → v = .bl true → Q v H' := k
  have hu : (A.deeper (envOfC "is_least" (defScope (top 49)) s.heap.objs.size f cdv)).units + 64 < cLine := by have := hr.un; omega
  refine ⟨_, pss_cons (ps_if (PW.pt (pw_or ((pt_cmpR op_lt ((pe_ix ix_tup (pv 0) (pe_un un_neg pe_int) (fun _ _ => rfl))) pe_int (nomark _))) (pw_or1 ((pt_cmpR op_ne (pe_cl CG hr (pa_cons (pv 0) pa_nil)) pe_int (nomark _)))))) pss_nv pss_nil)
    (pss_one (ps_ret (pe_cmpR (op_eqD hu) (pe_cl CL hr (pa_cons (pv 0) pa_nil)) (pv 0) (nomark _)))), ?_⟩
  refine ⟨_, rfl, _, rfl, p, _, _, .int 1, rfl, rfl, SqT.of h0, atl3 _ _ _, _, _, rfl, rfl, _, rfl, iteF ?_⟩
  refine ⟨_, rfl, (p, [2, -4, 1]), rfl, .inr h, ?_⟩
  rintro _ _ - ⟨rfl, rfl⟩
  refine ⟨rfl, _, rfl, iteF ?_⟩
  refine ⟨_, rfl, p, rfl, h, ?_⟩
  rintro _ H1 s1 rfl
  have h1 := s1 _ _ h0
  refine ⟨_, rfl, .tuple [.int 2, .int (-4), .int 1], .tuple [.int 2, .int (-4), .int 1], .tup (SqT.of h1) (.cons (.int _) (.cons (.int _) (.cons (.int _) .nil))), .tup (SqT.of h1) (.cons (.int _) (.cons (.int _) (.cons (.int _) .nil))), rfl, rfl, k _ _ s1 ?_⟩
  rw [SeqAt.eqv_refl]
  rfl
end
end Xq

namespace Xq
open PySem PySem.Spec PyProof.Rows L2
abbrev stx : Str := "root 1 of 2 -4 1"
theorem st_split : Txt.split stx (Str.ofString " ") = [Str.ofString "root", W 1, Str.ofString "of", W 2, W (-4), W 1] := by decide +kernel
section
variable {P : Program} {w : World} {K : PySem.W.Frag} {mg : Str → Option Value} {base : Heap}
abbrev nT : List Str := ["text", "words", "rank", "equation", "chain", "word"]
theorem s62 : FnScope nT ["text"] (defScope (top 64)) := (⟨rfl, rfl, rfl, by decide +kernel, rfl, by decide +kernel, by decide +kernel⟩)
abbrev spTold : Sp := Prm (α := Unit) (fun _ => [.str stx]) (fun _ H => True) (fun _ H v H' => ∃ r q, v = .ref r ∧ H' r = some (.tup [.int 1, .ref q]) ∧ TI H' q [2, -4, 1])
theorem c_told (D : Df K mg "told_by" (top 64)) (B : Bl mg) (CI : Cal P w K mg base 1 "integer_of" ["word"] spIntOf) (CW : Cal P w K mg base 3 "wrong_term" ["equation"] spWrong)
    (CL : Cal P w K mg base 4 "is_least" ["equation"] spLeast) (CS : Cal P w K mg base 4 "sturm_chain" ["terms"] spSturm) (CU : Cal P w K mg base 3 "roots_up_to" ["chain", "top", "bottom"] spUpTo) (CA : Cal P w K mg base 4 "roots_in_all" ["chain"] spAll) :
    Cal P w K mg base 5 "told_by" ["text"] spTold := by
  refine mkC D s62 (fun _ _ _ _ _ _ us hl => match us, hl with | [_], _ => rfl) (fun _ => rfl) (fun f cdv A outer s H a Q E hr h k => ?_)
  refine ⟨_, pss_cons ((ps_set (i := 1) (FnScope.nd s62) rfl (Or.inl rfl) (pe_ifExp (pt_val (pe_isi (v := .ty "str") (by rfl) B.isinstance_ (pv 0) (by rfl) B.str_ PyProof.Rows.boot_str rfl)) (pe_split (pv 0) pe_str) pe_nv)))
    (pss_cons (ps_if (PW.pt (pw_or ((pt_cmpR op_lt ((pe_callB call_len_seq (by rfl) (Bl.len_ B) PySem.boot_len (pa_cons (pv 1) pa_nil))) pe_int (nomark _))) (pw_or ((pt_cmpR op_ne ((pe_ix ix_list (pv 1) pe_int (fun _ _ => rfl))) pe_str (nomark _))) (pw_or1 ((pt_cmpR op_ne ((pe_ix ix_list (pv 1) pe_int (fun _ _ => rfl))) pe_str (nomark _))))))) pss_nv pss_nil)
    (pss_cons (ps_par (i := 2) (j := 3) rfl s62.nd rfl rfl (by decide) rfl rfl (pa_cons (pe_cl CI hr (pa_cons ((pe_ix ix_list (pv 1) pe_int (fun _ _ => rfl))) pa_nil)) (pa_cons (pe_callTy call_tuple_of (by rfl) B.tuple_ PyProof.Rows.boot_tuple (pa_cons
        (pe_lc (own := [("word", 5)]) (g := gName 5) (tt := tYes) (te := tCall spIntOf [] E0 (tCons (tVar 5) tNil)) rfl s62.nd (pi_list (pe_slice sl_list (pv 1) (po_some pe_int) po_none))
          (blkOk_by (N := nT) (sc := defScope (top 64)) (by decide +kernel)) (fun _ _ _ _ _ => (pg_name (i := 5) (FnScope.nd s62) rfl (Or.inl rfl))) (fun _ _ _ _ _ => pts_nil)
          (fun _ _ _ _ _ => pe_cl CI hr (pa_cons (pv 5) pa_nil))) pa_nil)) pa_nil)) rfl)
    (pss_cons (ps_if (PW.pt (pw_or (pt_cmpR op_isN (pv 2) pe_non (nomark _)) (pw_or ((pt_cmpR op_lt ((pe_callB call_len_seq (by rfl) (Bl.len_ B) PySem.boot_len (pa_cons (pv 3) pa_nil))) pe_int (nomark _))) (pw_or (pt_cmpR op_notN (pe_cl CW hr (pa_cons (pv 3) pa_nil)) pe_non (nomark _)) (pw_or1 (pt_not (pt_val (pe_cl CL hr (pa_cons (pv 3) pa_nil))))))))) pss_nv pss_nil)
    (pss_cons ((ps_set (i := 4) (FnScope.nd s62) rfl (Or.inl rfl) (pe_cl CS hr (pa_cons (pv 3) pa_nil))))
    (pss_cons (ps_if (pt_not (pt_chain op_le op_lt (pe_cl CU hr (pa_cons (pv 4) (pa_cons pe_int (pa_cons pe_int pa_nil)))) (pv 2) (pe_cl CA hr (pa_cons (pv 4) pa_nil)))) pss_nv pss_nil)
    (pss_one (ps_ret (pe_tup (pa_cons (pv 2) (pa_cons (pv 3) pa_nil)))))))))), ?_⟩
  have l5 : [V.str (W 2), V.str (W (-4)), V.str (W 1)] = [V.str (W 2), V.str (W (-4)), V.str (W 1)] := rfl
  refine ⟨_, rfl, _, _, _, _, true, rfl, .ty _, .base (.str _), kit_ty (by decide +kernel), _, rfl, iteT ?_⟩
  refine ⟨_, rfl, ⟨_, rfl⟩, _, _, rfl, rfl, rfl, (by show stx.length + 2 ≤ sizeLine; decide +kernel), fun ws hws => ?_⟩
  rw [st_split]
  have s1 := same_new (o := .lst [.str (Str.ofString "root"), .str (W 1), .str (Str.ofString "of"), .str (W 2), .str (W (-4)), .str (W 1)]) hws
  have w1 : ∀ HH : Hp, (upd HH ws (.lst [.str (Str.ofString "root"), .str (W 1), .str (Str.ofString "of"), .str (W 2), .str (W (-4)), .str (W 1)])) ws = some (.lst [.str (Str.ofString "root"), .str (W 1), .str (Str.ofString "of"), .str (W 2), .str (W (-4)), .str (W 1)]) := fun _ => upd_same
  refine ⟨_, rfl, ws, _, rfl, .inl (SqL.of (w1 _)), _, _, rfl, rfl, _, rfl, iteF ?_⟩
  refine ⟨_, rfl, ws, _, _, .str (Str.ofString "root"), rfl, rfl, SqL.of (w1 _), atI_nat (j := 0) rfl, rfl, _, rfl, ?_⟩
  rw [decide_eq_true (show (.str (Str.ofString "root") : V) = .str "root" from rfl)]
  refine iteF ⟨_, rfl, ws, _, _, .str (Str.ofString "of"), rfl, rfl, SqL.of (w1 _), atI_nat (j := 2) rfl, rfl, _, rfl, ?_⟩
  rw [decide_eq_true (show (.str (Str.ofString "of") : V) = .str "of" from rfl)]
  refine iteF ⟨_, rfl, ws, _, _, .str (W 1), rfl, rfl, SqL.of (w1 _), atI_nat (j := 1) rfl, ?_⟩
  refine ⟨1, rfl, (by show (1 : Int).natAbs ≤ 1000; decide), ?_⟩
  rintro _ _ - ⟨rfl, rfl⟩
  refine ⟨_, rfl, _, rfl, ws, _, rfl, SqL.of (w1 _), fun t ht => ?_⟩
  have s2 := Same.new (o := .lst [.str (W 2), .str (W (-4)), .str (W 1)]) s1 ht
  refine ⟨t, rfl, ⟨_, SqL.of upd_same⟩, fun D2 hD => lc_yes (G := fun H => SqL K H t [.str (W 2), .str (W (-4)), .str (W 1)]) (xs := [.str (W 2), .str (W (-4)), .str (W 1)]) walk_list ?_⟩
  have z1 := same_new (o := .lst []) hD
  refine ⟨SqL.of (z1 t (.lst [.str (W 2), .str (W (-4)), .str (W 1)]) upd_same), rfl, _, rfl, 2, rfl, (by show (2 : Int).natAbs ≤ 1000; decide), ?_⟩
  rintro _ _ - ⟨rfl, rfl⟩
  refine ⟨_, upd_same, by decide, ?_⟩
  rw [upd_upd]
  have z2 := same_new (o := .lst [.int 2]) hD
  refine ⟨SqL.of (z2 t (.lst [.str (W 2), .str (W (-4)), .str (W 1)]) upd_same), rfl, _, rfl, -4, rfl, (by show (-4 : Int).natAbs ≤ 1000; decide), ?_⟩
  rintro _ _ - ⟨rfl, rfl⟩
  refine ⟨_, upd_same, (by show 1 < sizeLine; decide), ?_⟩
  rw [upd_upd]
  have z3 := same_new (o := .lst [.int 2, .int (-4)]) hD
  refine ⟨SqL.of (z3 t (.lst [.str (W 2), .str (W (-4)), .str (W 1)]) upd_same), rfl, _, rfl, 1, rfl, (by show (1 : Int).natAbs ≤ 1000; decide), ?_⟩
  rintro _ _ - ⟨rfl, rfl⟩
  refine ⟨_, upd_same, (by show 2 < sizeLine; decide), ?_⟩
  rw [upd_upd]
  have z4 := same_new (o := .lst [.int 2, .int (-4), .int 1]) hD
  refine ⟨SqL.of (z4 t (.lst [.str (W 2), .str (W (-4)), .str (W 1)]) upd_same), D2, _, rfl, .inl ⟨SqL.of upd_same, fun q hq => ?_⟩⟩
  have s3 := Same.new (o := .lst [.int 2, .int (-4), .int 1]) s2 hD
  have s4 := Same.new (o := .tup [.int 2, .int (-4), .int 1]) s3 hq
  have q4 : ∀ HH : Hp, (upd HH q (.tup [.int 2, .int (-4), .int 1])) q = some (.tup [.int 2, .int (-4), .int 1]) := fun _ => upd_same
  refine ⟨_, _, rfl, ?_⟩
  refine ⟨_, rfl, rfl, _, rfl, iteF ?_⟩
  refine ⟨_, rfl, q, _, rfl, .inr (SqT.of (q4 _)), _, _, rfl, rfl, _, rfl, iteF ?_⟩
  refine ⟨_, rfl, (q, 2, -4, 1), rfl, ⟨q4 _, ⟨(by show (-1000 : Int) ≤ 2; decide), (by show (2 : Int) ≤ 1000; decide)⟩, ⟨(by show (-1000 : Int) ≤ -4; decide), (by show (-4 : Int) ≤ 1000; decide)⟩, ⟨(by show (-1000 : Int) ≤ 1; decide), (by show (1 : Int) ≤ 1000; decide)⟩, by show (1 : Int) ≠ 0; decide⟩, ?_⟩
  rintro _ H5 s5 rfl
  refine ⟨rfl, _, rfl, iteF ?_⟩
  have q5 : TI H5 q [2, -4, 1] := s5 _ _ (q4 _)
  refine ⟨_, rfl, q, rfl, q5, ?_⟩
  rintro _ H5' s5' rfl
  have q5' := TI.same s5' q5
  refine ⟨_, rfl, iteF ?_⟩
  refine ⟨_, rfl, q, rfl, q5', ?_⟩
  rintro _ H6 s6 ⟨c, q', r', rfl, hc⟩
  have hc : Ch H6 c q q' r' := hc
  refine ⟨_, rfl, (c, q, q', r', 0), rfl, ⟨hc, .inr (.inr (.inl rfl))⟩, ?_⟩
  rintro _ H7 s7 rfl
  refine ⟨_, rfl, _, _, rfl, rfl, _, rfl, ?_⟩
  refine iteT ⟨_, rfl, (c, q, q', r'), rfl, hc.same s7, ?_⟩
  rintro _ H8 s8 rfl
  refine ⟨_, _, rfl, rfl, _, rfl, iteF ?_⟩
  refine ⟨_, rfl, _, rfl, (by show 2 ≤ sizeLine; decide), fun r hr9 => ?_⟩
  have sa := s5'.trans (s6.trans (s7.trans (Same.new (o := .tup [.int 1, .ref q]) s8 hr9)))
  refine k _ _ (s4.trans (s5.trans sa)) ⟨r, q, rfl, upd_same, ?_⟩
  exact sa _ _ q5
end
end Xq

/-! The class Shape, made of the one text. -/
namespace Xq
open PySem PySem.Spec PyProof.Rows L2
/-- o.f as a target -/
def gFld (K : PySem.W.Frag) (to : TE) (f : Str) : TG := fun v σ H Q => to σ H fun x H2 => ∃ a C dx fs, x = .ref a ∧ H2 a = some (.ins C dx fs) ∧ Cls K C ∧ NoAttr K C f ∧ fs.length < 1000 ∧ Q σ (upd H2 a (.ins C dx (putF f v fs)))
theorem pg_fld {X : Cx} {o : Expr} {f : Str} {pos : Pos} {to : TE} (ho : PE X o to) : PG X (.Attribute o f pos) (gFld X.K to f) := by
  refine ⟨fun pins s σ H v u Q I r h => ?_⟩
  refine PySem.W.kas_attr (thn (ho.run pins s σ H _ I h) fun ov s2 ⟨x, H2, I2, rx, a, C, dx, fs, ex, ea, c, n, l, q2⟩ => ?_)
  subst ex
  obtain rfl : ov = Value.ref a := rx
  exact setattr_ok I2 ea c n l r fun s3 I3 => ⟨σ, _, I3, q2⟩
/-- the class as it stands behind the top -/
structure ShC (K : PySem.W.Frag) (mg : Str → Option Value) (C : Addr) : Prop where
  cl : Cls K C
  n1 : NoAttr K C "_text"
  n2 : NoAttr K C "_rank"
  n3 : NoAttr K C "_equation"
  n4 : NoAttr K C "_near"
  n5 : NoAttr K C "_bits"
  mgC : mg "Shape" = some (.ref C)
  mkS : ∃ f fd, Mk K C f ∧ Fun K "__init__" "Shape.__init__" (inClass (top 58) 0) f fd
section
variable {P : Program} {w : World} {K : PySem.W.Frag} {mg : Str → Option Value} {base : Heap} {C : Addr}
theorem sI : FnScope ["self", "text", "told"] ["self", "text"] (defScope (inClass (top 58) 0)) := (⟨rfl, rfl, rfl, by decide +kernel, rfl, by decide +kernel, by decide +kernel⟩)
def spInit (C : Addr) : Sp := fun vs H Q _ => ∃ (H0 : Hp) (a dx : Addr), vs = [.ref a, .str stx] ∧ Same H0 H ∧ H0 a = none ∧ H a = some (.ins C dx []) ∧ ∀ H' dx' fs, Same H0 H' → H' a = some (.ins C dx' fs) → Q .non H'
theorem ok_init {f : Addr} {fd : FuncData} (F : Fun K "__init__" "Shape.__init__" (inClass (top 58) 0) f fd) (S : ShC K mg C) (CT : Cal P w K mg base 5 "told_by" ["text"] spTold) (CS : Cal P w K mg base 6 "stretch_of" ["equation", "rank"] spStr) :
    FnOk P w K mg base CX0 7 f fd ["self", "text"] (spInit C) := by
  refine F.ok sI (fun vs H Q E h => ?_) (fun cdv A outer s H vs Q E hr h => ?_)
  · obtain ⟨H0, a, dx, rfl, _⟩ := h
    rfl
  · obtain ⟨H0, a, dx, rfl, s0, a0, ha, k⟩ := h
    refine ⟨_, pss_cons ((ps_set (i := 2) (FnScope.nd sI) rfl (Or.inl rfl) (pe_cl CT hr (pa_cons (pv 1) pa_nil))))
      (pss_cons (ps_if (pt_cmpR op_isN (pv 2) pe_non (nomark _)) pss_nv pss_nil)
      (pss_cons (ps_fld (pv 0) (pv 1) rfl)
      (pss_cons (ps_asg (pv 2) (pg_tup rfl (pgs_cons (pg_fld (pv 0)) (pgs_cons (pg_fld (pv 0)) pgs_nil))))
      (pss_one (ps_asg (pe_cl CS hr (pa_cons (pe_fld (pv 0) rfl) (pa_cons (pe_fld (pv 0) rfl) pa_nil))) (pg_tup rfl (pgs_cons (pg_fld (pv 0)) (pgs_cons (pg_fld (pv 0)) pgs_nil)))))))), ?_⟩
    refine ⟨_, rfl, (), rfl, trivial, ?_⟩
    rintro _ H1 s1 ⟨r, q, rfl, hr1, hq1⟩
    have hq1 : TI H1 q [2, -4, 1] := hq1
    have a1 := s1 _ _ ha
    have nr : r ≠ a := fun e => by rw [e, a1] at hr1; cases hr1
    have nq : q ≠ a := fun e => by
      have z : H1 q = some (.tup [.int 2, .int (-4), .int 1]) := hq1
      rw [e, a1] at z
      cases z
    refine ⟨_, rfl, rfl, _, rfl, iteF ?_⟩
    refine ⟨_, rfl, _, rfl, a, C, dx, _, rfl, a1, S.cl, S.n1, by decide, ?_⟩
    have t2 := Same.put (o := .ins C dx [("_text", .str stx)]) (s0.trans s1) a0
    refine ⟨_, rfl, r, _, rfl, SqT.of ((upd_ne nr).trans hr1), rfl, ?_⟩
    refine ⟨_, _, rfl, _, rfl, a, C, dx, _, rfl, upd_same, S.cl, S.n2, (by show 1 < 1000; decide), ?_⟩
    refine ⟨_, _, rfl, _, rfl, a, C, dx, _, rfl, upd_same, S.cl, S.n3, (by show 2 < 1000; decide), rfl, ?_⟩
    have t4 := Same.put (o := .ins C dx [("_text", .str stx), ("_rank", .int 1), ("_equation", .ref q)]) (Same.put (o := .ins C dx [("_text", .str stx), ("_rank", .int 1)]) t2 a0) a0
    have a4 : ∀ HH : Hp, (upd HH a (.ins C dx [("_text", .str stx), ("_rank", .int 1), ("_equation", .ref q)])) a = some (.ins C dx [("_text", .str stx), ("_rank", .int 1), ("_equation", .ref q)]) := fun _ => upd_same
    refine ⟨_, rfl, a, C, dx, _, _, rfl, a4 _, S.cl, S.n3, rfl, ?_⟩
    refine ⟨_, rfl, a, C, dx, _, _, rfl, a4 _, S.cl, S.n2, rfl, ?_⟩
    refine ⟨q, rfl, ?_, ?_⟩
    · show upd _ a _ q = _
      rw [upd_ne nq, upd_ne nq, upd_ne nq]
      exact hq1
    rintro _ H5 s5 ⟨r2, rfl, hr2⟩
    have hr2 : H5 r2 = some (.tup [.int 62981123798084667656, .int 64]) := hr2
    have a5 := s5 _ _ (a4 _)
    have nr2 : r2 ≠ a := fun e => by rw [e, a5] at hr2; cases hr2
    refine ⟨r2, _, rfl, SqT.of hr2, rfl, ?_⟩
    refine ⟨_, _, rfl, _, rfl, a, C, dx, _, rfl, a5, S.cl, S.n4, (by show 3 < 1000; decide), ?_⟩
    refine ⟨_, _, rfl, _, rfl, a, C, dx, _, rfl, upd_same, S.cl, S.n5, (by show 4 < 1000; decide), rfl, ?_⟩
    exact k _ dx _ (Same.put (Same.put (t4.trans s5) a0) a0) upd_same
theorem pe_mkS {X : Cx} {pos : Pos} {j : Nat} {p : Pos} {e2 : Expr} {t : TE} (S : ShC X.K X.mg C) (CT : Cal X.prog X.w X.K X.mg X.base 5 "told_by" ["text"] spTold) (CS : Cal X.prog X.w X.K X.mg X.base 6 "stretch_of" ["equation", "rank"] spStr) (h2 : PE X e2 t) (hr : Room (j + 8) X.A) (hg : Gl X "Shape")
    (hst : starEach (e2 :: []) X.env = (false, eval e2 X.env) :: starEach [] X.env := by rfl) :
    PE X (.Call (.Name "Shape" p) [e2] [] pos) (tMake C (spInit C) [] E0 (tCons t tNil)) := by
  obtain ⟨f, fd, hm, F⟩ := S.mkS
  exact pe_make hm (ok_init (P := X.prog) (w := X.w) (base := X.base) F S CT CS) (hr.mono (by omega)) hg S.mgC (F.binds (fun _ _ _ _ _ _ us hl => match us, hl with | [_, _], _ => rfl)) .nil pass0 (pa_cons h2 pa_nil hst) (by decide) hst rfl
/-- the defs where they stand -/
structure Dv (K : PySem.W.Frag) (mg : Str → Option Value) : Prop where
  d18 : Df K mg "is_integer" (top 18)
  d22 : Df K mg "is_term" (top 22)
  d23 : Df K mg "wrong_term" (top 23)
  d25 : Df K mg "trimmed" (top 25)
  d26 : Df K mg "common_divisor" (top 26)
  d27 : Df K mg "primitive" (top 27)
  d28 : Df K mg "negative" (top 28)
  d29 : Df K mg "derivative" (top 29)
  d30 : Df K mg "value_at" (top 30)
  d32 : Df K mg "combined" (top 32)
  d33 : Df K mg "remainder" (top 33)
  d37 : Df K mg "sturm_chain" (top 37)
  d38 : Df K mg "changes" (top 38)
  d39 : Df K mg "reach" (top 39)
  d40 : Df K mg "roots_up_to" (top 40)
  d41 : Df K mg "roots_in_all" (top 41)
  d44 : Df K mg "stretch_of" (top 44)
  d45 : Df K mg "lonely_stretch" (top 45)
  d46 : Df K mg "refined" (top 46)
  d47 : Df K mg "guessed" (top 47)
  d49 : Df K mg "is_least" (top 49)
  d51 : Df K mg "least_factor" (top 51)
  d52 : Df K mg "divisors" (top 52)
  d53 : Df K mg "linear_factor" (top 53)
  d64 : Df K mg "told_by" (top 64)
  d65 : Df K mg "integer_of" (top 65)
theorem two (D : Dv K mg) (B : Bl mg) : Cal P w K mg base 5 "told_by" ["text"] spTold ∧ Cal P w K mg base 6 "stretch_of" ["equation", "rank"] spStr := by
  have ii := c_isint (P := P) (w := w) (base := base) D.d18 B
  have it := c_isterm D.d22 B ii
  have wr := c_wrong D.d23 B it
  have tr := c_trim (P := P) (w := w) (base := base) D.d25 B
  have gc := c_gcd (P := P) (w := w) (base := base) D.d26 B
  have pr := c_prim D.d27 B gc
  have ne := c_neg (P := P) (w := w) (base := base) D.d28 B
  have de := c_der (P := P) (w := w) (base := base) D.d29 B
  have va : Cal P w K mg base 1 "value_at" ["terms", "top", "bottom"] spVal := (c_val1 D.d30).or ((c_val2 D.d30).or (c_val3 D.d30))
  have co : Cal P w K mg base 2 "combined" ["factor", "one", "weight", "other", "shift"] spComb := ((c_Comb32 D.d32 B tr).or (c_Comb22 D.d32 B tr)).or ((c_Comb21 D.d32 B tr).or (c_Comb11 D.d32 B tr))
  have re := (c_remA D.d33 B co pr).or (c_remB D.d33 B co pr)
  have st := c_sturm D.d37 B de re ne
  have ch := c_chg D.d38 B va
  have ra := c_reach (P := P) (w := w) (base := base) D.d39 B
  have up := c_upto D.d40 ch ra
  have al := c_all D.d41 up ra
  have lo := c_lone D.d45 st ra ch up
  have gu := c_gue D.d47 va
  have rf := c_ref D.d46 B gu
  have io := c_intof (P := P) (w := w) (base := base) D.d65 B
  have dv := c_div (P := P) (w := w) (base := base) D.d52 B
  have li := c_lin D.d53 B dv va
  have lf := c_lf D.d51 B li
  have le := c_least D.d49 gc lf
  exact ⟨c_told D.d64 B io wr le st up al, c_str D.d44 B lo rf⟩
/-- an instance comes out -/
theorem mk_shape {X : Cx} {p p2 pos : Pos} (S : ShC X.K X.mg C) (D : Dv X.K X.mg) (B : Bl X.mg) (hr : Room 37 X.A) (hg : Gl X "Shape") :
    PE X (.Call (.Name "Shape" p) [.Constant (.str stx) 0 p2] [] pos) (fun _ H Q => ∀ a H', Same H H' → (∃ dx fs, H' a = some (.ins C dx fs)) → Q (.ref a) H') := by
  obtain ⟨ct, cs⟩ := two (P := X.prog) (w := X.w) (base := X.base) D B
  have h := pe_mkS (j := 0) (p := p) (pos := pos) S ct cs (pe_str (x := stx) (j := 0) (pos := p2)) (hr.mono (by decide)) hg
  refine ⟨fun pins s σ H Q I hq => h.run pins s σ H Q I ?_⟩
  intro a dx na nd ne
  refine ⟨H, a, dx, rfl, (same_new nd).trans (same_new (by rw [upd_ne (Ne.symm ne)]; exact na)), na, upd_same, fun H' dx' fs s' h' => ⟨rfl, hq a H' s' ⟨dx', fs, h'⟩⟩⟩
end
end Xq

/-! All defs together; the law's call. -/
namespace Yk
open PySem PySem.Spec PyProof.Rows L2 SX Tq Zq CwR Xk LamX
/-- all defs of trees and of the law where they stand -/
structure Ds (K : PySem.W.Frag) (mg : Str → Option Value) : Prop where
  d60 : Df K mg "check_shape" (top 60)
  d68 : Df K mg "number_of" (top 68)
  d86 : Df K mg "checked" (top 86)
  d87 : Df K mg "told_node" (top 87)
  d88 : Df K mg "leaves_in" (top 88)
  d89 : Df K mg "node_of" (top 89)
  d90 : Df K mg "bracketed" (top 90)
  d91 : Df K mg "plain_text" (top 91)
  d92 : Df K mg "loose_texts" (top 92)
  d97 : Df K mg "panes_of" (top 97)
  d98 : Df K mg "plain" (top 98)
  d99 : Df K mg "ratio" (top 99)
  d100 : Df K mg "laid" (top 100)
  d101 : Df K mg "shapes_of" (top 101)
  d102 : Df K mg "node_ratio" (top 102)
  d107 : Df K mg "_law_well" (top 107)
  d108 : Df K mg "_law_dip" (top 108)
  d109 : Df K mg "_law_of" (top 109)
  d110 : Df K mg "_law_sizes" (top 110)
  d111 : Df K mg "_law_grown" (top 111)
  d112 : Df K mg "_law_said" (top 112)
  d113 : Df K mg "_law_reads" (top 113)
  d114 : Df K mg "_law_bent" (top 114)
  d115 : Df K mg "_law_caught" (top 115)
  d117 : Df K mg "law" (top 117)
section
variable {P : Program} {w : World} {K : PySem.W.Frag} {mg : Str → Option Value} {base : Heap} {C Bc fI CS Pt f c : Addr} {fd : FuncData}
theorem mkSh (S : Xq.ShC K mg CS) (D : Xq.Dv K mg) (B : Xq.Bl mg) : MkSh P w K mg base CS 37 := ⟨by
  intro X p p2 pos e1 e2 e3 e4 e5 ec hr hg
  subst e1 e2 e3 e4 e5
  have h := Xq.mk_shape (X := X) (p := p) (p2 := p2) (pos := pos) S D B hr hg
  refine ⟨fun pins s σ H Q I hq => h.run pins s σ H Q I fun a H' s' hx => ?_⟩
  obtain ⟨dx, fs, hx⟩ := hx
  exact hq _ H' s' ⟨a, dx, fs, rfl, hx⟩⟩
theorem n68 : FnScope ["shape", "fraction"] ["shape", "fraction"] (defScope (top 68)) := ⟨rfl, rfl, rfl, by decide +kernel, rfl, by decide +kernel, by decide +kernel⟩
theorem n102 : FnScope ["shape", "node", "kind", "parts", "value", "part", "addend"] ["shape", "node"] (defScope (top 102)) := ⟨rfl, rfl, rfl, by decide +kernel, rfl, by decide +kernel, by decide +kernel⟩
theorem law_all (D : Ds K mg) (B : Bl w K mg) (S : Xq.ShC K mg CS) (V : Xq.Dv K mg) (BX : Xq.Bl mg) (Z : ShF K mg CS) (Y : TErr K mg C Bc fI) (T : XfC K C) (one : PySem.W.exmOne K (.ref C) (.ref C) = some true) (rp : mg "repr" = none)
    (F : FunC K "_law_right" (top 116) f fd c) (m : mg "_law_right" = some (.ref f)) (TB : TabB base mg c Pt) : CalG P w K mg base 41 "law" ["_law_script"] (spLaw K Pt) := by
  have leaves := c_leaves (P := P) (base := base) D.d88 B
  have node := c_node (P := P) (base := base) D.d89 B
  have br := c_br (P := P) (base := base) D.d90 B
  have tn := c_tn D.d87 B leaves node
  have chk := c_chk D.d86 Y tn
  have pt := c_plain36 D.d92 D.d91 B br
  have pan := c_pan D.d97 chk leaves
  have pla := c_pla D.d98 chk pt
  have cs := c_cs (P := P) (base := base) D.d60 B Z
  have no := never (P := P) (w := w) (base := base) D.d68 n68 (fun _ _ _ _ _ _ us hl => match us, hl with | [_, _], _ => rfl)
  have nr := never (P := P) (w := w) (base := base) D.d102 n102 (fun _ _ _ _ _ _ us hl => match us, hl with | [_, _], _ => rfl)
  have rat := c_rat D.d99 cs chk nr
  have lai := c_lai D.d100 cs chk no
  have sho := c_sho D.d101 chk
  have well := c_well (P := P) (base := base) D.d107 B
  have dip := c_dip (P := P) (base := base) D.d108 B
  have of := c_of D.d109 B dip
  have si := c_si D.d110 B dip
  have gr := all_gr D.d111 B of si 14 (by omega)
  have sd := all_sd (P := P) (base := base) D.d112 B 14 (by omega)
  have rd := c_rd (P := P) (base := base) D.d113 B
  have be := c_be D.d114 B dip of
  have ri := c_ri F m TB ⟨⟨B, rp, Y, T, one, D.d115⟩, mkSh S V BX, dip, of, gr, sd, be, rd, pan,
    pan.k1 D.d97 (fun _ _ _ _ _ _ _ => rfl) (fun _ _ _ _ _ _ _ => rfl), pla, rat, lai.k2 D.d100 (fun _ _ _ _ _ _ _ _ => rfl), sho⟩
  exact c_law D.d117 B ri well
end
end Yk

/-! Where all stands behind the top of k42. -/
namespace Wk
open PySem PySem.Spec PyProof.Rows L2 SX Tq Xk LamX
noncomputable abbrev HK (p : Params) : PySem.W.Frag := Hd.K p
theorem topZ (i : Nat) : Zq.top i = Hd.hT i := congrArg (fun p : Program => p.main.body.getD i (.Pass ⟨0, 0, 0, 0⟩)) Hd.pT
theorem topX (i : Nat) : Xq.top i = Hd.hT i := congrArg (fun p : Program => p.main.body.getD i (.Pass ⟨0, 0, 0, 0⟩)) Hd.pT
section
variable {p : Params} {mg : Str → Option Value} {h : Heap}
theorem fd60 (p : Params) : ∃ fd, Fun (HK p) "check_shape" "check_shape" (Zq.top 60) 564 fd := by
  rw [topZ]
  refine ⟨?fd, ⟨⟨?a1, ?a2, ?a3, ?a4, ?a5, ?a6, ?a7, ?a8, ?a9, ?e1, ?e2, ?e3⟩, ?e4⟩⟩
  case e1 => exact rfl
  case e2 => exact rfl
  case e3 => kernel_rfl
  case e4 => kernel_rfl
theorem df60 (X : (HK p).In h) (G : h.Ns mainGlobals mg) : Zq.Df (HK p) mg "check_shape" (Zq.top 60) := by
  obtain ⟨fd, F⟩ := fd60 p
  exact ⟨564, fd, F, PySem.W.mg_of X G (by kernel_rfl)⟩
theorem fd68 (p : Params) : ∃ fd, Fun (HK p) "number_of" "number_of" (Zq.top 68) 609 fd := by
  rw [topZ]
  refine ⟨?fd, ⟨⟨?a1, ?a2, ?a3, ?a4, ?a5, ?a6, ?a7, ?a8, ?a9, ?e1, ?e2, ?e3⟩, ?e4⟩⟩
  case e1 => exact rfl
  case e2 => exact rfl
  case e3 => kernel_rfl
  case e4 => kernel_rfl
theorem df68 (X : (HK p).In h) (G : h.Ns mainGlobals mg) : Zq.Df (HK p) mg "number_of" (Zq.top 68) := by
  obtain ⟨fd, F⟩ := fd68 p
  exact ⟨609, fd, F, PySem.W.mg_of X G (by kernel_rfl)⟩
theorem fd86 (p : Params) : ∃ fd, Fun (HK p) "checked" "checked" (Zq.top 86) 676 fd := by
  rw [topZ]
  refine ⟨?fd, ⟨⟨?a1, ?a2, ?a3, ?a4, ?a5, ?a6, ?a7, ?a8, ?a9, ?e1, ?e2, ?e3⟩, ?e4⟩⟩
  case e1 => exact rfl
  case e2 => exact rfl
  case e3 => kernel_rfl
  case e4 => kernel_rfl
theorem df86 (X : (HK p).In h) (G : h.Ns mainGlobals mg) : Zq.Df (HK p) mg "checked" (Zq.top 86) := by
  obtain ⟨fd, F⟩ := fd86 p
  exact ⟨676, fd, F, PySem.W.mg_of X G (by kernel_rfl)⟩
theorem fd87 (p : Params) : ∃ fd, Fun (HK p) "told_node" "told_node" (Zq.top 87) 683 fd := by
  rw [topZ]
  refine ⟨?fd, ⟨⟨?a1, ?a2, ?a3, ?a4, ?a5, ?a6, ?a7, ?a8, ?a9, ?e1, ?e2, ?e3⟩, ?e4⟩⟩
  case e1 => exact rfl
  case e2 => exact rfl
  case e3 => kernel_rfl
  case e4 => kernel_rfl
theorem df87 (X : (HK p).In h) (G : h.Ns mainGlobals mg) : Zq.Df (HK p) mg "told_node" (Zq.top 87) := by
  obtain ⟨fd, F⟩ := fd87 p
  exact ⟨683, fd, F, PySem.W.mg_of X G (by kernel_rfl)⟩
theorem fd88 (p : Params) : ∃ fd, Fun (HK p) "leaves_in" "leaves_in" (Zq.top 88) 690 fd := by
  rw [topZ]
  refine ⟨?fd, ⟨⟨?a1, ?a2, ?a3, ?a4, ?a5, ?a6, ?a7, ?a8, ?a9, ?e1, ?e2, ?e3⟩, ?e4⟩⟩
  case e1 => exact rfl
  case e2 => exact rfl
  case e3 => kernel_rfl
  case e4 => kernel_rfl
theorem df88 (X : (HK p).In h) (G : h.Ns mainGlobals mg) : Zq.Df (HK p) mg "leaves_in" (Zq.top 88) := by
  obtain ⟨fd, F⟩ := fd88 p
  exact ⟨690, fd, F, PySem.W.mg_of X G (by kernel_rfl)⟩
theorem fd89 (p : Params) : ∃ fd, Fun (HK p) "node_of" "node_of" (Zq.top 89) 697 fd := by
  rw [topZ]
  refine ⟨?fd, ⟨⟨?a1, ?a2, ?a3, ?a4, ?a5, ?a6, ?a7, ?a8, ?a9, ?e1, ?e2, ?e3⟩, ?e4⟩⟩
  case e1 => exact rfl
  case e2 => exact rfl
  case e3 => kernel_rfl
  case e4 => kernel_rfl
theorem df89 (X : (HK p).In h) (G : h.Ns mainGlobals mg) : Zq.Df (HK p) mg "node_of" (Zq.top 89) := by
  obtain ⟨fd, F⟩ := fd89 p
  exact ⟨697, fd, F, PySem.W.mg_of X G (by kernel_rfl)⟩
theorem fd90 (p : Params) : ∃ fd, Fun (HK p) "bracketed" "bracketed" (Zq.top 90) 704 fd := by
  rw [topZ]
  refine ⟨?fd, ⟨⟨?a1, ?a2, ?a3, ?a4, ?a5, ?a6, ?a7, ?a8, ?a9, ?e1, ?e2, ?e3⟩, ?e4⟩⟩
  case e1 => exact rfl
  case e2 => exact rfl
  case e3 => kernel_rfl
  case e4 => kernel_rfl
theorem df90 (X : (HK p).In h) (G : h.Ns mainGlobals mg) : Zq.Df (HK p) mg "bracketed" (Zq.top 90) := by
  obtain ⟨fd, F⟩ := fd90 p
  exact ⟨704, fd, F, PySem.W.mg_of X G (by kernel_rfl)⟩
theorem fd91 (p : Params) : ∃ fd, Fun (HK p) "plain_text" "plain_text" (Zq.top 91) 711 fd := by
  rw [topZ]
  refine ⟨?fd, ⟨⟨?a1, ?a2, ?a3, ?a4, ?a5, ?a6, ?a7, ?a8, ?a9, ?e1, ?e2, ?e3⟩, ?e4⟩⟩
  case e1 => exact rfl
  case e2 => exact rfl
  case e3 => kernel_rfl
  case e4 => kernel_rfl
theorem df91 (X : (HK p).In h) (G : h.Ns mainGlobals mg) : Zq.Df (HK p) mg "plain_text" (Zq.top 91) := by
  obtain ⟨fd, F⟩ := fd91 p
  exact ⟨711, fd, F, PySem.W.mg_of X G (by kernel_rfl)⟩
theorem fd92 (p : Params) : ∃ fd, Fun (HK p) "loose_texts" "loose_texts" (Zq.top 92) 716 fd := by
  rw [topZ]
  refine ⟨?fd, ⟨⟨?a1, ?a2, ?a3, ?a4, ?a5, ?a6, ?a7, ?a8, ?a9, ?e1, ?e2, ?e3⟩, ?e4⟩⟩
  case e1 => exact rfl
  case e2 => exact rfl
  case e3 => kernel_rfl
  case e4 => kernel_rfl
theorem df92 (X : (HK p).In h) (G : h.Ns mainGlobals mg) : Zq.Df (HK p) mg "loose_texts" (Zq.top 92) := by
  obtain ⟨fd, F⟩ := fd92 p
  exact ⟨716, fd, F, PySem.W.mg_of X G (by kernel_rfl)⟩
theorem fd97 (p : Params) : ∃ fd, Fun (HK p) "panes_of" "panes_of" (Zq.top 97) 735 fd := by
  rw [topZ]
  refine ⟨?fd, ⟨⟨?a1, ?a2, ?a3, ?a4, ?a5, ?a6, ?a7, ?a8, ?a9, ?e1, ?e2, ?e3⟩, ?e4⟩⟩
  case e1 => exact rfl
  case e2 => exact rfl
  case e3 => kernel_rfl
  case e4 => kernel_rfl
theorem df97 (X : (HK p).In h) (G : h.Ns mainGlobals mg) : Zq.Df (HK p) mg "panes_of" (Zq.top 97) := by
  obtain ⟨fd, F⟩ := fd97 p
  exact ⟨735, fd, F, PySem.W.mg_of X G (by kernel_rfl)⟩
theorem fd98 (p : Params) : ∃ fd, Fun (HK p) "plain" "plain" (Zq.top 98) 742 fd := by
  rw [topZ]
  refine ⟨?fd, ⟨⟨?a1, ?a2, ?a3, ?a4, ?a5, ?a6, ?a7, ?a8, ?a9, ?e1, ?e2, ?e3⟩, ?e4⟩⟩
  case e1 => exact rfl
  case e2 => exact rfl
  case e3 => kernel_rfl
  case e4 => kernel_rfl
theorem df98 (X : (HK p).In h) (G : h.Ns mainGlobals mg) : Zq.Df (HK p) mg "plain" (Zq.top 98) := by
  obtain ⟨fd, F⟩ := fd98 p
  exact ⟨742, fd, F, PySem.W.mg_of X G (by kernel_rfl)⟩
theorem fd99 (p : Params) : ∃ fd, Fun (HK p) "ratio" "ratio" (Zq.top 99) 749 fd := by
  rw [topZ]
  refine ⟨?fd, ⟨⟨?a1, ?a2, ?a3, ?a4, ?a5, ?a6, ?a7, ?a8, ?a9, ?e1, ?e2, ?e3⟩, ?e4⟩⟩
  case e1 => exact rfl
  case e2 => exact rfl
  case e3 => kernel_rfl
  case e4 => kernel_rfl
theorem df99 (X : (HK p).In h) (G : h.Ns mainGlobals mg) : Zq.Df (HK p) mg "ratio" (Zq.top 99) := by
  obtain ⟨fd, F⟩ := fd99 p
  exact ⟨749, fd, F, PySem.W.mg_of X G (by kernel_rfl)⟩
theorem fd100 (p : Params) : ∃ fd, Fun (HK p) "laid" "laid" (Zq.top 100) 756 fd := by
  rw [topZ]
  refine ⟨?fd, ⟨⟨?a1, ?a2, ?a3, ?a4, ?a5, ?a6, ?a7, ?a8, ?a9, ?e1, ?e2, ?e3⟩, ?e4⟩⟩
  case e1 => exact rfl
  case e2 => exact rfl
  case e3 => kernel_rfl
  case e4 => kernel_rfl
theorem df100 (X : (HK p).In h) (G : h.Ns mainGlobals mg) : Zq.Df (HK p) mg "laid" (Zq.top 100) := by
  obtain ⟨fd, F⟩ := fd100 p
  exact ⟨756, fd, F, PySem.W.mg_of X G (by kernel_rfl)⟩
theorem fd101 (p : Params) : ∃ fd, Fun (HK p) "shapes_of" "shapes_of" (Zq.top 101) 763 fd := by
  rw [topZ]
  refine ⟨?fd, ⟨⟨?a1, ?a2, ?a3, ?a4, ?a5, ?a6, ?a7, ?a8, ?a9, ?e1, ?e2, ?e3⟩, ?e4⟩⟩
  case e1 => exact rfl
  case e2 => exact rfl
  case e3 => kernel_rfl
  case e4 => kernel_rfl
theorem df101 (X : (HK p).In h) (G : h.Ns mainGlobals mg) : Zq.Df (HK p) mg "shapes_of" (Zq.top 101) := by
  obtain ⟨fd, F⟩ := fd101 p
  exact ⟨763, fd, F, PySem.W.mg_of X G (by kernel_rfl)⟩
theorem fd102 (p : Params) : ∃ fd, Fun (HK p) "node_ratio" "node_ratio" (Zq.top 102) 770 fd := by
  rw [topZ]
  refine ⟨?fd, ⟨⟨?a1, ?a2, ?a3, ?a4, ?a5, ?a6, ?a7, ?a8, ?a9, ?e1, ?e2, ?e3⟩, ?e4⟩⟩
  case e1 => exact rfl
  case e2 => exact rfl
  case e3 => kernel_rfl
  case e4 => kernel_rfl
theorem df102 (X : (HK p).In h) (G : h.Ns mainGlobals mg) : Zq.Df (HK p) mg "node_ratio" (Zq.top 102) := by
  obtain ⟨fd, F⟩ := fd102 p
  exact ⟨770, fd, F, PySem.W.mg_of X G (by kernel_rfl)⟩
theorem fd107 (p : Params) : ∃ fd, Fun (HK p) "_law_well" "_law_well" (Zq.top 107) 798 fd := by
  rw [topZ]
  refine ⟨?fd, ⟨⟨?a1, ?a2, ?a3, ?a4, ?a5, ?a6, ?a7, ?a8, ?a9, ?e1, ?e2, ?e3⟩, ?e4⟩⟩
  case e1 => exact rfl
  case e2 => exact rfl
  case e3 => kernel_rfl
  case e4 => kernel_rfl
theorem df107 (X : (HK p).In h) (G : h.Ns mainGlobals mg) : Zq.Df (HK p) mg "_law_well" (Zq.top 107) := by
  obtain ⟨fd, F⟩ := fd107 p
  exact ⟨798, fd, F, PySem.W.mg_of X G (by kernel_rfl)⟩
theorem fd108 (p : Params) : ∃ fd, Fun (HK p) "_law_dip" "_law_dip" (Zq.top 108) 805 fd := by
  rw [topZ]
  refine ⟨?fd, ⟨⟨?a1, ?a2, ?a3, ?a4, ?a5, ?a6, ?a7, ?a8, ?a9, ?e1, ?e2, ?e3⟩, ?e4⟩⟩
  case e1 => exact rfl
  case e2 => exact rfl
  case e3 => kernel_rfl
  case e4 => kernel_rfl
theorem df108 (X : (HK p).In h) (G : h.Ns mainGlobals mg) : Zq.Df (HK p) mg "_law_dip" (Zq.top 108) := by
  obtain ⟨fd, F⟩ := fd108 p
  exact ⟨805, fd, F, PySem.W.mg_of X G (by kernel_rfl)⟩
theorem fd109 (p : Params) : ∃ fd, Fun (HK p) "_law_of" "_law_of" (Zq.top 109) 812 fd := by
  rw [topZ]
  refine ⟨?fd, ⟨⟨?a1, ?a2, ?a3, ?a4, ?a5, ?a6, ?a7, ?a8, ?a9, ?e1, ?e2, ?e3⟩, ?e4⟩⟩
  case e1 => exact rfl
  case e2 => exact rfl
  case e3 => kernel_rfl
  case e4 => kernel_rfl
theorem df109 (X : (HK p).In h) (G : h.Ns mainGlobals mg) : Zq.Df (HK p) mg "_law_of" (Zq.top 109) := by
  obtain ⟨fd, F⟩ := fd109 p
  exact ⟨812, fd, F, PySem.W.mg_of X G (by kernel_rfl)⟩
theorem fd110 (p : Params) : ∃ fd, Fun (HK p) "_law_sizes" "_law_sizes" (Zq.top 110) 819 fd := by
  rw [topZ]
  refine ⟨?fd, ⟨⟨?a1, ?a2, ?a3, ?a4, ?a5, ?a6, ?a7, ?a8, ?a9, ?e1, ?e2, ?e3⟩, ?e4⟩⟩
  case e1 => exact rfl
  case e2 => exact rfl
  case e3 => kernel_rfl
  case e4 => kernel_rfl
theorem df110 (X : (HK p).In h) (G : h.Ns mainGlobals mg) : Zq.Df (HK p) mg "_law_sizes" (Zq.top 110) := by
  obtain ⟨fd, F⟩ := fd110 p
  exact ⟨819, fd, F, PySem.W.mg_of X G (by kernel_rfl)⟩
theorem fd111 (p : Params) : ∃ fd, Fun (HK p) "_law_grown" "_law_grown" (Zq.top 111) 824 fd := by
  rw [topZ]
  refine ⟨?fd, ⟨⟨?a1, ?a2, ?a3, ?a4, ?a5, ?a6, ?a7, ?a8, ?a9, ?e1, ?e2, ?e3⟩, ?e4⟩⟩
  case e1 => exact rfl
  case e2 => exact rfl
  case e3 => kernel_rfl
  case e4 => kernel_rfl
theorem df111 (X : (HK p).In h) (G : h.Ns mainGlobals mg) : Zq.Df (HK p) mg "_law_grown" (Zq.top 111) := by
  obtain ⟨fd, F⟩ := fd111 p
  exact ⟨824, fd, F, PySem.W.mg_of X G (by kernel_rfl)⟩
theorem fd112 (p : Params) : ∃ fd, Fun (HK p) "_law_said" "_law_said" (Zq.top 112) 829 fd := by
  rw [topZ]
  refine ⟨?fd, ⟨⟨?a1, ?a2, ?a3, ?a4, ?a5, ?a6, ?a7, ?a8, ?a9, ?e1, ?e2, ?e3⟩, ?e4⟩⟩
  case e1 => exact rfl
  case e2 => exact rfl
  case e3 => kernel_rfl
  case e4 => kernel_rfl
theorem df112 (X : (HK p).In h) (G : h.Ns mainGlobals mg) : Zq.Df (HK p) mg "_law_said" (Zq.top 112) := by
  obtain ⟨fd, F⟩ := fd112 p
  exact ⟨829, fd, F, PySem.W.mg_of X G (by kernel_rfl)⟩
theorem fd113 (p : Params) : ∃ fd, Fun (HK p) "_law_reads" "_law_reads" (Zq.top 113) 836 fd := by
  rw [topZ]
  refine ⟨?fd, ⟨⟨?a1, ?a2, ?a3, ?a4, ?a5, ?a6, ?a7, ?a8, ?a9, ?e1, ?e2, ?e3⟩, ?e4⟩⟩
  case e1 => exact rfl
  case e2 => exact rfl
  case e3 => kernel_rfl
  case e4 => kernel_rfl
theorem df113 (X : (HK p).In h) (G : h.Ns mainGlobals mg) : Zq.Df (HK p) mg "_law_reads" (Zq.top 113) := by
  obtain ⟨fd, F⟩ := fd113 p
  exact ⟨836, fd, F, PySem.W.mg_of X G (by kernel_rfl)⟩
theorem fd114 (p : Params) : ∃ fd, Fun (HK p) "_law_bent" "_law_bent" (Zq.top 114) 843 fd := by
  rw [topZ]
  refine ⟨?fd, ⟨⟨?a1, ?a2, ?a3, ?a4, ?a5, ?a6, ?a7, ?a8, ?a9, ?e1, ?e2, ?e3⟩, ?e4⟩⟩
  case e1 => exact rfl
  case e2 => exact rfl
  case e3 => kernel_rfl
  case e4 => kernel_rfl
theorem df114 (X : (HK p).In h) (G : h.Ns mainGlobals mg) : Zq.Df (HK p) mg "_law_bent" (Zq.top 114) := by
  obtain ⟨fd, F⟩ := fd114 p
  exact ⟨843, fd, F, PySem.W.mg_of X G (by kernel_rfl)⟩
theorem fd115 (p : Params) : ∃ fd, Fun (HK p) "_law_caught" "_law_caught" (Zq.top 115) 850 fd := by
  rw [topZ]
  refine ⟨?fd, ⟨⟨?a1, ?a2, ?a3, ?a4, ?a5, ?a6, ?a7, ?a8, ?a9, ?e1, ?e2, ?e3⟩, ?e4⟩⟩
  case e1 => exact rfl
  case e2 => exact rfl
  case e3 => kernel_rfl
  case e4 => kernel_rfl
theorem df115 (X : (HK p).In h) (G : h.Ns mainGlobals mg) : Zq.Df (HK p) mg "_law_caught" (Zq.top 115) := by
  obtain ⟨fd, F⟩ := fd115 p
  exact ⟨850, fd, F, PySem.W.mg_of X G (by kernel_rfl)⟩
theorem fd117 (p : Params) : ∃ fd, Fun (HK p) "law" "law" (Zq.top 117) 862 fd := by
  rw [topZ]
  refine ⟨?fd, ⟨⟨?a1, ?a2, ?a3, ?a4, ?a5, ?a6, ?a7, ?a8, ?a9, ?e1, ?e2, ?e3⟩, ?e4⟩⟩
  case e1 => exact rfl
  case e2 => exact rfl
  case e3 => kernel_rfl
  case e4 => kernel_rfl
theorem df117 (X : (HK p).In h) (G : h.Ns mainGlobals mg) : Zq.Df (HK p) mg "law" (Zq.top 117) := by
  obtain ⟨fd, F⟩ := fd117 p
  exact ⟨862, fd, F, PySem.W.mg_of X G (by kernel_rfl)⟩
theorem fd18 (p : Params) : ∃ fd, Fun (HK p) "is_integer" "is_integer" (Xq.top 18) 246 fd := by
  rw [topX]
  refine ⟨?fd, ⟨⟨?a1, ?a2, ?a3, ?a4, ?a5, ?a6, ?a7, ?a8, ?a9, ?e1, ?e2, ?e3⟩, ?e4⟩⟩
  case e1 => exact rfl
  case e2 => exact rfl
  case e3 => kernel_rfl
  case e4 => kernel_rfl
theorem df18 (X : (HK p).In h) (G : h.Ns mainGlobals mg) : Xq.Df (HK p) mg "is_integer" (Xq.top 18) := by
  obtain ⟨fd, F⟩ := fd18 p
  exact ⟨246, fd, F, PySem.W.mg_of X G (by kernel_rfl)⟩
theorem fd22 (p : Params) : ∃ fd, Fun (HK p) "is_term" "is_term" (Xq.top 22) 272 fd := by
  rw [topX]
  refine ⟨?fd, ⟨⟨?a1, ?a2, ?a3, ?a4, ?a5, ?a6, ?a7, ?a8, ?a9, ?e1, ?e2, ?e3⟩, ?e4⟩⟩
  case e1 => exact rfl
  case e2 => exact rfl
  case e3 => kernel_rfl
  case e4 => kernel_rfl
theorem df22 (X : (HK p).In h) (G : h.Ns mainGlobals mg) : Xq.Df (HK p) mg "is_term" (Xq.top 22) := by
  obtain ⟨fd, F⟩ := fd22 p
  exact ⟨272, fd, F, PySem.W.mg_of X G (by kernel_rfl)⟩
theorem fd23 (p : Params) : ∃ fd, Fun (HK p) "wrong_term" "wrong_term" (Xq.top 23) 279 fd := by
  rw [topX]
  refine ⟨?fd, ⟨⟨?a1, ?a2, ?a3, ?a4, ?a5, ?a6, ?a7, ?a8, ?a9, ?e1, ?e2, ?e3⟩, ?e4⟩⟩
  case e1 => exact rfl
  case e2 => exact rfl
  case e3 => kernel_rfl
  case e4 => kernel_rfl
theorem df23 (X : (HK p).In h) (G : h.Ns mainGlobals mg) : Xq.Df (HK p) mg "wrong_term" (Xq.top 23) := by
  obtain ⟨fd, F⟩ := fd23 p
  exact ⟨279, fd, F, PySem.W.mg_of X G (by kernel_rfl)⟩
theorem fd25 (p : Params) : ∃ fd, Fun (HK p) "trimmed" "trimmed" (Xq.top 25) 286 fd := by
  rw [topX]
  refine ⟨?fd, ⟨⟨?a1, ?a2, ?a3, ?a4, ?a5, ?a6, ?a7, ?a8, ?a9, ?e1, ?e2, ?e3⟩, ?e4⟩⟩
  case e1 => exact rfl
  case e2 => exact rfl
  case e3 => kernel_rfl
  case e4 => kernel_rfl
theorem df25 (X : (HK p).In h) (G : h.Ns mainGlobals mg) : Xq.Df (HK p) mg "trimmed" (Xq.top 25) := by
  obtain ⟨fd, F⟩ := fd25 p
  exact ⟨286, fd, F, PySem.W.mg_of X G (by kernel_rfl)⟩
theorem fd26 (p : Params) : ∃ fd, Fun (HK p) "common_divisor" "common_divisor" (Xq.top 26) 293 fd := by
  rw [topX]
  refine ⟨?fd, ⟨⟨?a1, ?a2, ?a3, ?a4, ?a5, ?a6, ?a7, ?a8, ?a9, ?e1, ?e2, ?e3⟩, ?e4⟩⟩
  case e1 => exact rfl
  case e2 => exact rfl
  case e3 => kernel_rfl
  case e4 => kernel_rfl
theorem df26 (X : (HK p).In h) (G : h.Ns mainGlobals mg) : Xq.Df (HK p) mg "common_divisor" (Xq.top 26) := by
  obtain ⟨fd, F⟩ := fd26 p
  exact ⟨293, fd, F, PySem.W.mg_of X G (by kernel_rfl)⟩
theorem fd27 (p : Params) : ∃ fd, Fun (HK p) "primitive" "primitive" (Xq.top 27) 298 fd := by
  rw [topX]
  refine ⟨?fd, ⟨⟨?a1, ?a2, ?a3, ?a4, ?a5, ?a6, ?a7, ?a8, ?a9, ?e1, ?e2, ?e3⟩, ?e4⟩⟩
  case e1 => exact rfl
  case e2 => exact rfl
  case e3 => kernel_rfl
  case e4 => kernel_rfl
theorem df27 (X : (HK p).In h) (G : h.Ns mainGlobals mg) : Xq.Df (HK p) mg "primitive" (Xq.top 27) := by
  obtain ⟨fd, F⟩ := fd27 p
  exact ⟨298, fd, F, PySem.W.mg_of X G (by kernel_rfl)⟩
theorem fd28 (p : Params) : ∃ fd, Fun (HK p) "negative" "negative" (Xq.top 28) 303 fd := by
  rw [topX]
  refine ⟨?fd, ⟨⟨?a1, ?a2, ?a3, ?a4, ?a5, ?a6, ?a7, ?a8, ?a9, ?e1, ?e2, ?e3⟩, ?e4⟩⟩
  case e1 => exact rfl
  case e2 => exact rfl
  case e3 => kernel_rfl
  case e4 => kernel_rfl
theorem df28 (X : (HK p).In h) (G : h.Ns mainGlobals mg) : Xq.Df (HK p) mg "negative" (Xq.top 28) := by
  obtain ⟨fd, F⟩ := fd28 p
  exact ⟨303, fd, F, PySem.W.mg_of X G (by kernel_rfl)⟩
theorem fd29 (p : Params) : ∃ fd, Fun (HK p) "derivative" "derivative" (Xq.top 29) 308 fd := by
  rw [topX]
  refine ⟨?fd, ⟨⟨?a1, ?a2, ?a3, ?a4, ?a5, ?a6, ?a7, ?a8, ?a9, ?e1, ?e2, ?e3⟩, ?e4⟩⟩
  case e1 => exact rfl
  case e2 => exact rfl
  case e3 => kernel_rfl
  case e4 => kernel_rfl
theorem df29 (X : (HK p).In h) (G : h.Ns mainGlobals mg) : Xq.Df (HK p) mg "derivative" (Xq.top 29) := by
  obtain ⟨fd, F⟩ := fd29 p
  exact ⟨308, fd, F, PySem.W.mg_of X G (by kernel_rfl)⟩
theorem fd30 (p : Params) : ∃ fd, Fun (HK p) "value_at" "value_at" (Xq.top 30) 315 fd := by
  rw [topX]
  refine ⟨?fd, ⟨⟨?a1, ?a2, ?a3, ?a4, ?a5, ?a6, ?a7, ?a8, ?a9, ?e1, ?e2, ?e3⟩, ?e4⟩⟩
  case e1 => exact rfl
  case e2 => exact rfl
  case e3 => kernel_rfl
  case e4 => kernel_rfl
theorem df30 (X : (HK p).In h) (G : h.Ns mainGlobals mg) : Xq.Df (HK p) mg "value_at" (Xq.top 30) := by
  obtain ⟨fd, F⟩ := fd30 p
  exact ⟨315, fd, F, PySem.W.mg_of X G (by kernel_rfl)⟩
theorem fd32 (p : Params) : ∃ fd, Fun (HK p) "combined" "combined" (Xq.top 32) 329 fd := by
  rw [topX]
  refine ⟨?fd, ⟨⟨?a1, ?a2, ?a3, ?a4, ?a5, ?a6, ?a7, ?a8, ?a9, ?e1, ?e2, ?e3⟩, ?e4⟩⟩
  case e1 => exact rfl
  case e2 => exact rfl
  case e3 => kernel_rfl
  case e4 => kernel_rfl
theorem df32 (X : (HK p).In h) (G : h.Ns mainGlobals mg) : Xq.Df (HK p) mg "combined" (Xq.top 32) := by
  obtain ⟨fd, F⟩ := fd32 p
  exact ⟨329, fd, F, PySem.W.mg_of X G (by kernel_rfl)⟩
theorem fd33 (p : Params) : ∃ fd, Fun (HK p) "remainder" "remainder" (Xq.top 33) 336 fd := by
  rw [topX]
  refine ⟨?fd, ⟨⟨?a1, ?a2, ?a3, ?a4, ?a5, ?a6, ?a7, ?a8, ?a9, ?e1, ?e2, ?e3⟩, ?e4⟩⟩
  case e1 => exact rfl
  case e2 => exact rfl
  case e3 => kernel_rfl
  case e4 => kernel_rfl
theorem df33 (X : (HK p).In h) (G : h.Ns mainGlobals mg) : Xq.Df (HK p) mg "remainder" (Xq.top 33) := by
  obtain ⟨fd, F⟩ := fd33 p
  exact ⟨336, fd, F, PySem.W.mg_of X G (by kernel_rfl)⟩
theorem fd37 (p : Params) : ∃ fd, Fun (HK p) "sturm_chain" "sturm_chain" (Xq.top 37) 350 fd := by
  rw [topX]
  refine ⟨?fd, ⟨⟨?a1, ?a2, ?a3, ?a4, ?a5, ?a6, ?a7, ?a8, ?a9, ?e1, ?e2, ?e3⟩, ?e4⟩⟩
  case e1 => exact rfl
  case e2 => exact rfl
  case e3 => kernel_rfl
  case e4 => kernel_rfl
theorem df37 (X : (HK p).In h) (G : h.Ns mainGlobals mg) : Xq.Df (HK p) mg "sturm_chain" (Xq.top 37) := by
  obtain ⟨fd, F⟩ := fd37 p
  exact ⟨350, fd, F, PySem.W.mg_of X G (by kernel_rfl)⟩
theorem fd38 (p : Params) : ∃ fd, Fun (HK p) "changes" "changes" (Xq.top 38) 355 fd := by
  rw [topX]
  refine ⟨?fd, ⟨⟨?a1, ?a2, ?a3, ?a4, ?a5, ?a6, ?a7, ?a8, ?a9, ?e1, ?e2, ?e3⟩, ?e4⟩⟩
  case e1 => exact rfl
  case e2 => exact rfl
  case e3 => kernel_rfl
  case e4 => kernel_rfl
theorem df38 (X : (HK p).In h) (G : h.Ns mainGlobals mg) : Xq.Df (HK p) mg "changes" (Xq.top 38) := by
  obtain ⟨fd, F⟩ := fd38 p
  exact ⟨355, fd, F, PySem.W.mg_of X G (by kernel_rfl)⟩
theorem fd39 (p : Params) : ∃ fd, Fun (HK p) "reach" "reach" (Xq.top 39) 360 fd := by
  rw [topX]
  refine ⟨?fd, ⟨⟨?a1, ?a2, ?a3, ?a4, ?a5, ?a6, ?a7, ?a8, ?a9, ?e1, ?e2, ?e3⟩, ?e4⟩⟩
  case e1 => exact rfl
  case e2 => exact rfl
  case e3 => kernel_rfl
  case e4 => kernel_rfl
theorem df39 (X : (HK p).In h) (G : h.Ns mainGlobals mg) : Xq.Df (HK p) mg "reach" (Xq.top 39) := by
  obtain ⟨fd, F⟩ := fd39 p
  exact ⟨360, fd, F, PySem.W.mg_of X G (by kernel_rfl)⟩
theorem fd40 (p : Params) : ∃ fd, Fun (HK p) "roots_up_to" "roots_up_to" (Xq.top 40) 367 fd := by
  rw [topX]
  refine ⟨?fd, ⟨⟨?a1, ?a2, ?a3, ?a4, ?a5, ?a6, ?a7, ?a8, ?a9, ?e1, ?e2, ?e3⟩, ?e4⟩⟩
  case e1 => exact rfl
  case e2 => exact rfl
  case e3 => kernel_rfl
  case e4 => kernel_rfl
theorem df40 (X : (HK p).In h) (G : h.Ns mainGlobals mg) : Xq.Df (HK p) mg "roots_up_to" (Xq.top 40) := by
  obtain ⟨fd, F⟩ := fd40 p
  exact ⟨367, fd, F, PySem.W.mg_of X G (by kernel_rfl)⟩
theorem fd41 (p : Params) : ∃ fd, Fun (HK p) "roots_in_all" "roots_in_all" (Xq.top 41) 374 fd := by
  rw [topX]
  refine ⟨?fd, ⟨⟨?a1, ?a2, ?a3, ?a4, ?a5, ?a6, ?a7, ?a8, ?a9, ?e1, ?e2, ?e3⟩, ?e4⟩⟩
  case e1 => exact rfl
  case e2 => exact rfl
  case e3 => kernel_rfl
  case e4 => kernel_rfl
theorem df41 (X : (HK p).In h) (G : h.Ns mainGlobals mg) : Xq.Df (HK p) mg "roots_in_all" (Xq.top 41) := by
  obtain ⟨fd, F⟩ := fd41 p
  exact ⟨374, fd, F, PySem.W.mg_of X G (by kernel_rfl)⟩
theorem fd44 (p : Params) : ∃ fd, Fun (HK p) "stretch_of" "stretch_of" (Xq.top 44) 395 fd := by
  rw [topX]
  refine ⟨?fd, ⟨⟨?a1, ?a2, ?a3, ?a4, ?a5, ?a6, ?a7, ?a8, ?a9, ?e1, ?e2, ?e3⟩, ?e4⟩⟩
  case e1 => exact rfl
  case e2 => exact rfl
  case e3 => kernel_rfl
  case e4 => kernel_rfl
theorem df44 (X : (HK p).In h) (G : h.Ns mainGlobals mg) : Xq.Df (HK p) mg "stretch_of" (Xq.top 44) := by
  obtain ⟨fd, F⟩ := fd44 p
  exact ⟨395, fd, F, PySem.W.mg_of X G (by kernel_rfl)⟩
theorem fd45 (p : Params) : ∃ fd, Fun (HK p) "lonely_stretch" "lonely_stretch" (Xq.top 45) 402 fd := by
  rw [topX]
  refine ⟨?fd, ⟨⟨?a1, ?a2, ?a3, ?a4, ?a5, ?a6, ?a7, ?a8, ?a9, ?e1, ?e2, ?e3⟩, ?e4⟩⟩
  case e1 => exact rfl
  case e2 => exact rfl
  case e3 => kernel_rfl
  case e4 => kernel_rfl
theorem df45 (X : (HK p).In h) (G : h.Ns mainGlobals mg) : Xq.Df (HK p) mg "lonely_stretch" (Xq.top 45) := by
  obtain ⟨fd, F⟩ := fd45 p
  exact ⟨402, fd, F, PySem.W.mg_of X G (by kernel_rfl)⟩
theorem fd46 (p : Params) : ∃ fd, Fun (HK p) "refined" "refined" (Xq.top 46) 409 fd := by
  rw [topX]
  refine ⟨?fd, ⟨⟨?a1, ?a2, ?a3, ?a4, ?a5, ?a6, ?a7, ?a8, ?a9, ?e1, ?e2, ?e3⟩, ?e4⟩⟩
  case e1 => exact rfl
  case e2 => exact rfl
  case e3 => kernel_rfl
  case e4 => kernel_rfl
theorem df46 (X : (HK p).In h) (G : h.Ns mainGlobals mg) : Xq.Df (HK p) mg "refined" (Xq.top 46) := by
  obtain ⟨fd, F⟩ := fd46 p
  exact ⟨409, fd, F, PySem.W.mg_of X G (by kernel_rfl)⟩
theorem fd47 (p : Params) : ∃ fd, Fun (HK p) "guessed" "guessed" (Xq.top 47) 416 fd := by
  rw [topX]
  refine ⟨?fd, ⟨⟨?a1, ?a2, ?a3, ?a4, ?a5, ?a6, ?a7, ?a8, ?a9, ?e1, ?e2, ?e3⟩, ?e4⟩⟩
  case e1 => exact rfl
  case e2 => exact rfl
  case e3 => kernel_rfl
  case e4 => kernel_rfl
theorem df47 (X : (HK p).In h) (G : h.Ns mainGlobals mg) : Xq.Df (HK p) mg "guessed" (Xq.top 47) := by
  obtain ⟨fd, F⟩ := fd47 p
  exact ⟨416, fd, F, PySem.W.mg_of X G (by kernel_rfl)⟩
theorem fd49 (p : Params) : ∃ fd, Fun (HK p) "is_least" "is_least" (Xq.top 49) 423 fd := by
  rw [topX]
  refine ⟨?fd, ⟨⟨?a1, ?a2, ?a3, ?a4, ?a5, ?a6, ?a7, ?a8, ?a9, ?e1, ?e2, ?e3⟩, ?e4⟩⟩
  case e1 => exact rfl
  case e2 => exact rfl
  case e3 => kernel_rfl
  case e4 => kernel_rfl
theorem df49 (X : (HK p).In h) (G : h.Ns mainGlobals mg) : Xq.Df (HK p) mg "is_least" (Xq.top 49) := by
  obtain ⟨fd, F⟩ := fd49 p
  exact ⟨423, fd, F, PySem.W.mg_of X G (by kernel_rfl)⟩
theorem fd51 (p : Params) : ∃ fd, Fun (HK p) "least_factor" "least_factor" (Xq.top 51) 437 fd := by
  rw [topX]
  refine ⟨?fd, ⟨⟨?a1, ?a2, ?a3, ?a4, ?a5, ?a6, ?a7, ?a8, ?a9, ?e1, ?e2, ?e3⟩, ?e4⟩⟩
  case e1 => exact rfl
  case e2 => exact rfl
  case e3 => kernel_rfl
  case e4 => kernel_rfl
theorem df51 (X : (HK p).In h) (G : h.Ns mainGlobals mg) : Xq.Df (HK p) mg "least_factor" (Xq.top 51) := by
  obtain ⟨fd, F⟩ := fd51 p
  exact ⟨437, fd, F, PySem.W.mg_of X G (by kernel_rfl)⟩
theorem fd52 (p : Params) : ∃ fd, Fun (HK p) "divisors" "divisors" (Xq.top 52) 442 fd := by
  rw [topX]
  refine ⟨?fd, ⟨⟨?a1, ?a2, ?a3, ?a4, ?a5, ?a6, ?a7, ?a8, ?a9, ?e1, ?e2, ?e3⟩, ?e4⟩⟩
  case e1 => exact rfl
  case e2 => exact rfl
  case e3 => kernel_rfl
  case e4 => kernel_rfl
theorem df52 (X : (HK p).In h) (G : h.Ns mainGlobals mg) : Xq.Df (HK p) mg "divisors" (Xq.top 52) := by
  obtain ⟨fd, F⟩ := fd52 p
  exact ⟨442, fd, F, PySem.W.mg_of X G (by kernel_rfl)⟩
theorem fd53 (p : Params) : ∃ fd, Fun (HK p) "linear_factor" "linear_factor" (Xq.top 53) 449 fd := by
  rw [topX]
  refine ⟨?fd, ⟨⟨?a1, ?a2, ?a3, ?a4, ?a5, ?a6, ?a7, ?a8, ?a9, ?e1, ?e2, ?e3⟩, ?e4⟩⟩
  case e1 => exact rfl
  case e2 => exact rfl
  case e3 => kernel_rfl
  case e4 => kernel_rfl
theorem df53 (X : (HK p).In h) (G : h.Ns mainGlobals mg) : Xq.Df (HK p) mg "linear_factor" (Xq.top 53) := by
  obtain ⟨fd, F⟩ := fd53 p
  exact ⟨449, fd, F, PySem.W.mg_of X G (by kernel_rfl)⟩
theorem fd64 (p : Params) : ∃ fd, Fun (HK p) "told_by" "told_by" (Xq.top 64) 590 fd := by
  rw [topX]
  refine ⟨?fd, ⟨⟨?a1, ?a2, ?a3, ?a4, ?a5, ?a6, ?a7, ?a8, ?a9, ?e1, ?e2, ?e3⟩, ?e4⟩⟩
  case e1 => exact rfl
  case e2 => exact rfl
  case e3 => kernel_rfl
  case e4 => kernel_rfl
theorem df64 (X : (HK p).In h) (G : h.Ns mainGlobals mg) : Xq.Df (HK p) mg "told_by" (Xq.top 64) := by
  obtain ⟨fd, F⟩ := fd64 p
  exact ⟨590, fd, F, PySem.W.mg_of X G (by kernel_rfl)⟩
theorem fd65 (p : Params) : ∃ fd, Fun (HK p) "integer_of" "integer_of" (Xq.top 65) 597 fd := by
  rw [topX]
  refine ⟨?fd, ⟨⟨?a1, ?a2, ?a3, ?a4, ?a5, ?a6, ?a7, ?a8, ?a9, ?e1, ?e2, ?e3⟩, ?e4⟩⟩
  case e1 => exact rfl
  case e2 => exact rfl
  case e3 => kernel_rfl
  case e4 => kernel_rfl
theorem df65 (X : (HK p).In h) (G : h.Ns mainGlobals mg) : Xq.Df (HK p) mg "integer_of" (Xq.top 65) := by
  obtain ⟨fd, F⟩ := fd65 p
  exact ⟨597, fd, F, PySem.W.mg_of X G (by kernel_rfl)⟩
theorem ds_of (X : (HK p).In h) (G : h.Ns mainGlobals mg) : Yk.Ds (HK p) mg where
  d60 := df60 X G
  d68 := df68 X G
  d86 := df86 X G
  d87 := df87 X G
  d88 := df88 X G
  d89 := df89 X G
  d90 := df90 X G
  d91 := df91 X G
  d92 := df92 X G
  d97 := df97 X G
  d98 := df98 X G
  d99 := df99 X G
  d100 := df100 X G
  d101 := df101 X G
  d102 := df102 X G
  d107 := df107 X G
  d108 := df108 X G
  d109 := df109 X G
  d110 := df110 X G
  d111 := df111 X G
  d112 := df112 X G
  d113 := df113 X G
  d114 := df114 X G
  d115 := df115 X G
  d117 := df117 X G
theorem dv_of (X : (HK p).In h) (G : h.Ns mainGlobals mg) : Xq.Dv (HK p) mg where
  d18 := df18 X G
  d22 := df22 X G
  d23 := df23 X G
  d25 := df25 X G
  d26 := df26 X G
  d27 := df27 X G
  d28 := df28 X G
  d29 := df29 X G
  d30 := df30 X G
  d32 := df32 X G
  d33 := df33 X G
  d37 := df37 X G
  d38 := df38 X G
  d39 := df39 X G
  d40 := df40 X G
  d41 := df41 X G
  d44 := df44 X G
  d45 := df45 X G
  d46 := df46 X G
  d47 := df47 X G
  d49 := df49 X G
  d51 := df51 X G
  d52 := df52 X G
  d53 := df53 X G
  d64 := df64 X G
  d65 := df65 X G
theorem clo_k (w : World) : ∃ es n, KDict (HK w.params) w 669 es n := He.dicW_ok (ks := ["[", "("]) rfl
theorem bl_of {w : World} (X : (HK w.params).In h) (G : h.Ns mainGlobals mg) : Zq.Bl w (HK w.params) mg where
  isinstance_ := PySem.W.mg_none_of X G (by kernel_rfl)
  int_ := PySem.W.mg_none_of X G (by kernel_rfl)
  tuple_ := PySem.W.mg_none_of X G (by kernel_rfl)
  str_ := PySem.W.mg_none_of X G (by kernel_rfl)
  len_ := PySem.W.mg_none_of X G (by kernel_rfl)
  all_ := PySem.W.mg_none_of X G (by kernel_rfl)
  range_ := PySem.W.mg_none_of X G (by kernel_rfl)
  max_ := PySem.W.mg_none_of X G (by kernel_rfl)
  min_ := PySem.W.mg_none_of X G (by kernel_rfl)
  abs_ := PySem.W.mg_none_of X G (by kernel_rfl)
  divmod_ := PySem.W.mg_none_of X G (by kernel_rfl)
  sorted_ := PySem.W.mg_none_of X G (by kernel_rfl)
  leaves_ := ⟨_, PySem.W.mg_of X G rfl⟩
  lies_ := ⟨_, PySem.W.mg_of X G rfl⟩
  stands_ := ⟨_, PySem.W.mg_of X G rfl⟩
  cols_ := ⟨_, PySem.W.mg_of X G rfl⟩
  rows_ := ⟨_, PySem.W.mg_of X G rfl⟩
  clo_ := by
    obtain ⟨es, n, kd⟩ := clo_k w
    exact ⟨669, es, n, PySem.W.mg_of X G rfl, kd, ⟨_, rfl⟩, ⟨_, rfl⟩⟩
theorem bx_of (X : (HK p).In h) (G : h.Ns mainGlobals mg) : Xq.Bl mg where
  isinstance_ := PySem.W.mg_none_of X G (by kernel_rfl)
  int_ := PySem.W.mg_none_of X G (by kernel_rfl)
  bool_ := PySem.W.mg_none_of X G (by kernel_rfl)
  tuple_ := PySem.W.mg_none_of X G (by kernel_rfl)
  str_ := PySem.W.mg_none_of X G (by kernel_rfl)
  len_ := PySem.W.mg_none_of X G (by kernel_rfl)
  all_ := PySem.W.mg_none_of X G (by kernel_rfl)
  range_ := PySem.W.mg_none_of X G (by kernel_rfl)
  max_ := PySem.W.mg_none_of X G (by kernel_rfl)
  min_ := PySem.W.mg_none_of X G (by kernel_rfl)
  abs_ := PySem.W.mg_none_of X G (by kernel_rfl)
  enumerate_ := PySem.W.mg_none_of X G (by kernel_rfl)
  zip_ := PySem.W.mg_none_of X G (by kernel_rfl)
  gcd_ := PySem.W.mg_of X G (by kernel_rfl)
  deg_ := ⟨_, PySem.W.mg_of X G rfl⟩
  term_ := ⟨_, PySem.W.mg_of X G rfl⟩
  bits_ := ⟨_, PySem.W.mg_of X G rfl⟩
theorem sh_cl (p : Params) : Cls (HK p) 546 := ⟨by kernel_rfl, by kernel_rfl, by kernel_rfl, by kernel_rfl⟩
theorem sh_init (p : Params) : ∃ f fd, Mk (HK p) 546 f ∧ Fun (HK p) "__init__" "Shape.__init__" (inClass (Xq.top 58) 0) f fd := by
  rw [topX]
  refine ⟨482, ?fd, ⟨?m1, ?m2, ?m3, ?m4⟩, ⟨⟨?a1, ?a2, ?a3, ?a4, ?a5, ?a6, ?a7, ?a8, ?a9, ?e1, ?e2, ?e3⟩, ?e4⟩⟩
  case m2 => kernel_rfl
  case m1 => kernel_rfl
  case m3 => kernel_rfl
  case m4 => kernel_rfl
  case e1 => exact rfl
  case e2 => exact rfl
  case e3 => kernel_rfl
  case e4 => kernel_rfl
theorem sh_of (X : (HK p).In h) (G : h.Ns mainGlobals mg) : Xq.ShC (HK p) mg 546 where
  cl := sh_cl p
  n1 := by show PySem.W.findIn _ _ _ = _; kernel_rfl
  n2 := by show PySem.W.findIn _ _ _ = _; kernel_rfl
  n3 := by show PySem.W.findIn _ _ _ = _; kernel_rfl
  n4 := by show PySem.W.findIn _ _ _ = _; kernel_rfl
  n5 := by show PySem.W.findIn _ _ _ = _; kernel_rfl
  mgC := PySem.W.mg_of X G (by kernel_rfl)
  mkS := sh_init p
theorem sf_of (X : (HK p).In h) (G : h.Ns mainGlobals mg) : Zq.ShF (HK p) mg 546 where
  m := PySem.W.mg_of X G (by kernel_rfl)
  cl := sh_cl p
  one := by kernel_rfl
  ca := by kernel_rfl
  cn := by kernel_rfl
  ct := by kernel_rfl
  cm := by kernel_rfl
theorem oxT (p : Params) : OxC (HK p) 129 52 "ValueError.__new__" tlV :=
  ⟨⟨_, _, _, _, _, _, _, _, _, _, _, _, _, _, rfl⟩, by kernel_rfl, by kernel_rfl, by kernel_rfl, by kernel_rfl, by kernel_rfl, by kernel_rfl, by kernel_rfl, by kernel_rfl, by kernel_rfl, by kernel_rfl⟩
theorem fI_k (p : Params) : ∃ f fd, Fun (HK p) "__init__" "InvalidTree.__init__" (Zq.ini 6) f fd ∧ PySem.W.findIn (HK p) (.ref 129) "__init__" = some (some (.ref f)) ∧ PySem.W.typeIn (HK p) (.ref f) = some (.type "function") := by
  unfold Zq.ini
  rw [topZ]
  refine ⟨?f, ?fd, ⟨⟨?a1, ?a2, ?a3, ?a4, ?a5, ?a6, ?a7, ?a8, ?a9, ?e1, ?e2, ?e3⟩, ?e4⟩, ?e5, ?e6⟩
  case e5 => exact rfl
  case e1 => exact rfl
  case e2 => exact rfl
  case e3 => kernel_rfl
  case e4 => kernel_rfl
  case e6 => kernel_rfl
theorem ye_of (X : (HK p).In h) (G : h.Ns mainGlobals mg) : ∃ fI, Zq.TErr (HK p) mg 129 52 fI := by
  obtain ⟨f, fd, F, i, t⟩ := fI_k p
  exact ⟨f, {
    T := oxT p
    tyC := by kernel_rfl
    iC := i
    tI := t
    F := ⟨fd, F⟩
    R := ⟨by kernel_rfl, by kernel_rfl, by kernel_rfl⟩
    mB := PySem.W.mg_of X G (by kernel_rfl)
    mC := PySem.W.mg_of X G (by kernel_rfl)
    hno := by kernel_rfl }⟩
theorem xf_k (p : Params) : XfC (HK p) 129 := xfB_ok (by kernel_rfl)
theorem one_k (p : Params) : PySem.W.exmOne (HK p) (.ref 129) (.ref 129) = some true := by kernel_rfl
theorem rp_of (X : (HK p).In h) (G : h.Ns mainGlobals mg) : mg "repr" = none := PySem.W.mg_none_of X G (by kernel_rfl)
theorem ri_k (p : Params) : ∃ fd c Pt, Yk.FunC (HK p) "_law_right" (Zq.top 116) 857 fd c ∧ PySem.W.tabIn (HK p) "_law_right" = some (c, Pt) ∧ (HK p).lookup Pt = none := by
  rw [topZ]
  refine ⟨?fd, ?c, ?P, ⟨⟨?a1, ?a2, ?a3, ?a4, ?a5, ?a6, ?a7, ?a8, ?e1, ?e2, ?e3⟩, ?e4⟩, ?e5, ?e6⟩
  case e1 => exact rfl
  case e2 => exact rfl
  case e5 => exact rfl
  case e3 => kernel_rfl
  case e4 => kernel_rfl
  case e6 => kernel_rfl
theorem ri_m (X : (HK p).In h) (G : h.Ns mainGlobals mg) : mg "_law_right" = some (.ref 857) := PySem.W.mg_of X G (by kernel_rfl)
end
end Wk

/-! The end of k42. -/
namespace Wk
open PySem PySem.Spec PyProof.Rows L2 SX Tq Xk LamX
theorem room41 : Room 41 callerA := ⟨rfl, by decide, by decide⟩
theorem walk_42 {l : PySem.W.OpenLaw} {q : Program} {loose : List Str} {XP : (Str → Option Value) → Heap → Prop} {YP : World → Heap → Prop} {d : DefRec}
    (hn : l.most = some 63) (hdf : d.params.defaults = []) (hnm : d.name = "law")
    (hY : ∀ (w : World) (h : Heap), YP w h → (HK w.params).In h) (hR : ((recsOf q).find? (fun e => e.name == ("_law_right" : Str))).isSome = true) :
    PySem.W.WalkO q loose XP YP l.row.toRowW d [] (fun f vs => PySem.call f vs) := by
  refine Att.attach_call hn hdf fun w s₀ s₁ mg mb fa o pm cd doc a vs ns G Y ho hd hcd hmg hobj hints hlen hg => ?_
  have KX := hY w _ Y
  rw [hnm] at hmg
  obtain ⟨fd, c, Pt, F, ht, nT⟩ := ri_k w.params
  obtain ⟨dr, hdr⟩ := Option.isSome_iff_exists.mp hR
  obtain ⟨hc, hT⟩ := PySem.W.tab_of G.T KX hdr ht
  obtain ⟨fI, YE⟩ := ye_of KX G.T.g
  exact Yk.call_g3 KX G.T.g G.T.b G.T.builtins G.T.nolimit hg hT nT hc G.T.bmain hobj hints (Nat.le_trans hlen (by decide)) room41
    (fun base TB => Yk.law_all (P := l.prog) (w := w) (base := base) (ds_of KX G.T.g) (bl_of KX G.T.g) (sh_of KX G.T.g) (dv_of KX G.T.g) (bx_of KX G.T.g) (sf_of KX G.T.g) YE (xf_k w.params) (one_k w.params) (rp_of KX G.T.g) F (ri_m KX G.T.g) TB)
    hmg fun H hP hS => ⟨a, ns, rfl, hS, hlen, fun p hp => by rw [List.mem_singleton.mp hp]; exact TabS.nil hP, fun _ => rfl⟩
end Wk
open PySem PySem.W PyProof.Rows in
theorem PySem.Challenge.cw_likepanes_k42_whole_texts_of_trees_holds : PySem.Challenge.rw_likepanes_k42_whole_texts_of_trees.Holds := by
  w_on; o_law
  refine Hd.hd (by assumption) ?hw ?hc
  case hw =>
    show (OpenRow.toRowW (OpenLaw.row PySem.Challenge.rw_likepanes_k42_whole_texts_of_trees)).promised
    w_witness2
  case hc => exact Wk.walk_42 (l := PySem.Challenge.rw_likepanes_k42_whole_texts_of_trees) rfl (by kernel_rfl) (by kernel_rfl) (fun w h Y => PySem.W.kIn_of Y) (by kernel_rfl)
#print axioms PySem.Challenge.cw_likepanes_k42_whole_texts_of_trees_holds
