import PyProof.Rows.All
import Wide.All
import OpenK.AllK
import Wide.FinOn
import HandS.AnyAll
import HandS.Base
import HandS.Call
import HandS.Codes
import HandS.EndTab
import HandS.Flow
import HandS.ForMost
import HandS.Gcd
import HandS.HeadHook3
import HandS.IsInst
import HandS.List
import HandS.NoneIn
import HandS.Property
import HandS.Rev
import HandS.Star
import HandS.StrMore
import HandS.Style
import HandS.TupAny
import HandS.Walk
import HandS.Wide
import HandS.WideBits
import HandS.Words
import HandS.Zip
import KE.HD3
import KE.KMathG
import PyProof.Draws
import PyProof.ReprLen
import PyProof.ReprRoads
import PySem.Challenge.RW_likepanes_k29_whole_numbers_of_both_root
set_option Elab.async false
set_option linter.all false
set_option maxRecDepth 100000
set_option maxHeartbeats 0
set_option exponentiation.threshold 20000
/-! The top in segments, each the kernel's run from a written state to the next one. -/
namespace Hs
open PySem PySem.W PySem.Calls PyProof.Rows
/-! the library's twins by their names -/
noncomputable def execsQ : List Stmt → Env → Sem Flow := PySem.W.Fast.tw12563942051412417395
theorem execsQ_eq : @PySem.execs = execsQ := PySem.W.Fast.te12563942051412417395
noncomputable def blockQ : List Stmt → Env → Sem Unit := PySem.W.Fast.tw1066825118222455980
theorem blockQ_eq : @blockStart = blockQ := PySem.W.Fast.te1066825118222455980
noncomputable def okQ : Nat → Option Value → Thread → Bool := PySem.W.Fast.tw6613529449190102663
theorem okQ_eq : @stepOk = okQ := PySem.W.Fast.te6613529449190102663
noncomputable abbrev stQ (p : Program) (w : World) : SharedT → Thread → Option (SharedT × Thread) := HeadRun.stepQ (HeadRun.denQ HeadRun.tabQ) p w
theorem stQ_eq (p : Program) (w : World) : stepT (denote treeTable) p w = stQ p w := by rw [HeadRun.stepQ_eq, HeadRun.denQ_eq, HeadRun.tabQ_eq]
section
variable (st : SharedT → Thread → Option (SharedT × Thread)) (ok : Thread → Bool)
/-- a segment of the top, to its end -/
noncomputable def segF : Nat → SharedT → Thread → Option (Flow × SharedT × Code × Pos)
  | 0, _, _ => none
  | m + 1, s, t => match endAt 1 t with
    | some f => some (f, s, t.code, t.pos)
    | none => match ok t with
      | false => none
      | true => match st s t with
        | some (s', t') => HeadRun.frS s' fun s' => segF m s' t'
        | none => none
/-- so many steps of the top -/
noncomputable def goK : Nat → SharedT → Thread → Option (SharedT × Thread)
  | 0, s, t => some (s, t)
  | m + 1, s, t => match through t with
    | true => none
    | false => match ok t with
      | false => none
      | true => match st s t with
        | some (s', t') => HeadRun.frS s' fun s' => goK m s' t'
        | none => none
end
section
variable {tb : String → Option Builtin} {p : Program} {w : World} {n₀ : Nat} {ann : Option Value}
theorem segF_ok : ∀ {m : Nat} {s s' : SharedT} {t : Thread} {f : Flow} {c : Code} {q : Pos}, segF (stepT (denote tb) p w) (stepOk n₀ ann) m s t = some (f, s', c, q) → segRun tb p w n₀ ann 1 m s.abs t = some (f, s'.abs, c, q)
  | 0, _, _, _, _, _, _, h => by cases h
  | m + 1, s, s', t, f, c, q, h => by
    have h1 : (match endAt 1 t with
      | some f => some (f, s, t.code, t.pos)
      | none => match stepOk n₀ ann t with
        | false => none
        | true => match stepT (denote tb) p w s t with
          | some (s', t') => HeadRun.frS s' fun s' => segF (stepT (denote tb) p w) (stepOk n₀ ann) m s' t'
          | none => none) = some (f, s', c, q) := h
    unfold segRun
    cases he : endAt 1 t with
    | some x => rw [he] at h1; cases h1; rfl
    | none =>
      rw [he] at h1
      cases hk : stepOk n₀ ann t with
      | false => rw [hk] at h1; cases h1
      | true =>
        rw [hk] at h1
        cases hs : stepT (denote tb) p w s t with
        | none => rw [hs] at h1; cases h1
        | some r =>
          obtain ⟨s₂, t₂⟩ := r
          rw [hs] at h1
          have h2 : (HeadRun.frS s₂ fun s' => segF (stepT (denote tb) p w) (stepOk n₀ ann) m s' t₂) = some (f, s', c, q) := h1
          rw [HeadRun.frS_eq] at h2
          rw [stepT_spec hs]
          exact segF_ok h2
theorem goK_ok : ∀ {m : Nat} {s s' : SharedT} {t t' : Thread}, goK (stepT (denote tb) p w) (stepOk n₀ ann) m s t = some (s', t') → topGo tb p w n₀ ann m s.abs t = some (s'.abs, t')
  | 0, _, _, _, _, h => by
    cases h
    rfl
  | m + 1, s, s', t, t', h => by
    have h1 : (match through t with
      | true => none
      | false => match stepOk n₀ ann t with
        | false => none
        | true => match stepT (denote tb) p w s t with
          | some (s', t') => HeadRun.frS s' fun s' => goK (stepT (denote tb) p w) (stepOk n₀ ann) m s' t'
          | none => none) = some (s', t') := h
    unfold topGo
    cases he : through t with
    | true => rw [he] at h1; cases h1
    | false =>
      rw [he] at h1
      cases hk : stepOk n₀ ann t with
      | false => rw [hk] at h1; cases h1
      | true =>
        rw [hk] at h1
        cases hs : stepT (denote tb) p w s t with
        | none => rw [hs] at h1; cases h1
        | some r =>
          obtain ⟨s₂, t₂⟩ := r
          rw [hs] at h1
          have h2 : (HeadRun.frS s₂ fun s' => goK (stepT (denote tb) p w) (stepOk n₀ ann) m s' t₂) = some (s', t') := h1
          rw [HeadRun.frS_eq] at h2
          show (match step (denote tb) p w s.abs t with
            | .go s' t' => topGo tb p w n₀ ann m s' t'
            | .halt _ _ => none) = some (s'.abs, t')
          rw [stepT_spec hs]
          exact goK_ok h2
end
/-! the run's parts, by the twins -/
section
variable {p : Program} {w : World} {n₀ : Nat} {ann : Option Value} {env : Env} {q : Pos} {N : Nat} {r : Shared}
/-- ahead of the text's body -/
theorem pre_ok {m : Nat} {s s' : SharedT} {b : List Stmt} {pos : Pos} (h : goK (stQ p w) (okQ n₀ ann) m s (topStub p) = some (s', ⟨HeadRun.denQ HeadRun.tabQ (.body b env), .body b env, pos, [topFrame q]⟩))
    (k : topRun treeTable p w n₀ ann N s'.abs ⟨denote treeTable (.body b env), .body b env, pos, [topFrame q]⟩ = some r) : topRun treeTable p w n₀ ann (m + N) s.abs (topStub p) = some r := by
  rw [← stQ_eq, ← okQ_eq, ← HeadRun.denQ_eq, ← HeadRun.tabQ_eq] at h
  exact go_top (goK_ok h) k
/-- the body's own start -/
theorem block_ok {m : Nat} {s s' : SharedT} {b : List Stmt} {c : Code} {pos p' : Pos} (h : segF (stQ p w) (okQ n₀ ann) m s ⟨(blockQ b env).wrap (fun _ => doneF .next) deadEnd id id, c, pos, [topFrame q]⟩ = some (.next, s', c, p'))
    (k : topRun treeTable p w n₀ ann N s'.abs (restOf b env c p' [topFrame q]) = some r) : topRun treeTable p w n₀ ann (m + N) s.abs ⟨denote treeTable (.body b env), c, pos, [topFrame q]⟩ = some r := by
  rw [← stQ_eq, ← okQ_eq, ← blockQ_eq] at h
  exact piece_block (segF_ok h) k
/-- some of its statements -/
theorem some_ok {m : Nat} {s s' : SharedT} {l rest : List Stmt} {c : Code} {pos p' : Pos} (h : segF (stQ p w) (okQ n₀ ann) m s ⟨(execsQ l env).wrap doneF deadEnd id id, c, pos, [topFrame q]⟩ = some (.next, s', c, p'))
    (k : topRun treeTable p w n₀ ann N s'.abs (restOf rest env c p' [topFrame q]) = some r) : topRun treeTable p w n₀ ann (m + N) s.abs (restOf (l ++ rest) env c pos [topFrame q]) = some r := by
  rw [← stQ_eq, ← okQ_eq, ← execsQ_eq] at h
  exact piece_app (segF_ok h) k
/-- behind the last -/
theorem fin_ok {m : Nat} {s s' : SharedT} {c : Code} {pos : Pos} (h : HeadRun.goF (stQ p w) n₀ ann m s ⟨doneF .next, c, pos, [topFrame q]⟩ = some s') : topRun treeTable p w n₀ ann m s.abs (restOf [] env c pos [topFrame q]) = some s'.abs := by
  rw [← stQ_eq] at h
  exact HeadRun.goF_ok h
end
/-- the boot, the imports, the fences -/
theorem open_ok {M : Nat} {p : Program} {w : World} {A X : SharedT} {YA Y : Shared} (h1 : HeadRun.impF (stQ (opening p) w) M (HeadRun.startT (opening p)) (start (opening p)).2 = some A) (hA : A.abs = YA) (h2 : HeadRun.fenceQ p YA = some Y)
    (hX : X.abs = Y) : fencedOpening treeTable p w M = some Y ∧ Y.heap.objs.size = X.n := by
  rw [← stQ_eq] at h1
  have a1 := HeadRun.impF_ok h1
  rw [HeadRun.startT_eq, hA] at a1
  refine ⟨?_, ?_⟩
  · unfold fencedOpening
    rw [a1]
    show fenceModules? p YA = some Y
    rw [HeadRun.fenceQ_eq]
    exact h2
  · rw [← hX]
    exact absHeap_size _ _ _
theorem imp_mono {st : SharedT → Thread → Option (SharedT × Thread)} (k : Nat) : ∀ (m : Nat) (s : SharedT) (t : Thread) (r : SharedT), HeadRun.impF st m s t = some r → HeadRun.impF st (m + k) s t = some r
  | 0, _, _, _, h => by cases h
  | m + 1, s, t, r, h => by
    have h1 : (match t.atExitBegin with
      | some l => (match l with
        | [] => some s
        | _ :: _ => none)
      | none => match st s t with
        | some (s', t') => HeadRun.frS s' fun s' => HeadRun.impF st m s' t'
        | none => none) = some r := h
    rw [show m + 1 + k = m + k + 1 by omega]
    show (match t.atExitBegin with
      | some l => (match l with
        | [] => some s
        | _ :: _ => none)
      | none => match st s t with
        | some (s', t') => HeadRun.frS s' fun s' => HeadRun.impF st (m + k) s' t'
        | none => none) = some r
    cases ht : t.atExitBegin with
    | some l =>
      rw [ht] at h1
      exact h1
    | none =>
      rw [ht] at h1
      cases hs : st s t with
      | none =>
        rw [hs] at h1
        cases h1
      | some x =>
        obtain ⟨s2, t2⟩ := x
        rw [hs] at h1
        have h2 : (HeadRun.frS s2 fun s' => HeadRun.impF st m s' t2) = some r := h1
        show (HeadRun.frS s2 fun s' => HeadRun.impF st (m + k) s' t2) = some r
        rw [HeadRun.frS_eq] at h2 ⊢
        exact imp_mono k m _ _ _ h2
lay_quick PySem.W.openGood PySem.W.staticsOk PySem.W.namesBound PySem.W.laidKept
noncomputable def staticsQ : List PySem.Str → Heap → Heap → Bool := PySem.W.Fast.tw13471830651028734593
theorem staticsQ_eq : @staticsOk = staticsQ := PySem.W.Fast.te13471830651028734593
noncomputable def namesQ : Program → Heap → Bool := PySem.W.Fast.tw4683006035507612052
theorem namesQ_eq : @namesBound = namesQ := PySem.W.Fast.te4683006035507612052
noncomputable def laidQ : Heap → Heap → Bool := PySem.W.Fast.tw16898566250750103049
theorem laidQ_eq : @laidKept = laidQ := PySem.W.Fast.te16898566250750103049
theorem left_cut {p q : Program} {loose : List PySem.Str} {Xt : Shared → Bool} {α : Type} {Yf : Shared → α} {Ya : World → α} {N : Nat}
    (run : ∀ w : World, ∃ (x : SharedT) (s0 s1 : Shared) (ann : Option Value), (fencedOpening treeTable p w N = some s0 ∧ s0.heap.objs.size = x.n) ∧ x.abs = s0 ∧ (s0.heap.isNs mainGlobals && s0.gens.size == 0) = true ∧ s0.heap.nsMap mainGlobals "__annotations__" = ann ∧ topRun treeTable p w x.n ann N x.abs (topStub p) = some s1 ∧
      staticsQ (importedModules p.main.body) s0.heap s1.heap = true ∧ namesQ p s1.heap = true ∧ gensDone s1 = true ∧ laidQ s0.heap s1.heap = true ∧ openSeen q loose (importedModules p.main.body) Xt true s1 = openGood q loose ∧ Yf s1 = Ya w) :
    LeftO p q loose Xt Yf Ya N true := fun w => by
  obtain ⟨x, s0, s1, ann, ⟨a, en⟩, hx, b, ha, h1, k1, k2, k3, k4, l2, l3⟩ := run w
  rw [← staticsQ_eq] at k1
  rw [← namesQ_eq] at k2
  rw [← laidQ_eq] at k4
  rw [hx] at h1
  have l1' : (staticsOk (importedModules p.main.body) s0.heap s1.heap && namesBound p s1.heap && gensDone s1 && laidKept s0.heap s1.heap) = true := by
    rw [k1, k2, k3, k4]
    rfl
  have t : topFrom treeTable p w N s0 = some s1 := by
    unfold topFrom
    rw [b]
    show (topRun treeTable p w s0.heap.objs.size (s0.heap.nsMap mainGlobals "__annotations__") N s0 (topStub p)).bind _ = _
    rw [en, ha, h1]
    show (match staticsOk (importedModules p.main.body) s0.heap s1.heap && namesBound p s1.heap && gensDone s1 && laidKept s0.heap s1.heap with | true => some s1 | false => none) = _
    rw [l1']
  unfold openEnds
  rw [a]
  show (topFrom treeTable p w N s0).map _ = _
  rw [t]
  exact congrArg some (Prod.ext l2 l3)
theorem seen_ok {q : Program} {loose mods : List PySem.Str} {Xt : Shared → Bool} {s : Shared} (h1 : seen ((recsOf q).map (·.name)) (ownsOf q) [] { s with gens := #[] } = expectedOf q) (h2 : s.heap.bltView = bltViewBooted)
    (h3 : s.heap.keysOk (looseW q loose) ((recsOf q).map (·.name)) ((litsOf q).map (·.1)) ((clssOf q (looseW q loose)).map (·.name)) = true) (h4 : s.heap.accountedOkI mods = true) (h5 : tablesOk q s.heap = true) (h6 : Xt s = true) (h7 : tabsOk q s = true)
    (h8 : pinSeenD q (drecsOf q) s = pinGoodD (drecsOf q)) (h9 : plainSeenE q (looseW q loose) s = plainGoodE q (looseW q loose)) (h10 : plainSeenD q loose s = plainGoodD q loose) (h11 : wideSeen q s = wideGood q) (h12 : clsSeenW q loose s = clsGoodW q loose)
    (h13 : (s.heap.isNs mainGlobals && s.heap.isNs builtinsNs) = true) (h14 : s.gens = #[]) : openSeen q loose mods Xt true s = openGood q loose := by
  obtain ⟨h13a, h13b⟩ := Bool.and_eq_true_iff.mp h13
  unfold openSeen openGood
  rw [h1, h2, h3, h4, h5, h6, h7, h8, h9, h10, h11, h12, h13a, h13b, h14]
  rfl
end Hs

lay_quick PySem.Challenge.pw_likepanes_k29_whole_numbers_of_both_root
/-! The head: the top in segments, each the kernel's run from a written state to the next one. -/
namespace Hd
open PySem PySem.W PySem.Calls PyProof.Rows Hs
noncomputable abbrev R : OpenRow := OpenLaw.row PySem.Challenge.rw_likepanes_k29_whole_numbers_of_both_root
noncomputable abbrev T : Program := PySem.W.Fast.tw15287830719819483293
theorem pT : R.prog = T := PySem.W.Fast.te15287830719819483293
noncomputable def hT (i : Nat) : Stmt := T.main.body.getD i (.Pass ⟨0, 0, 0, 0⟩)
noncomputable abbrev s (x : String) : PySem.Str := PySem.Str.ofString x
noncomputable abbrev u (l : List Nat) : PySem.Str := ⟨⟨l⟩⟩
noncomputable def k (P : Params) (x : String) (t : Nat) (v : Value) : DictEntry := ⟨PyData.keyHash P (s x), .str (s x) t, v⟩
noncomputable def ku (P : Params) (x : PySem.Str) (t : Nat) (v : Value) : DictEntry := ⟨PyData.keyHash P x, .str x t, v⟩
noncomputable def fn (st : Stmt) (name qual : PySem.Str) (g : Addr) (cl : List (PySem.Str × Addr)) (d kd doc pm : Value) (an : Option Addr) (co ct : Value) (b : Addr) : FuncData := ⟨name, qual, L2.defArgs st, .stmts (L2.defBody st), L2.defScope st, g, cl, d, kd, doc, pm, an, co, ct, b⟩
noncomputable abbrev n (o : Obj) (a b : BT) : BT := .node o a b
noncomputable abbrev z : BT := .nil
/-! ### the states: the objects, the trees -/
noncomputable def o0 (P : Params) : Obj := ⟨(.type "dict"), none, (.dict #[k P "__name__" 1 (.str (s "builtins") 160), k P "__doc__" 2 (.builtin "builtins.__doc__:str#opaque"), k P "__package__" 3 (.builtin "builtins.__package__:str#opaque"), k P "__loader__" 4 (.builtin "builtins.__loader__:shared#opaque"), k P "__spec__" 5 (.builtin "builtins.__spec__#opaque"), k P "__build_class__" 6 (.builtin "__build_class__"), k P "__import__" 7 (.builtin "__import__"), k P "abs" 8 (.builtin "abs"), k P "all" 9 (.builtin "all"), k P "any" 10 (.builtin "any"), k P "ascii" 11 (.builtin "ascii"), k P "bin" 12 (.builtin "bin"), k P "breakpoint" 13 (.builtin "breakpoint"), k P "callable" 14 (.builtin "callable"), k P "chr" 15 (.builtin "chr"), k P "compile" 16 (.builtin "compile"), k P "delattr" 17 (.builtin "delattr"), k P "dir" 18 (.builtin "dir"), k P "divmod" 19 (.builtin "divmod"), k P "eval" 20 (.builtin "eval"), k P "exec" 21 (.builtin "exec"), k P "format" 22 (.builtin "format"), k P "getattr" 23 (.builtin "getattr"), k P "globals" 24 (.builtin "globals"), k P "hasattr" 25 (.builtin "hasattr"), k P "hash" 26 (.builtin "hash"), k P "hex" 27 (.builtin "hex"), k P "id" 28 (.builtin "id"), k P "input" 29 (.builtin "input"), k P "isinstance" 30 (.builtin "isinstance"), k P "issubclass" 31 (.builtin "issubclass"), k P "iter" 32 (.builtin "iter"), k P "aiter" 33 (.builtin "aiter"), k P "len" 34 (.builtin "len"), k P "locals" 35 (.builtin "locals"), k P "max" 36 (.builtin "max"), k P "min" 37 (.builtin "min"), k P "next" 38 (.builtin "next"), k P "anext" 39 (.builtin "anext"), k P "oct" 40 (.builtin "oct"), k P "ord" 41 (.builtin "ord"), k P "pow" 42 (.builtin "pow"), k P "print" 43 (.builtin "print"), k P "repr" 44 (.builtin "repr"), k P "round" 45 (.builtin "round"), k P "setattr" 46 (.builtin "setattr"), k P "sorted" 47 (.builtin "sorted"), k P "sum" 48 (.builtin "sum"), k P "vars" 49 (.builtin "vars"), k P "None" 50 .none, k P "Ellipsis" 51 .ellipsis, k P "NotImplemented" 52 .notImplemented, k P "False" 53 (.bool false), k P "True" 54 (.bool true), k P "bool" 55 (.type "bool"), k P "memoryview" 56 (.type "memoryview"), k P "bytearray" 57 (.type "bytearray"), k P "bytes" 58 (.type "bytes"), k P "classmethod" 59 (.type "classmethod"), k P "complex" 60 (.type "complex"), k P "dict" 61 (.type "dict"), k P "enumerate" 62 (.type "enumerate"), k P "filter" 63 (.type "filter"), k P "float" 64 (.type "float"), k P "frozenset" 65 (.type "frozenset"), k P "property" 66 (.type "property"), k P "int" 67 (.type "int"), k P "list" 68 (.type "list"), k P "map" 69 (.type "map"), k P "object" 70 (.type "object"), k P "range" 71 (.type "range"), k P "reversed" 72 (.type "reversed"), k P "set" 73 (.type "set"), k P "slice" 74 (.type "slice"), k P "staticmethod" 75 (.type "staticmethod"), k P "str" 76 (.type "str"), k P "super" 77 (.type "super"), k P "tuple" 78 (.type "tuple"), k P "type" 79 (.type "type"), k P "zip" 80 (.type "zip"), k P "__debug__" 81 (.bool true), k P "BaseException" 82 (.type "BaseException"), k P "BaseExceptionGroup" 83 (.type "BaseExceptionGroup"), k P "Exception" 84 (.type "Exception"), k P "GeneratorExit" 85 (.type "GeneratorExit"), k P "KeyboardInterrupt" 86 (.type "KeyboardInterrupt"), k P "SystemExit" 87 (.type "SystemExit"), k P "ArithmeticError" 88 (.type "ArithmeticError"), k P "AssertionError" 89 (.type "AssertionError"), k P "AttributeError" 90 (.type "AttributeError"), k P "BufferError" 91 (.type "BufferError"), k P "EOFError" 92 (.type "EOFError"), k P "ImportError" 93 (.type "ImportError"), k P "LookupError" 94 (.type "LookupError"), k P "MemoryError" 95 (.type "MemoryError"), k P "NameError" 96 (.type "NameError"), k P "OSError" 97 (.type "OSError"), k P "ReferenceError" 98 (.type "ReferenceError"), k P "RuntimeError" 99 (.type "RuntimeError"), k P "StopAsyncIteration" 100 (.type "StopAsyncIteration"), k P "StopIteration" 101 (.type "StopIteration"), k P "SyntaxError" 102 (.type "SyntaxError"), k P "SystemError" 103 (.type "SystemError"), k P "TypeError" 104 (.type "TypeError"), k P "ValueError" 105 (.type "ValueError"), k P "Warning" 106 (.type "Warning"), k P "FloatingPointError" 107 (.type "FloatingPointError"), k P "OverflowError" 108 (.type "OverflowError"), k P "ZeroDivisionError" 109 (.type "ZeroDivisionError"), k P "BytesWarning" 110 (.type "BytesWarning"), k P "DeprecationWarning" 111 (.type "DeprecationWarning"), k P "EncodingWarning" 112 (.type "EncodingWarning"), k P "FutureWarning" 113 (.type "FutureWarning"), k P "ImportWarning" 114 (.type "ImportWarning"), k P "PendingDeprecationWarning" 115 (.type "PendingDeprecationWarning"), k P "ResourceWarning" 116 (.type "ResourceWarning"), k P "RuntimeWarning" 117 (.type "RuntimeWarning"), k P "SyntaxWarning" 118 (.type "SyntaxWarning"), k P "UnicodeWarning" 119 (.type "UnicodeWarning"), k P "UserWarning" 120 (.type "UserWarning"), k P "BlockingIOError" 121 (.type "BlockingIOError"), k P "ChildProcessError" 122 (.type "ChildProcessError"), k P "ConnectionError" 123 (.type "ConnectionError"), k P "FileExistsError" 124 (.type "FileExistsError"), k P "FileNotFoundError" 125 (.type "FileNotFoundError"), k P "InterruptedError" 126 (.type "InterruptedError"), k P "IsADirectoryError" 127 (.type "IsADirectoryError"), k P "NotADirectoryError" 128 (.type "NotADirectoryError"), k P "PermissionError" 129 (.type "PermissionError"), k P "ProcessLookupError" 130 (.type "ProcessLookupError"), k P "TimeoutError" 131 (.type "TimeoutError"), k P "IndentationError" 132 (.type "IndentationError"), k P "_IncompleteInputError" 133 (.type "_IncompleteInputError"), k P "IndexError" 134 (.type "IndexError"), k P "KeyError" 135 (.type "KeyError"), k P "ModuleNotFoundError" 136 (.type "ModuleNotFoundError"), k P "NotImplementedError" 137 (.type "NotImplementedError"), k P "PythonFinalizationError" 138 (.type "PythonFinalizationError"), k P "RecursionError" 139 (.type "RecursionError"), k P "UnboundLocalError" 140 (.type "UnboundLocalError"), k P "UnicodeError" 141 (.type "UnicodeError"), k P "BrokenPipeError" 142 (.type "BrokenPipeError"), k P "ConnectionAbortedError" 143 (.type "ConnectionAbortedError"), k P "ConnectionRefusedError" 144 (.type "ConnectionRefusedError"), k P "ConnectionResetError" 145 (.type "ConnectionResetError"), k P "TabError" 146 (.type "TabError"), k P "UnicodeDecodeError" 147 (.type "UnicodeDecodeError"), k P "UnicodeEncodeError" 148 (.type "UnicodeEncodeError"), k P "UnicodeTranslateError" 149 (.type "UnicodeTranslateError"), k P "ExceptionGroup" 150 (.type "ExceptionGroup"), k P "EnvironmentError" 151 (.type "OSError"), k P "IOError" 152 (.type "OSError"), k P "open" 153 (.builtin "open"), k P "quit" 154 (.builtin "builtins.quit#opaque"), k P "exit" 155 (.builtin "builtins.exit#opaque"), k P "copyright" 156 (.builtin "builtins.copyright#opaque"), k P "credits" 157 (.builtin "builtins.credits#opaque"), k P "license" 158 (.builtin "builtins.license#opaque"), k P "help" 159 (.builtin "builtins.help#opaque")] 159), #[]⟩
noncomputable def o1 (P : Params) : Obj := ⟨(.type "dict"), none, (.dict #[k P "builtins" 162 (.ref 4), k P "__main__" 163 (.ref 5), k P "math" 285 (.ref 13)] 3), #[]⟩
noncomputable def o2 (P : Params) : Obj := ⟨.none, none, (.dict #[ku P (u [105, 109, 112, 111, 114, 116, 46, 108, 111, 97, 100, 101, 100, 46, 109, 97, 116, 104]) 186 (.bool true), k P "class._frozen_importlib_external._LoaderBasics" 191 (.ref 16), ku P (u [119, 97, 116, 99, 104, 101, 100, 46, 105, 109, 112, 111, 114, 116]) 207 (.ref 20), k P "class._frozen_importlib_external.FileLoader" 208 (.ref 22), k P "class._frozen_importlib_external.ExtensionFileLoader" 229 (.ref 27), k P "class._frozen_importlib.ModuleSpec" 257 (.ref 33), k P "sys.modules.booked-epoch" 286 (.int (3) 0), ku P (u [105, 109, 112, 111, 114, 116, 46, 108, 97, 116, 101, 114, 45, 108, 97, 105, 100, 46, 109, 97, 116, 104]) 362 (.bool true), k P "watched.library" 364 (.ref 38), k P "watched.library-objects" 0 (.str (u [13]) 0)] 10), #[]⟩
noncomputable def o3 (P : Params) : Obj := ⟨(.type "dict"), none, (.dict #[k P "__name__" 165 (.str (s "__main__") 164), k P "__doc__" 166 .none, k P "__package__" 167 .none, k P "__loader__" 168 (.builtin "__main__.__loader__#opaque"), k P "__spec__" 169 .none, k P "__annotations__" 170 (.ref 6), k P "__builtins__" 171 (.ref 4), k P "__file__" 173 (.str (s "/claim/cut.py") 172), k P "__cached__" 174 .none, k P "gcd" 370 (.builtin "math.gcd"), k P "isqrt" 373 (.builtin "math.isqrt")] 11), #[]⟩
noncomputable def o4 (P : Params) : Obj := ⟨(.type "module"), (some 0), .plain, #[]⟩
noncomputable def o5 (P : Params) : Obj := ⟨(.type "module"), (some 3), .plain, #[]⟩
noncomputable def o6 (P : Params) : Obj := ⟨(.type "dict"), none, (.dict #[] 0), #[]⟩
noncomputable def o7 (P : Params) : Obj := ⟨(.type "tuple"), none, (.seq #[] 0), #[]⟩
noncomputable def o8 (P : Params) : Obj := ⟨.none, none, (.fields #[]), #[]⟩
noncomputable def o9 (P : Params) : Obj := ⟨(.type "code"), none, (.fields #[(.str (s "<module>") 176), (.str (s "<module>") 177), (.str (s "/claim/cut.py") 178), (.int (1) 0), (.int (0) 0), (.int (0) 0), (.int (0) 0), (.int (0) 0), (.ref 7), (.bool false), (.int (175) 0), (.ref 8), .none, .none, .none, .none, (.int (179) 0), (.int (1) 0), (.str (s "/claim/cut.py") 180)]), #[]⟩
noncomputable def o10 (P : Params) : Obj := ⟨(.type "frame"), none, .plain, #[(some (.ref 9)), (some (.ref 3)), (some (.ref 3)), none, (some (.str (s "__main__") 164)), none, (some (.ref 0))]⟩
noncomputable def o11 (P : Params) : Obj := ⟨(.type "tuple"), none, (.seq #[(.str (s "gcd") 182), (.str (s "isqrt") 183)] 0), #[]⟩
noncomputable def o12 (P : Params) : Obj := ⟨(.type "dict"), none, (.dict #[k P "__name__" 288 (.str (s "math") 287), k P "__doc__" 289 (.builtin "math.__doc__:str#opaque"), k P "__package__" 291 (.str (s "") 290), k P "__loader__" 292 (.ref 29), k P "__spec__" 293 (.ref 37), k P "acos" 294 (.builtin "math.acos"), k P "acosh" 295 (.builtin "math.acosh"), k P "asin" 296 (.builtin "math.asin"), k P "asinh" 297 (.builtin "math.asinh"), k P "atan" 298 (.builtin "math.atan"), k P "atan2" 299 (.builtin "math.atan2"), k P "atanh" 300 (.builtin "math.atanh"), k P "cbrt" 301 (.builtin "math.cbrt"), k P "ceil" 302 (.builtin "math.ceil"), k P "copysign" 303 (.builtin "math.copysign"), k P "cos" 304 (.builtin "math.cos"), k P "cosh" 305 (.builtin "math.cosh"), k P "degrees" 306 (.builtin "math.degrees"), k P "dist" 307 (.builtin "math.dist"), k P "erf" 308 (.builtin "math.erf"), k P "erfc" 309 (.builtin "math.erfc"), k P "exp" 310 (.builtin "math.exp"), k P "exp2" 311 (.builtin "math.exp2"), k P "expm1" 312 (.builtin "math.expm1"), k P "fabs" 313 (.builtin "math.fabs"), k P "factorial" 314 (.builtin "math.factorial"), k P "floor" 315 (.builtin "math.floor"), k P "fma" 316 (.builtin "math.fma"), k P "fmod" 317 (.builtin "math.fmod"), k P "frexp" 318 (.builtin "math.frexp"), k P "fsum" 319 (.builtin "math.fsum"), k P "gamma" 320 (.builtin "math.gamma"), k P "gcd" 321 (.builtin "math.gcd"), k P "hypot" 322 (.builtin "math.hypot"), k P "isclose" 323 (.builtin "math.isclose"), k P "isfinite" 324 (.builtin "math.isfinite"), k P "isinf" 325 (.builtin "math.isinf"), k P "isnan" 326 (.builtin "math.isnan"), k P "isqrt" 327 (.builtin "math.isqrt"), k P "lcm" 328 (.builtin "math.lcm"), k P "ldexp" 329 (.builtin "math.ldexp"), k P "lgamma" 330 (.builtin "math.lgamma"), k P "log" 331 (.builtin "math.log"), k P "log1p" 332 (.builtin "math.log1p"), k P "log10" 333 (.builtin "math.log10"), k P "log2" 334 (.builtin "math.log2"), k P "modf" 335 (.builtin "math.modf"), k P "pow" 336 (.builtin "math.pow"), k P "radians" 337 (.builtin "math.radians"), k P "remainder" 338 (.builtin "math.remainder"), k P "sin" 339 (.builtin "math.sin"), k P "sinh" 340 (.builtin "math.sinh"), k P "sqrt" 341 (.builtin "math.sqrt"), k P "tan" 342 (.builtin "math.tan"), k P "tanh" 343 (.builtin "math.tanh"), k P "sumprod" 344 (.builtin "math.sumprod"), k P "trunc" 345 (.builtin "math.trunc"), k P "prod" 346 (.builtin "math.prod"), k P "perm" 347 (.builtin "math.perm"), k P "comb" 348 (.builtin "math.comb"), k P "nextafter" 349 (.builtin "math.nextafter"), k P "ulp" 350 (.builtin "math.ulp"), k P "__file__" 351 (.str (u [47, 110, 105, 120, 47, 115, 116, 111, 114, 101, 47, 119, 106, 49, 102, 53, 54, 113, 107, 121, 52, 112, 109, 106, 99, 55, 108, 48, 114, 54, 98, 54, 108, 55, 119, 104, 110, 110, 119, 55, 104, 112, 54, 45, 112, 121, 116, 104, 111, 110, 51, 45, 51, 46, 49, 51, 46, 49, 53, 47, 108, 105, 98, 47, 112, 121, 116, 104, 111, 110, 51, 46, 49, 51, 47, 108, 105, 98, 45, 100, 121, 110, 108, 111, 97, 100, 47, 109, 97, 116, 104, 46, 99, 112, 121, 116, 104, 111, 110, 45, 51, 49, 51, 45, 120, 56, 54, 95, 54, 52, 45, 108, 105, 110, 117, 120, 45, 103, 110, 117, 46, 115, 111]) 187), k P "pi" 353 (.float 4614256656552045848 352), k P "e" 355 (.float 4613303445314885481 354), k P "tau" 357 (.float 4618760256179416344 356), k P "inf" 359 (.float 9218868437227405312 358), k P "nan" 361 (.float 9221120237041090560 360)] 68), #[]⟩
noncomputable def o13 (P : Params) : Obj := ⟨(.type "module"), (some 12), .plain, #[]⟩
noncomputable def o14 (P : Params) : Obj := ⟨(.type "dict"), none, (.dict #[k P "name" 189 (.str (s "math") 188), k P "path" 190 (.str (u [47, 110, 105, 120, 47, 115, 116, 111, 114, 101, 47, 119, 106, 49, 102, 53, 54, 113, 107, 121, 52, 112, 109, 106, 99, 55, 108, 48, 114, 54, 98, 54, 108, 55, 119, 104, 110, 110, 119, 55, 104, 112, 54, 45, 112, 121, 116, 104, 111, 110, 51, 45, 51, 46, 49, 51, 46, 49, 53, 47, 108, 105, 98, 47, 112, 121, 116, 104, 111, 110, 51, 46, 49, 51, 47, 108, 105, 98, 45, 100, 121, 110, 108, 111, 97, 100, 47, 109, 97, 116, 104, 46, 99, 112, 121, 116, 104, 111, 110, 45, 51, 49, 51, 45, 120, 56, 54, 95, 54, 52, 45, 108, 105, 110, 117, 120, 45, 103, 110, 117, 46, 115, 111]) 187)] 2), #[]⟩
noncomputable def o15 (P : Params) : Obj := ⟨(.type "dict"), none, (.dict #[k P "__module__" 194 (.str (s "_frozen_importlib_external") 192), k P "__firstlineno__" 195 (.int (1001) 193), k P "__doc__" 196 (.builtin "_frozen_importlib_external._LoaderBasics.__doc__:str#opaque"), k P "is_package" 197 (.builtin "_frozen_importlib_external._LoaderBasics.is_package#opaque"), k P "create_module" 198 (.builtin "_frozen_importlib_external._LoaderBasics.create_module#opaque"), k P "exec_module" 199 (.builtin "_frozen_importlib_external._LoaderBasics.exec_module#opaque"), k P "load_module" 200 (.builtin "_frozen_importlib_external._LoaderBasics.load_module#opaque"), k P "__static_attributes__" 201 (.ref 17), k P "__dict__" 203 (.ref 18), k P "__weakref__" 205 (.ref 19)] 10), #[]⟩
noncomputable def o16 (P : Params) : Obj := ⟨(.type "type"), none, (.cls ⟨(s "_LoaderBasics"), [(.type "object")], [(.ref 16), (.type "object")], 15, (s "_LoaderBasics"), true, [], [(.ref 27)], false, none, false⟩), #[]⟩
noncomputable def o17 (P : Params) : Obj := ⟨(.type "tuple"), none, (.seq #[] 0), #[]⟩
noncomputable def o18 (P : Params) : Obj := ⟨(.type "getset_descriptor"), none, (.fields #[(.str (s "__dict__") 202), (.ref 16), (.builtin "function.__dict__"), (.builtin "function.__dict__#set")]), #[]⟩
noncomputable def o19 (P : Params) : Obj := ⟨(.type "getset_descriptor"), none, (.fields #[(.str (s "__weakref__") 204), (.ref 16), (.builtin "ExceptionGroup.__weakref__"), .none]), #[]⟩
noncomputable def o20 (P : Params) : Obj := ⟨.none, none, (.seq #[(.int (15) 0), (.str (u [6, 194, 10, 95, 95, 109, 111, 100, 117, 108, 101, 95, 95, 6, 192, 26, 95, 102, 114, 111, 122, 101, 110, 95, 105, 109, 112, 111, 114, 116, 108, 105, 98, 95, 101, 120, 116, 101, 114, 110, 97, 108, 6, 195, 15, 95, 95, 102, 105, 114, 115, 116, 108, 105, 110, 101, 110, 111, 95, 95, 4, 193, 0, 1001, 6, 196, 7, 95, 95, 100, 111, 99, 95, 95, 9, 59, 95, 102, 114, 111, 122, 101, 110, 95, 105, 109, 112, 111, 114, 116, 108, 105, 98, 95, 101, 120, 116, 101, 114, 110, 97, 108, 46, 95, 76, 111, 97, 100, 101, 114, 66, 97, 115, 105, 99, 115, 46, 95, 95, 100, 111, 99, 95, 95, 58, 115, 116, 114, 35, 111, 112, 97, 113, 117, 101, 6, 197, 10, 105, 115, 95, 112, 97, 99, 107, 97, 103, 101, 9, 58, 95, 102, 114, 111, 122, 101, 110, 95, 105, 109, 112, 111, 114, 116, 108, 105, 98, 95, 101, 120, 116, 101, 114, 110, 97, 108, 46, 95, 76, 111, 97, 100, 101, 114, 66, 97, 115, 105, 99, 115, 46, 105, 115, 95, 112, 97, 99, 107, 97, 103, 101, 35, 111, 112, 97, 113, 117, 101, 6, 198, 13, 99, 114, 101, 97, 116, 101, 95, 109, 111, 100, 117, 108, 101, 9, 61, 95, 102, 114, 111, 122, 101, 110, 95, 105, 109, 112, 111, 114, 116, 108, 105, 98, 95, 101, 120, 116, 101, 114, 110, 97, 108, 46, 95, 76, 111, 97, 100, 101, 114, 66, 97, 115, 105, 99, 115, 46, 99, 114, 101, 97, 116, 101, 95, 109, 111, 100, 117, 108, 101, 35, 111, 112, 97, 113, 117, 101, 6, 199, 11, 101, 120, 101, 99, 95, 109, 111, 100, 117, 108, 101, 9, 59, 95, 102, 114, 111, 122, 101, 110, 95, 105, 109, 112, 111, 114, 116, 108, 105, 98, 95, 101, 120, 116, 101, 114, 110, 97, 108, 46, 95, 76, 111, 97, 100, 101, 114, 66, 97, 115, 105, 99, 115, 46, 101, 120, 101, 99, 95, 109, 111, 100, 117, 108, 101, 35, 111, 112, 97, 113, 117, 101, 6, 200, 11, 108, 111, 97, 100, 95, 109, 111, 100, 117, 108, 101, 9, 59, 95, 102, 114, 111, 122, 101, 110, 95, 105, 109, 112, 111, 114, 116, 108, 105, 98, 95, 101, 120, 116, 101, 114, 110, 97, 108, 46, 95, 76, 111, 97, 100, 101, 114, 66, 97, 115, 105, 99, 115, 46, 108, 111, 97, 100, 95, 109, 111, 100, 117, 108, 101, 35, 111, 112, 97, 113, 117, 101, 6, 201, 21, 95, 95, 115, 116, 97, 116, 105, 99, 95, 97, 116, 116, 114, 105, 98, 117, 116, 101, 115, 95, 95, 4, 0, 0, 17, 6, 203, 8, 95, 95, 100, 105, 99, 116, 95, 95, 4, 0, 0, 18, 6, 205, 11, 95, 95, 119, 101, 97, 107, 114, 101, 102, 95, 95, 4, 0, 0, 19]) 0), (.bool true), (.bool true), (.str (s "") 206), (.int (21) 0), (.str (u [6, 213, 10, 95, 95, 109, 111, 100, 117, 108, 101, 95, 95, 6, 209, 26, 95, 102, 114, 111, 122, 101, 110, 95, 105, 109, 112, 111, 114, 116, 108, 105, 98, 95, 101, 120, 116, 101, 114, 110, 97, 108, 6, 214, 15, 95, 95, 102, 105, 114, 115, 116, 108, 105, 110, 101, 110, 111, 95, 95, 4, 210, 0, 1176, 6, 215, 7, 95, 95, 100, 111, 99, 95, 95, 9, 56, 95, 102, 114, 111, 122, 101, 110, 95, 105, 109, 112, 111, 114, 116, 108, 105, 98, 95, 101, 120, 116, 101, 114, 110, 97, 108, 46, 70, 105, 108, 101, 76, 111, 97, 100, 101, 114, 46, 95, 95, 100, 111, 99, 95, 95, 58, 115, 116, 114, 35, 111, 112, 97, 113, 117, 101, 6, 216, 8, 95, 95, 105, 110, 105, 116, 95, 95, 9, 53, 95, 102, 114, 111, 122, 101, 110, 95, 105, 109, 112, 111, 114, 116, 108, 105, 98, 95, 101, 120, 116, 101, 114, 110, 97, 108, 46, 70, 105, 108, 101, 76, 111, 97, 100, 101, 114, 46, 95, 95, 105, 110, 105, 116, 95, 95, 35, 111, 112, 97, 113, 117, 101, 6, 217, 6, 95, 95, 101, 113, 95, 95, 9, 51, 95, 102, 114, 111, 122, 101, 110, 95, 105, 109, 112, 111, 114, 116, 108, 105, 98, 95, 101, 120, 116, 101, 114, 110, 97, 108, 46, 70, 105, 108, 101, 76, 111, 97, 100, 101, 114, 46, 95, 95, 101, 113, 95, 95, 35, 111, 112, 97, 113, 117, 101, 6, 218, 8, 95, 95, 104, 97, 115, 104, 95, 95, 9, 53, 95, 102, 114, 111, 122, 101, 110, 95, 105, 109, 112, 111, 114, 116, 108, 105, 98, 95, 101, 120, 116, 101, 114, 110, 97, 108, 46, 70, 105, 108, 101, 76, 111, 97, 100, 101, 114, 46, 95, 95, 104, 97, 115, 104, 95, 95, 35, 111, 112, 97, 113, 117, 101, 6, 219, 11, 108, 111, 97, 100, 95, 109, 111, 100, 117, 108, 101, 9, 56, 95, 102, 114, 111, 122, 101, 110, 95, 105, 109, 112, 111, 114, 116, 108, 105, 98, 95, 101, 120, 116, 101, 114, 110, 97, 108, 46, 70, 105, 108, 101, 76, 111, 97, 100, 101, 114, 46, 108, 111, 97, 100, 95, 109, 111, 100, 117, 108, 101, 35, 111, 112, 97, 113, 117, 101, 6, 220, 12, 103, 101, 116, 95, 102, 105, 108, 101, 110, 97, 109, 101, 9, 57, 95, 102, 114, 111, 122, 101, 110, 95, 105, 109, 112, 111, 114, 116, 108, 105, 98, 95, 101, 120, 116, 101, 114, 110, 97, 108, 46, 70, 105, 108, 101, 76, 111, 97, 100, 101, 114, 46, 103, 101, 116, 95, 102, 105, 108, 101, 110, 97, 109, 101, 35, 111, 112, 97, 113, 117, 101, 6, 221, 8, 103, 101, 116, 95, 100, 97, 116, 97, 9, 53, 95, 102, 114, 111, 122, 101, 110, 95, 105, 109, 112, 111, 114, 116, 108, 105, 98, 95, 101, 120, 116, 101, 114, 110, 97, 108, 46, 70, 105, 108, 101, 76, 111, 97, 100, 101, 114, 46, 103, 101, 116, 95, 100, 97, 116, 97, 35, 111, 112, 97, 113, 117, 101, 6, 222, 19, 103, 101, 116, 95, 114, 101, 115, 111, 117, 114, 99, 101, 95, 114, 101, 97, 100, 101, 114, 9, 64, 95, 102, 114, 111, 122, 101, 110, 95, 105, 109, 112, 111, 114, 116, 108, 105, 98, 95, 101, 120, 116, 101, 114, 110, 97, 108, 46, 70, 105, 108, 101, 76, 111, 97, 100, 101, 114, 46, 103, 101, 116, 95, 114, 101, 115, 111, 117, 114, 99, 101, 95, 114, 101, 97, 100, 101, 114, 35, 111, 112, 97, 113, 117, 101, 6, 223, 21, 95, 95, 115, 116, 97, 116, 105, 99, 95, 97, 116, 116, 114, 105, 98, 117, 116, 101, 115, 95, 95, 4, 0, 0, 23, 6, 225, 8, 95, 95, 100, 105, 99, 116, 95, 95, 4, 0, 0, 24, 6, 227, 11, 95, 95, 119, 101, 97, 107, 114, 101, 102, 95, 95, 4, 0, 0, 25]) 0), (.bool true), (.bool true), (.str (s "") 228), (.int (26) 0), (.str (u [6, 234, 10, 95, 95, 109, 111, 100, 117, 108, 101, 95, 95, 6, 230, 26, 95, 102, 114, 111, 122, 101, 110, 95, 105, 109, 112, 111, 114, 116, 108, 105, 98, 95, 101, 120, 116, 101, 114, 110, 97, 108, 6, 235, 15, 95, 95, 102, 105, 114, 115, 116, 108, 105, 110, 101, 110, 111, 95, 95, 4, 231, 0, 1296, 6, 236, 7, 95, 95, 100, 111, 99, 95, 95, 9, 65, 95, 102, 114, 111, 122, 101, 110, 95, 105, 109, 112, 111, 114, 116, 108, 105, 98, 95, 101, 120, 116, 101, 114, 110, 97, 108, 46, 69, 120, 116, 101, 110, 115, 105, 111, 110, 70, 105, 108, 101, 76, 111, 97, 100, 101, 114, 46, 95, 95, 100, 111, 99, 95, 95, 58, 115, 116, 114, 35, 111, 112, 97, 113, 117, 101, 6, 237, 8, 95, 95, 105, 110, 105, 116, 95, 95, 9, 62, 95, 102, 114, 111, 122, 101, 110, 95, 105, 109, 112, 111, 114, 116, 108, 105, 98, 95, 101, 120, 116, 101, 114, 110, 97, 108, 46, 69, 120, 116, 101, 110, 115, 105, 111, 110, 70, 105, 108, 101, 76, 111, 97, 100, 101, 114, 46, 95, 95, 105, 110, 105, 116, 95, 95, 35, 111, 112, 97, 113, 117, 101, 6, 238, 6, 95, 95, 101, 113, 95, 95, 9, 60, 95, 102, 114, 111, 122, 101, 110, 95, 105, 109, 112, 111, 114, 116, 108, 105, 98, 95, 101, 120, 116, 101, 114, 110, 97, 108, 46, 69, 120, 116, 101, 110, 115, 105, 111, 110, 70, 105, 108, 101, 76, 111, 97, 100, 101, 114, 46, 95, 95, 101, 113, 95, 95, 35, 111, 112, 97, 113, 117, 101, 6, 239, 8, 95, 95, 104, 97, 115, 104, 95, 95, 9, 62, 95, 102, 114, 111, 122, 101, 110, 95, 105, 109, 112, 111, 114, 116, 108, 105, 98, 95, 101, 120, 116, 101, 114, 110, 97, 108, 46, 69, 120, 116, 101, 110, 115, 105, 111, 110, 70, 105, 108, 101, 76, 111, 97, 100, 101, 114, 46, 95, 95, 104, 97, 115, 104, 95, 95, 35, 111, 112, 97, 113, 117, 101, 6, 240, 13, 99, 114, 101, 97, 116, 101, 95, 109, 111, 100, 117, 108, 101, 9, 67, 95, 102, 114, 111, 122, 101, 110, 95, 105, 109, 112, 111, 114, 116, 108, 105, 98, 95, 101, 120, 116, 101, 114, 110, 97, 108, 46, 69, 120, 116, 101, 110, 115, 105, 111, 110, 70, 105, 108, 101, 76, 111, 97, 100, 101, 114, 46, 99, 114, 101, 97, 116, 101, 95, 109, 111, 100, 117, 108, 101, 35, 111, 112, 97, 113, 117, 101, 6, 241, 11, 101, 120, 101, 99, 95, 109, 111, 100, 117, 108, 101, 9, 65, 95, 102, 114, 111, 122, 101, 110, 95, 105, 109, 112, 111, 114, 116, 108, 105, 98, 95, 101, 120, 116, 101, 114, 110, 97, 108, 46, 69, 120, 116, 101, 110, 115, 105, 111, 110, 70, 105, 108, 101, 76, 111, 97, 100, 101, 114, 46, 101, 120, 101, 99, 95, 109, 111, 100, 117, 108, 101, 35, 111, 112, 97, 113, 117, 101, 6, 242, 10, 105, 115, 95, 112, 97, 99, 107, 97, 103, 101, 9, 64, 95, 102, 114, 111, 122, 101, 110, 95, 105, 109, 112, 111, 114, 116, 108, 105, 98, 95, 101, 120, 116, 101, 114, 110, 97, 108, 46, 69, 120, 116, 101, 110, 115, 105, 111, 110, 70, 105, 108, 101, 76, 111, 97, 100, 101, 114, 46, 105, 115, 95, 112, 97, 99, 107, 97, 103, 101, 35, 111, 112, 97, 113, 117, 101, 6, 243, 8, 103, 101, 116, 95, 99, 111, 100, 101, 9, 62, 95, 102, 114, 111, 122, 101, 110, 95, 105, 109, 112, 111, 114, 116, 108, 105, 98, 95, 101, 120, 116, 101, 114, 110, 97, 108, 46, 69, 120, 116, 101, 110, 115, 105, 111, 110, 70, 105, 108, 101, 76, 111, 97, 100, 101, 114, 46, 103, 101, 116, 95, 99, 111, 100, 101, 35, 111, 112, 97, 113, 117, 101, 6, 244, 10, 103, 101, 116, 95, 115, 111, 117, 114, 99, 101, 9, 64, 95, 102, 114, 111, 122, 101, 110, 95, 105, 109, 112, 111, 114, 116, 108, 105, 98, 95, 101, 120, 116, 101, 114, 110, 97, 108, 46, 69, 120, 116, 101, 110, 115, 105, 111, 110, 70, 105, 108, 101, 76, 111, 97, 100, 101, 114, 46, 103, 101, 116, 95, 115, 111, 117, 114, 99, 101, 35, 111, 112, 97, 113, 117, 101, 6, 245, 12, 103, 101, 116, 95, 102, 105, 108, 101, 110, 97, 109, 101, 9, 66, 95, 102, 114, 111, 122, 101, 110, 95, 105, 109, 112, 111, 114, 116, 108, 105, 98, 95, 101, 120, 116, 101, 114, 110, 97, 108, 46, 69, 120, 116, 101, 110, 115, 105, 111, 110, 70, 105, 108, 101, 76, 111, 97, 100, 101, 114, 46, 103, 101, 116, 95, 102, 105, 108, 101, 110, 97, 109, 101, 35, 111, 112, 97, 113, 117, 101, 6, 246, 21, 95, 95, 115, 116, 97, 116, 105, 99, 95, 97, 116, 116, 114, 105, 98, 117, 116, 101, 115, 95, 95, 4, 0, 0, 28]) 0), (.bool true), (.bool true), (.str (s "") 247), (.int (32) 0), (.str (u [6, 268, 10, 95, 95, 109, 111, 100, 117, 108, 101, 95, 95, 6, 258, 17, 95, 102, 114, 111, 122, 101, 110, 95, 105, 109, 112, 111, 114, 116, 108, 105, 98, 6, 269, 15, 95, 95, 102, 105, 114, 115, 116, 108, 105, 110, 101, 110, 111, 95, 95, 4, 259, 0, 562, 6, 270, 7, 95, 95, 100, 111, 99, 95, 95, 9, 47, 95, 102, 114, 111, 122, 101, 110, 95, 105, 109, 112, 111, 114, 116, 108, 105, 98, 46, 77, 111, 100, 117, 108, 101, 83, 112, 101, 99, 46, 95, 95, 100, 111, 99, 95, 95, 58, 115, 116, 114, 35, 111, 112, 97, 113, 117, 101, 6, 271, 8, 95, 95, 105, 110, 105, 116, 95, 95, 9, 44, 95, 102, 114, 111, 122, 101, 110, 95, 105, 109, 112, 111, 114, 116, 108, 105, 98, 46, 77, 111, 100, 117, 108, 101, 83, 112, 101, 99, 46, 95, 95, 105, 110, 105, 116, 95, 95, 35, 111, 112, 97, 113, 117, 101, 6, 272, 8, 95, 95, 114, 101, 112, 114, 95, 95, 9, 44, 95, 102, 114, 111, 122, 101, 110, 95, 105, 109, 112, 111, 114, 116, 108, 105, 98, 46, 77, 111, 100, 117, 108, 101, 83, 112, 101, 99, 46, 95, 95, 114, 101, 112, 114, 95, 95, 35, 111, 112, 97, 113, 117, 101, 6, 273, 6, 95, 95, 101, 113, 95, 95, 9, 42, 95, 102, 114, 111, 122, 101, 110, 95, 105, 109, 112, 111, 114, 116, 108, 105, 98, 46, 77, 111, 100, 117, 108, 101, 83, 112, 101, 99, 46, 95, 95, 101, 113, 95, 95, 35, 111, 112, 97, 113, 117, 101, 6, 274, 6, 99, 97, 99, 104, 101, 100, 9, 42, 95, 102, 114, 111, 122, 101, 110, 95, 105, 109, 112, 111, 114, 116, 108, 105, 98, 46, 77, 111, 100, 117, 108, 101, 83, 112, 101, 99, 46, 99, 97, 99, 104, 101, 100, 35, 111, 112, 97, 113, 117, 101, 6, 275, 6, 112, 97, 114, 101, 110, 116, 9, 42, 95, 102, 114, 111, 122, 101, 110, 95, 105, 109, 112, 111, 114, 116, 108, 105, 98, 46, 77, 111, 100, 117, 108, 101, 83, 112, 101, 99, 46, 112, 97, 114, 101, 110, 116, 35, 111, 112, 97, 113, 117, 101, 6, 276, 12, 104, 97, 115, 95, 108, 111, 99, 97, 116, 105, 111, 110, 9, 48, 95, 102, 114, 111, 122, 101, 110, 95, 105, 109, 112, 111, 114, 116, 108, 105, 98, 46, 77, 111, 100, 117, 108, 101, 83, 112, 101, 99, 46, 104, 97, 115, 95, 108, 111, 99, 97, 116, 105, 111, 110, 35, 111, 112, 97, 113, 117, 101, 6, 277, 21, 95, 95, 115, 116, 97, 116, 105, 99, 95, 97, 116, 116, 114, 105, 98, 117, 116, 101, 115, 95, 95, 4, 0, 0, 34, 6, 279, 8, 95, 95, 100, 105, 99, 116, 95, 95, 4, 0, 0, 35, 6, 281, 11, 95, 95, 119, 101, 97, 107, 114, 101, 102, 95, 95, 4, 0, 0, 36, 6, 282, 8, 95, 95, 104, 97, 115, 104, 95, 95, 0]) 0), (.bool true), (.bool true), (.str (s "") 283)] 3), #[]⟩
noncomputable def o21 (P : Params) : Obj := ⟨(.type "dict"), none, (.dict #[k P "__module__" 213 (.str (s "_frozen_importlib_external") 209), k P "__firstlineno__" 214 (.int (1176) 210), k P "__doc__" 215 (.builtin "_frozen_importlib_external.FileLoader.__doc__:str#opaque"), k P "__init__" 216 (.builtin "_frozen_importlib_external.FileLoader.__init__#opaque"), k P "__eq__" 217 (.builtin "_frozen_importlib_external.FileLoader.__eq__#opaque"), k P "__hash__" 218 (.builtin "_frozen_importlib_external.FileLoader.__hash__#opaque"), k P "load_module" 219 (.builtin "_frozen_importlib_external.FileLoader.load_module#opaque"), k P "get_filename" 220 (.builtin "_frozen_importlib_external.FileLoader.get_filename#opaque"), k P "get_data" 221 (.builtin "_frozen_importlib_external.FileLoader.get_data#opaque"), k P "get_resource_reader" 222 (.builtin "_frozen_importlib_external.FileLoader.get_resource_reader#opaque"), k P "__static_attributes__" 223 (.ref 23), k P "__dict__" 225 (.ref 24), k P "__weakref__" 227 (.ref 25)] 13), #[]⟩
noncomputable def o22 (P : Params) : Obj := ⟨(.type "type"), none, (.cls ⟨(s "FileLoader"), [(.type "object")], [(.ref 22), (.type "object")], 21, (s "FileLoader"), true, [], [(.ref 27)], false, none, false⟩), #[]⟩
noncomputable def o23 (P : Params) : Obj := ⟨(.type "tuple"), none, (.seq #[(.str (s "name") 211), (.str (s "path") 212)] 0), #[]⟩
noncomputable def o24 (P : Params) : Obj := ⟨(.type "getset_descriptor"), none, (.fields #[(.str (s "__dict__") 224), (.ref 22), (.builtin "function.__dict__"), (.builtin "function.__dict__#set")]), #[]⟩
noncomputable def o25 (P : Params) : Obj := ⟨(.type "getset_descriptor"), none, (.fields #[(.str (s "__weakref__") 226), (.ref 22), (.builtin "ExceptionGroup.__weakref__"), .none]), #[]⟩
noncomputable def o26 (P : Params) : Obj := ⟨(.type "dict"), none, (.dict #[k P "__module__" 234 (.str (s "_frozen_importlib_external") 230), k P "__firstlineno__" 235 (.int (1296) 231), k P "__doc__" 236 (.builtin "_frozen_importlib_external.ExtensionFileLoader.__doc__:str#opaque"), k P "__init__" 237 (.builtin "_frozen_importlib_external.ExtensionFileLoader.__init__#opaque"), k P "__eq__" 238 (.builtin "_frozen_importlib_external.ExtensionFileLoader.__eq__#opaque"), k P "__hash__" 239 (.builtin "_frozen_importlib_external.ExtensionFileLoader.__hash__#opaque"), k P "create_module" 240 (.builtin "_frozen_importlib_external.ExtensionFileLoader.create_module#opaque"), k P "exec_module" 241 (.builtin "_frozen_importlib_external.ExtensionFileLoader.exec_module#opaque"), k P "is_package" 242 (.builtin "_frozen_importlib_external.ExtensionFileLoader.is_package#opaque"), k P "get_code" 243 (.builtin "_frozen_importlib_external.ExtensionFileLoader.get_code#opaque"), k P "get_source" 244 (.builtin "_frozen_importlib_external.ExtensionFileLoader.get_source#opaque"), k P "get_filename" 245 (.builtin "_frozen_importlib_external.ExtensionFileLoader.get_filename#opaque"), k P "__static_attributes__" 246 (.ref 28)] 13), #[]⟩
noncomputable def o27 (P : Params) : Obj := ⟨(.type "type"), none, (.cls ⟨(s "ExtensionFileLoader"), [(.ref 22), (.ref 16)], [(.ref 27), (.ref 22), (.ref 16), (.type "object")], 26, (s "ExtensionFileLoader"), true, [], [], false, none, false⟩), #[]⟩
noncomputable def o28 (P : Params) : Obj := ⟨(.type "tuple"), none, (.seq #[(.str (s "name") 232), (.str (s "path") 233)] 0), #[]⟩
noncomputable def o29 (P : Params) : Obj := ⟨(.ref 27), (some 14), .plain, #[]⟩
noncomputable def o30 (P : Params) : Obj := ⟨(.type "list"), none, (.seq #[] 0), #[]⟩
noncomputable def o31 (P : Params) : Obj := ⟨(.type "dict"), none, (.dict #[k P "name" 249 (.str (s "math") 248), k P "loader" 250 (.ref 29), k P "origin" 251 (.str (u [47, 110, 105, 120, 47, 115, 116, 111, 114, 101, 47, 119, 106, 49, 102, 53, 54, 113, 107, 121, 52, 112, 109, 106, 99, 55, 108, 48, 114, 54, 98, 54, 108, 55, 119, 104, 110, 110, 119, 55, 104, 112, 54, 45, 112, 121, 116, 104, 111, 110, 51, 45, 51, 46, 49, 51, 46, 49, 53, 47, 108, 105, 98, 47, 112, 121, 116, 104, 111, 110, 51, 46, 49, 51, 47, 108, 105, 98, 45, 100, 121, 110, 108, 111, 97, 100, 47, 109, 97, 116, 104, 46, 99, 112, 121, 116, 104, 111, 110, 45, 51, 49, 51, 45, 120, 56, 54, 95, 54, 52, 45, 108, 105, 110, 117, 120, 45, 103, 110, 117, 46, 115, 111]) 187), k P "loader_state" 252 .none, k P "submodule_search_locations" 253 .none, k P "_uninitialized_submodules" 254 (.ref 30), k P "_set_fileattr" 255 (.bool true), k P "_cached" 256 .none, k P "_initializing" 284 (.bool false)] 9), #[]⟩
noncomputable def o32 (P : Params) : Obj := ⟨(.type "dict"), none, (.dict #[k P "__module__" 268 (.str (s "_frozen_importlib") 258), k P "__firstlineno__" 269 (.int (562) 259), k P "__doc__" 270 (.builtin "_frozen_importlib.ModuleSpec.__doc__:str#opaque"), k P "__init__" 271 (.builtin "_frozen_importlib.ModuleSpec.__init__#opaque"), k P "__repr__" 272 (.builtin "_frozen_importlib.ModuleSpec.__repr__#opaque"), k P "__eq__" 273 (.builtin "_frozen_importlib.ModuleSpec.__eq__#opaque"), k P "cached" 274 (.builtin "_frozen_importlib.ModuleSpec.cached#opaque"), k P "parent" 275 (.builtin "_frozen_importlib.ModuleSpec.parent#opaque"), k P "has_location" 276 (.builtin "_frozen_importlib.ModuleSpec.has_location#opaque"), k P "__static_attributes__" 277 (.ref 34), k P "__dict__" 279 (.ref 35), k P "__weakref__" 281 (.ref 36), k P "__hash__" 282 .none] 13), #[]⟩
noncomputable def o33 (P : Params) : Obj := ⟨(.type "type"), none, (.cls ⟨(s "ModuleSpec"), [(.type "object")], [(.ref 33), (.type "object")], 32, (s "ModuleSpec"), true, [], [], false, none, false⟩), #[]⟩
noncomputable def o34 (P : Params) : Obj := ⟨(.type "tuple"), none, (.seq #[(.str (s "_cached") 260), (.str (s "_set_fileattr") 261), (.str (s "_uninitialized_submodules") 262), (.str (s "loader") 263), (.str (s "loader_state") 264), (.str (s "name") 265), (.str (s "origin") 266), (.str (s "submodule_search_locations") 267)] 0), #[]⟩
noncomputable def o35 (P : Params) : Obj := ⟨(.type "getset_descriptor"), none, (.fields #[(.str (s "__dict__") 278), (.ref 33), (.builtin "function.__dict__"), (.builtin "function.__dict__#set")]), #[]⟩
noncomputable def o36 (P : Params) : Obj := ⟨(.type "getset_descriptor"), none, (.fields #[(.str (s "__weakref__") 280), (.ref 33), (.builtin "ExceptionGroup.__weakref__"), .none]), #[]⟩
noncomputable def o37 (P : Params) : Obj := ⟨(.ref 33), (some 31), .plain, #[]⟩
noncomputable def o38 (P : Params) : Obj := ⟨.none, none, (.seq #[(.int (12) 0), (.str (u [6, 288, 8, 95, 95, 110, 97, 109, 101, 95, 95, 6, 287, 4, 109, 97, 116, 104, 6, 289, 7, 95, 95, 100, 111, 99, 95, 95, 9, 23, 109, 97, 116, 104, 46, 95, 95, 100, 111, 99, 95, 95, 58, 115, 116, 114, 35, 111, 112, 97, 113, 117, 101, 6, 291, 11, 95, 95, 112, 97, 99, 107, 97, 103, 101, 95, 95, 6, 290, 0, 6, 292, 10, 95, 95, 108, 111, 97, 100, 101, 114, 95, 95, 4, 0, 0, 29, 6, 293, 8, 95, 95, 115, 112, 101, 99, 95, 95, 4, 0, 0, 37, 6, 294, 4, 97, 99, 111, 115, 9, 9, 109, 97, 116, 104, 46, 97, 99, 111, 115, 6, 295, 5, 97, 99, 111, 115, 104, 9, 10, 109, 97, 116, 104, 46, 97, 99, 111, 115, 104, 6, 296, 4, 97, 115, 105, 110, 9, 9, 109, 97, 116, 104, 46, 97, 115, 105, 110, 6, 297, 5, 97, 115, 105, 110, 104, 9, 10, 109, 97, 116, 104, 46, 97, 115, 105, 110, 104, 6, 298, 4, 97, 116, 97, 110, 9, 9, 109, 97, 116, 104, 46, 97, 116, 97, 110, 6, 299, 5, 97, 116, 97, 110, 50, 9, 10, 109, 97, 116, 104, 46, 97, 116, 97, 110, 50, 6, 300, 5, 97, 116, 97, 110, 104, 9, 10, 109, 97, 116, 104, 46, 97, 116, 97, 110, 104, 6, 301, 4, 99, 98, 114, 116, 9, 9, 109, 97, 116, 104, 46, 99, 98, 114, 116, 6, 302, 4, 99, 101, 105, 108, 9, 9, 109, 97, 116, 104, 46, 99, 101, 105, 108, 6, 303, 8, 99, 111, 112, 121, 115, 105, 103, 110, 9, 13, 109, 97, 116, 104, 46, 99, 111, 112, 121, 115, 105, 103, 110, 6, 304, 3, 99, 111, 115, 9, 8, 109, 97, 116, 104, 46, 99, 111, 115, 6, 305, 4, 99, 111, 115, 104, 9, 9, 109, 97, 116, 104, 46, 99, 111, 115, 104, 6, 306, 7, 100, 101, 103, 114, 101, 101, 115, 9, 12, 109, 97, 116, 104, 46, 100, 101, 103, 114, 101, 101, 115, 6, 307, 4, 100, 105, 115, 116, 9, 9, 109, 97, 116, 104, 46, 100, 105, 115, 116, 6, 308, 3, 101, 114, 102, 9, 8, 109, 97, 116, 104, 46, 101, 114, 102, 6, 309, 4, 101, 114, 102, 99, 9, 9, 109, 97, 116, 104, 46, 101, 114, 102, 99, 6, 310, 3, 101, 120, 112, 9, 8, 109, 97, 116, 104, 46, 101, 120, 112, 6, 311, 4, 101, 120, 112, 50, 9, 9, 109, 97, 116, 104, 46, 101, 120, 112, 50, 6, 312, 5, 101, 120, 112, 109, 49, 9, 10, 109, 97, 116, 104, 46, 101, 120, 112, 109, 49, 6, 313, 4, 102, 97, 98, 115, 9, 9, 109, 97, 116, 104, 46, 102, 97, 98, 115, 6, 314, 9, 102, 97, 99, 116, 111, 114, 105, 97, 108, 9, 14, 109, 97, 116, 104, 46, 102, 97, 99, 116, 111, 114, 105, 97, 108, 6, 315, 5, 102, 108, 111, 111, 114, 9, 10, 109, 97, 116, 104, 46, 102, 108, 111, 111, 114, 6, 316, 3, 102, 109, 97, 9, 8, 109, 97, 116, 104, 46, 102, 109, 97, 6, 317, 4, 102, 109, 111, 100, 9, 9, 109, 97, 116, 104, 46, 102, 109, 111, 100, 6, 318, 5, 102, 114, 101, 120, 112, 9, 10, 109, 97, 116, 104, 46, 102, 114, 101, 120, 112, 6, 319, 4, 102, 115, 117, 109, 9, 9, 109, 97, 116, 104, 46, 102, 115, 117, 109, 6, 320, 5, 103, 97, 109, 109, 97, 9, 10, 109, 97, 116, 104, 46, 103, 97, 109, 109, 97, 6, 321, 3, 103, 99, 100, 9, 8, 109, 97, 116, 104, 46, 103, 99, 100, 6, 322, 5, 104, 121, 112, 111, 116, 9, 10, 109, 97, 116, 104, 46, 104, 121, 112, 111, 116, 6, 323, 7, 105, 115, 99, 108, 111, 115, 101, 9, 12, 109, 97, 116, 104, 46, 105, 115, 99, 108, 111, 115, 101, 6, 324, 8, 105, 115, 102, 105, 110, 105, 116, 101, 9, 13, 109, 97, 116, 104, 46, 105, 115, 102, 105, 110, 105, 116, 101, 6, 325, 5, 105, 115, 105, 110, 102, 9, 10, 109, 97, 116, 104, 46, 105, 115, 105, 110, 102, 6, 326, 5, 105, 115, 110, 97, 110, 9, 10, 109, 97, 116, 104, 46, 105, 115, 110, 97, 110, 6, 327, 5, 105, 115, 113, 114, 116, 9, 10, 109, 97, 116, 104, 46, 105, 115, 113, 114, 116, 6, 328, 3, 108, 99, 109, 9, 8, 109, 97, 116, 104, 46, 108, 99, 109, 6, 329, 5, 108, 100, 101, 120, 112, 9, 10, 109, 97, 116, 104, 46, 108, 100, 101, 120, 112, 6, 330, 6, 108, 103, 97, 109, 109, 97, 9, 11, 109, 97, 116, 104, 46, 108, 103, 97, 109, 109, 97, 6, 331, 3, 108, 111, 103, 9, 8, 109, 97, 116, 104, 46, 108, 111, 103, 6, 332, 5, 108, 111, 103, 49, 112, 9, 10, 109, 97, 116, 104, 46, 108, 111, 103, 49, 112, 6, 333, 5, 108, 111, 103, 49, 48, 9, 10, 109, 97, 116, 104, 46, 108, 111, 103, 49, 48, 6, 334, 4, 108, 111, 103, 50, 9, 9, 109, 97, 116, 104, 46, 108, 111, 103, 50, 6, 335, 4, 109, 111, 100, 102, 9, 9, 109, 97, 116, 104, 46, 109, 111, 100, 102, 6, 336, 3, 112, 111, 119, 9, 8, 109, 97, 116, 104, 46, 112, 111, 119, 6, 337, 7, 114, 97, 100, 105, 97, 110, 115, 9, 12, 109, 97, 116, 104, 46, 114, 97, 100, 105, 97, 110, 115, 6, 338, 9, 114, 101, 109, 97, 105, 110, 100, 101, 114, 9, 14, 109, 97, 116, 104, 46, 114, 101, 109, 97, 105, 110, 100, 101, 114, 6, 339, 3, 115, 105, 110, 9, 8, 109, 97, 116, 104, 46, 115, 105, 110, 6, 340, 4, 115, 105, 110, 104, 9, 9, 109, 97, 116, 104, 46, 115, 105, 110, 104, 6, 341, 4, 115, 113, 114, 116, 9, 9, 109, 97, 116, 104, 46, 115, 113, 114, 116, 6, 342, 3, 116, 97, 110, 9, 8, 109, 97, 116, 104, 46, 116, 97, 110, 6, 343, 4, 116, 97, 110, 104, 9, 9, 109, 97, 116, 104, 46, 116, 97, 110, 104, 6, 344, 7, 115, 117, 109, 112, 114, 111, 100, 9, 12, 109, 97, 116, 104, 46, 115, 117, 109, 112, 114, 111, 100, 6, 345, 5, 116, 114, 117, 110, 99, 9, 10, 109, 97, 116, 104, 46, 116, 114, 117, 110, 99, 6, 346, 4, 112, 114, 111, 100, 9, 9, 109, 97, 116, 104, 46, 112, 114, 111, 100, 6, 347, 4, 112, 101, 114, 109, 9, 9, 109, 97, 116, 104, 46, 112, 101, 114, 109, 6, 348, 4, 99, 111, 109, 98, 9, 9, 109, 97, 116, 104, 46, 99, 111, 109, 98, 6, 349, 9, 110, 101, 120, 116, 97, 102, 116, 101, 114, 9, 14, 109, 97, 116, 104, 46, 110, 101, 120, 116, 97, 102, 116, 101, 114, 6, 350, 3, 117, 108, 112, 9, 8, 109, 97, 116, 104, 46, 117, 108, 112, 6, 351, 8, 95, 95, 102, 105, 108, 101, 95, 95, 6, 187, 123, 47, 110, 105, 120, 47, 115, 116, 111, 114, 101, 47, 119, 106, 49, 102, 53, 54, 113, 107, 121, 52, 112, 109, 106, 99, 55, 108, 48, 114, 54, 98, 54, 108, 55, 119, 104, 110, 110, 119, 55, 104, 112, 54, 45, 112, 121, 116, 104, 111, 110, 51, 45, 51, 46, 49, 51, 46, 49, 53, 47, 108, 105, 98, 47, 112, 121, 116, 104, 111, 110, 51, 46, 49, 51, 47, 108, 105, 98, 45, 100, 121, 110, 108, 111, 97, 100, 47, 109, 97, 116, 104, 46, 99, 112, 121, 116, 104, 111, 110, 45, 51, 49, 51, 45, 120, 56, 54, 95, 54, 52, 45, 108, 105, 110, 117, 120, 45, 103, 110, 117, 46, 115, 111, 6, 353, 2, 112, 105, 5, 352, 4614256656552045848, 6, 355, 1, 101, 5, 354, 4613303445314885481, 6, 357, 3, 116, 97, 117, 5, 356, 4618760256179416344, 6, 359, 3, 105, 110, 102, 5, 358, 9218868437227405312, 6, 361, 3, 110, 97, 110, 5, 360, 9221120237041090560]) 0), (.bool true), (.bool false), (.str (s "math") 363)] 0), #[]⟩
noncomputable def ti (P : Params) : BT := (n (o0 P) (n (o1 P) (n (o3 P) (n (o7 P) (n (o15 P) (n (o31 P) z z) z) (n (o23 P) z z)) (n (o11 P) (n (o19 P) (n (o35 P) z z) z) (n (o27 P) z z))) (n (o5 P) (n (o9 P) (n (o17 P) (n (o33 P) z z) z) (n (o25 P) z z)) (n (o13 P) (n (o21 P) (n (o37 P) z z) z) (n (o29 P) z z)))) (n (o2 P) (n (o4 P) (n (o8 P) (n (o16 P) (n (o32 P) z z) z) (n (o24 P) z z)) (n (o12 P) (n (o20 P) (n (o36 P) z z) z) (n (o28 P) z z))) (n (o6 P) (n (o10 P) (n (o18 P) (n (o34 P) z z) z) (n (o26 P) z z)) (n (o14 P) (n (o22 P) (n (o38 P) z z) z) (n (o30 P) z z)))))
noncomputable def Xi (w : World) (os : OsState) : SharedT := ⟨ti w.params, 39, {}, #[], {}, 374, os⟩
noncomputable def li (P : Params) : List Obj := [o0 P, o1 P, o2 P, o3 P, o4 P, o5 P, o6 P, o7 P, o8 P, o9 P, o10 P, o11 P, o12 P, o13 P, o14 P, o15 P, o16 P, o17 P, o18 P, o19 P, o20 P, o21 P, o22 P, o23 P, o24 P, o25 P, o26 P, o27 P, o28 P, o29 P, o30 P, o31 P, o32 P, o33 P, o34 P, o35 P, o36 P, o37 P, o38 P]
noncomputable def Yi (w : World) (os : OsState) : Shared := ⟨⟨⟨li w.params⟩, {}⟩, #[], {}, 374, os⟩
noncomputable def o12_0 (P : Params) : Obj := ⟨(.type "dict"), none, (.dict #[k P "__name__" 288 (.str (s "math") 287), k P "__doc__" 289 (.builtin "off-the-table:math.__doc__:shared#opaque"), k P "__package__" 291 (.str (s "") 290), k P "__loader__" 292 (.builtin "off-the-table:math.__loader__:shared#opaque"), k P "__spec__" 293 (.builtin "off-the-table:math.__spec__:shared#opaque"), k P "acos" 294 (.builtin "off-the-table:math.acos:shared#opaque"), k P "acosh" 295 (.builtin "off-the-table:math.acosh:shared#opaque"), k P "asin" 296 (.builtin "off-the-table:math.asin:shared#opaque"), k P "asinh" 297 (.builtin "off-the-table:math.asinh:shared#opaque"), k P "atan" 298 (.builtin "off-the-table:math.atan:shared#opaque"), k P "atan2" 299 (.builtin "off-the-table:math.atan2:shared#opaque"), k P "atanh" 300 (.builtin "off-the-table:math.atanh:shared#opaque"), k P "cbrt" 301 (.builtin "off-the-table:math.cbrt:shared#opaque"), k P "ceil" 302 (.builtin "math.ceil"), k P "copysign" 303 (.builtin "math.copysign"), k P "cos" 304 (.builtin "off-the-table:math.cos:shared#opaque"), k P "cosh" 305 (.builtin "off-the-table:math.cosh:shared#opaque"), k P "degrees" 306 (.builtin "math.degrees"), k P "dist" 307 (.builtin "math.dist"), k P "erf" 308 (.builtin "off-the-table:math.erf:shared#opaque"), k P "erfc" 309 (.builtin "off-the-table:math.erfc:shared#opaque"), k P "exp" 310 (.builtin "off-the-table:math.exp:shared#opaque"), k P "exp2" 311 (.builtin "off-the-table:math.exp2:shared#opaque"), k P "expm1" 312 (.builtin "off-the-table:math.expm1:shared#opaque"), k P "fabs" 313 (.builtin "math.fabs"), k P "factorial" 314 (.builtin "math.factorial"), k P "floor" 315 (.builtin "math.floor"), k P "fma" 316 (.builtin "math.fma"), k P "fmod" 317 (.builtin "math.fmod"), k P "frexp" 318 (.builtin "math.frexp"), k P "fsum" 319 (.builtin "math.fsum"), k P "gamma" 320 (.builtin "off-the-table:math.gamma:shared#opaque"), k P "gcd" 321 (.builtin "math.gcd"), k P "hypot" 322 (.builtin "math.hypot"), k P "isclose" 323 (.builtin "math.isclose"), k P "isfinite" 324 (.builtin "math.isfinite"), k P "isinf" 325 (.builtin "math.isinf"), k P "isnan" 326 (.builtin "math.isnan"), k P "isqrt" 327 (.builtin "math.isqrt"), k P "lcm" 328 (.builtin "math.lcm"), k P "ldexp" 329 (.builtin "math.ldexp"), k P "lgamma" 330 (.builtin "off-the-table:math.lgamma:shared#opaque"), k P "log" 331 (.builtin "off-the-table:math.log:shared#opaque"), k P "log1p" 332 (.builtin "off-the-table:math.log1p:shared#opaque"), k P "log10" 333 (.builtin "off-the-table:math.log10:shared#opaque"), k P "log2" 334 (.builtin "off-the-table:math.log2:shared#opaque"), k P "modf" 335 (.builtin "math.modf"), k P "pow" 336 (.builtin "off-the-table:math.pow:shared#opaque"), k P "radians" 337 (.builtin "math.radians"), k P "remainder" 338 (.builtin "math.remainder"), k P "sin" 339 (.builtin "off-the-table:math.sin:shared#opaque"), k P "sinh" 340 (.builtin "off-the-table:math.sinh:shared#opaque"), k P "sqrt" 341 (.builtin "math.sqrt"), k P "tan" 342 (.builtin "off-the-table:math.tan:shared#opaque"), k P "tanh" 343 (.builtin "off-the-table:math.tanh:shared#opaque"), k P "sumprod" 344 (.builtin "math.sumprod"), k P "trunc" 345 (.builtin "math.trunc"), k P "prod" 346 (.builtin "math.prod"), k P "perm" 347 (.builtin "math.perm"), k P "comb" 348 (.builtin "math.comb"), k P "nextafter" 349 (.builtin "math.nextafter"), k P "ulp" 350 (.builtin "math.ulp"), k P "__file__" 351 (.str (u [47, 110, 105, 120, 47, 115, 116, 111, 114, 101, 47, 119, 106, 49, 102, 53, 54, 113, 107, 121, 52, 112, 109, 106, 99, 55, 108, 48, 114, 54, 98, 54, 108, 55, 119, 104, 110, 110, 119, 55, 104, 112, 54, 45, 112, 121, 116, 104, 111, 110, 51, 45, 51, 46, 49, 51, 46, 49, 53, 47, 108, 105, 98, 47, 112, 121, 116, 104, 111, 110, 51, 46, 49, 51, 47, 108, 105, 98, 45, 100, 121, 110, 108, 111, 97, 100, 47, 109, 97, 116, 104, 46, 99, 112, 121, 116, 104, 111, 110, 45, 51, 49, 51, 45, 120, 56, 54, 95, 54, 52, 45, 108, 105, 110, 117, 120, 45, 103, 110, 117, 46, 115, 111]) 187), k P "pi" 353 (.float 4614256656552045848 352), k P "e" 355 (.float 4613303445314885481 354), k P "tau" 357 (.float 4618760256179416344 356), k P "inf" 359 (.float 9218868437227405312 358), k P "nan" 361 (.float 9221120237041090560 360)] 68), #[]⟩
noncomputable def t0 (P : Params) : BT := (n (o0 P) (n (o1 P) (n (o3 P) (n (o7 P) (n (o15 P) (n (o31 P) z z) z) (n (o23 P) z z)) (n (o11 P) (n (o19 P) (n (o35 P) z z) z) (n (o27 P) z z))) (n (o5 P) (n (o9 P) (n (o17 P) (n (o33 P) z z) z) (n (o25 P) z z)) (n (o13 P) (n (o21 P) (n (o37 P) z z) z) (n (o29 P) z z)))) (n (o2 P) (n (o4 P) (n (o8 P) (n (o16 P) (n (o32 P) z z) z) (n (o24 P) z z)) (n (o12_0 P) (n (o20 P) (n (o36 P) z z) z) (n (o28 P) z z))) (n (o6 P) (n (o10 P) (n (o18 P) (n (o34 P) z z) z) (n (o26 P) z z)) (n (o14 P) (n (o22 P) (n (o38 P) z z) z) (n (o30 P) z z)))))
noncomputable def X0 (w : World) (os : OsState) : SharedT := ⟨t0 w.params, 39, {}, #[], {}, 374, os⟩
noncomputable def l0 (P : Params) : List Obj := [o0 P, o1 P, o2 P, o3 P, o4 P, o5 P, o6 P, o7 P, o8 P, o9 P, o10 P, o11 P, o12_0 P, o13 P, o14 P, o15 P, o16 P, o17 P, o18 P, o19 P, o20 P, o21 P, o22 P, o23 P, o24 P, o25 P, o26 P, o27 P, o28 P, o29 P, o30 P, o31 P, o32 P, o33 P, o34 P, o35 P, o36 P, o37 P, o38 P]
noncomputable def Y0 (w : World) (os : OsState) : Shared := ⟨⟨⟨l0 w.params⟩, {}⟩, #[], {}, 374, os⟩
noncomputable def o39 (P : Params) : Obj := ⟨(.type "tuple"), none, (.seq #[] 0), #[]⟩
noncomputable def o40 (P : Params) : Obj := ⟨.none, none, (.fields #[]), #[]⟩
noncomputable def o41 (P : Params) : Obj := ⟨(.type "code"), none, (.fields #[(.str (s "<module>") 375), (.str (s "<module>") 376), (.str (s "/claim/cut.py") 377), (.int (1) 0), (.int (0) 0), (.int (0) 0), (.int (0) 0), (.int (0) 0), (.ref 39), (.bool false), (.int (374) 0), (.ref 40), .none, .none, .none, .none, (.int (378) 0), (.int (1) 0), (.str (s "/claim/cut.py") 379)]), #[]⟩
noncomputable def o42 (P : Params) : Obj := ⟨(.type "frame"), none, .plain, #[(some (.ref 41)), (some (.ref 3)), (some (.ref 3)), none, (some (.str (s "__main__") 164)), none, (some (.ref 0))]⟩
noncomputable def ta (P : Params) : BT := (n (o0 P) (n (o1 P) (n (o3 P) (n (o7 P) (n (o15 P) (n (o31 P) z z) z) (n (o23 P) (n (o39 P) z z) z)) (n (o11 P) (n (o19 P) (n (o35 P) z z) z) (n (o27 P) z z))) (n (o5 P) (n (o9 P) (n (o17 P) (n (o33 P) z z) z) (n (o25 P) (n (o41 P) z z) z)) (n (o13 P) (n (o21 P) (n (o37 P) z z) z) (n (o29 P) z z)))) (n (o2 P) (n (o4 P) (n (o8 P) (n (o16 P) (n (o32 P) z z) z) (n (o24 P) (n (o40 P) z z) z)) (n (o12_0 P) (n (o20 P) (n (o36 P) z z) z) (n (o28 P) z z))) (n (o6 P) (n (o10 P) (n (o18 P) (n (o34 P) z z) z) (n (o26 P) (n (o42 P) z z) z)) (n (o14 P) (n (o22 P) (n (o38 P) z z) z) (n (o30 P) z z)))))
noncomputable def Xa (w : World) (os : OsState) : SharedT := ⟨ta w.params, 43, {}, #[], {}, 380, os⟩
noncomputable def tb (P : Params) : BT := (n (o0 P) (n (o1 P) (n (o3 P) (n (o7 P) (n (o15 P) (n (o31 P) z z) z) (n (o23 P) (n (o39 P) z z) z)) (n (o11 P) (n (o19 P) (n (o35 P) z z) z) (n (o27 P) z z))) (n (o5 P) (n (o9 P) (n (o17 P) (n (o33 P) z z) z) (n (o25 P) (n (o41 P) z z) z)) (n (o13 P) (n (o21 P) (n (o37 P) z z) z) (n (o29 P) z z)))) (n (o2 P) (n (o4 P) (n (o8 P) (n (o16 P) (n (o32 P) z z) z) (n (o24 P) (n (o40 P) z z) z)) (n (o12_0 P) (n (o20 P) (n (o36 P) z z) z) (n (o28 P) z z))) (n (o6 P) (n (o10 P) (n (o18 P) (n (o34 P) z z) z) (n (o26 P) (n (o42 P) z z) z)) (n (o14 P) (n (o22 P) (n (o38 P) z z) z) (n (o30 P) z z)))))
noncomputable def Xb (w : World) (os : OsState) : SharedT := ⟨tb w.params, 43, {}, #[], {}, 380, os⟩
noncomputable def o3_1 (P : Params) : Obj := ⟨(.type "dict"), none, (.dict #[k P "__name__" 165 (.str (s "likepanes.errors") 380), k P "__doc__" 166 .none, k P "__package__" 167 .none, k P "__loader__" 168 (.builtin "__main__.__loader__#opaque"), k P "__spec__" 169 .none, k P "__annotations__" 170 (.ref 6), k P "__builtins__" 171 (.ref 4), k P "__file__" 173 (.str (s "/claim/cut.py") 172), k P "__cached__" 174 .none, k P "gcd" 370 (.builtin "math.gcd"), k P "isqrt" 373 (.builtin "math.isqrt"), k P "BadValue" 399 (.ref 52), k P "InvalidText" 424 (.ref 72), k P "InvalidFraction" 449 (.ref 91), k P "InvalidNumber" 474 (.ref 110)] 15), #[]⟩
noncomputable def o40_1 (P : Params) : Obj := ⟨.none, none, (.fields #[(.int (3) 0), (.int (0) 0), (.ref 48), (.int (5) 0), (.int (0) 0), (.ref 61), (.int (10) 0), (.int (0) 0), (.ref 80), (.int (15) 0), (.int (0) 0), (.ref 99)]), #[]⟩
noncomputable def o43 (P : Params) : Obj := ⟨(.type "tuple"), none, (.seq #[(.type "ValueError")] 0), #[]⟩
noncomputable def o44 (P : Params) : Obj := ⟨(.type "builtin_function_or_method"), none, (.fields #[(.builtin "type.__prepare__"), (.type "type")]), #[]⟩
noncomputable def o45 (P : Params) : Obj := ⟨(.type "dict"), none, (.dict #[k P "__module__" 389 (.str (s "likepanes.errors") 380), k P "__qualname__" 391 (.str (s "BadValue") 390), k P "__firstlineno__" 393 (.int (3) 392), k P "__static_attributes__" 394 (.ref 50)] 4), #[]⟩
noncomputable def o46 (P : Params) : Obj := ⟨(.type "tuple"), none, (.seq #[] 0), #[]⟩
noncomputable def o47 (P : Params) : Obj := ⟨.none, none, (.fields #[]), #[]⟩
noncomputable def o48 (P : Params) : Obj := ⟨(.type "code"), none, (.fields #[(.str (s "BadValue") 384), (.str (s "BadValue") 385), (.str (s "/claim/cut.py") 386), (.int (3) 0), (.int (0) 0), (.int (0) 0), (.int (0) 0), (.int (0) 0), (.ref 46), (.bool false), (.int (374) 0), (.ref 47), .none, .none, .none, .none, (.int (387) 0), (.int (3) 0), (.str (s "/claim/cut.py") 388)]), #[]⟩
noncomputable def o49 (P : Params) : Obj := ⟨(.type "frame"), none, .plain, #[(some (.ref 48)), (some (.ref 3)), (some (.ref 45)), none, (some (.str (s "likepanes.errors") 380)), none, (some (.ref 0))]⟩
noncomputable def o50 (P : Params) : Obj := ⟨(.type "tuple"), none, (.seq #[] 0), #[]⟩
noncomputable def o51 (P : Params) : Obj := ⟨(.type "dict"), none, (.dict #[k P "__module__" 389 (.str (s "likepanes.errors") 380), k P "__firstlineno__" 393 (.int (3) 392), k P "__static_attributes__" 394 (.ref 50), k P "__weakref__" 396 (.ref 53), k P "__doc__" 397 .none] 3), #[]⟩
noncomputable def o52 (P : Params) : Obj := ⟨(.type "type"), none, (.cls ⟨(s "BadValue"), [(.type "ValueError")], [(.ref 52), (.type "ValueError"), (.type "Exception"), (.type "BaseException"), (.type "object")], 51, (s "BadValue"), true, [], [(.ref 72), (.ref 91), (.ref 110)], false, none, false⟩), #[(some (.ref 43)), none, (some (.str (s "BadValue") 382)), (some (.str (s "BadValue") 390)), (some (.builtin "ValueError.__new__")), (some (.bool true))]⟩
noncomputable def o53 (P : Params) : Obj := ⟨(.type "getset_descriptor"), none, (.fields #[(.str (s "__weakref__") 395), (.ref 52), (.builtin "ExceptionGroup.__weakref__"), .none]), #[]⟩
noncomputable def o54 (P : Params) : Obj := ⟨(.type "super"), none, (.fields #[(.ref 52), (.ref 52), (.ref 52)]), #[]⟩
noncomputable def o55 (P : Params) : Obj := ⟨(.type "builtin_function_or_method"), none, (.fields #[(.builtin "object.__init_subclass__"), (.ref 52)]), #[]⟩
noncomputable def o56 (P : Params) : Obj := ⟨(.type "tuple"), none, (.seq #[(.ref 52)] 0), #[]⟩
noncomputable def o57 (P : Params) : Obj := ⟨(.type "builtin_function_or_method"), none, (.fields #[(.builtin "type.__prepare__"), (.type "type")]), #[]⟩
noncomputable def o58 (P : Params) : Obj := ⟨(.type "dict"), none, (.dict #[k P "__module__" 407 (.str (s "likepanes.errors") 380), k P "__qualname__" 409 (.str (s "InvalidText") 408), k P "__firstlineno__" 411 (.int (5) 410), k P "__init__" 419 (.ref 69), k P "__static_attributes__" 421 (.ref 70)] 5), #[]⟩
noncomputable def o59 (P : Params) : Obj := ⟨(.type "tuple"), none, (.seq #[] 0), #[]⟩
noncomputable def o60 (P : Params) : Obj := ⟨.none, none, (.fields #[(.int (7) 0), (.int (4) 0), (.ref 68)]), #[]⟩
noncomputable def o61 (P : Params) : Obj := ⟨(.type "code"), none, (.fields #[(.str (s "InvalidText") 402), (.str (s "InvalidText") 403), (.str (s "/claim/cut.py") 404), (.int (5) 0), (.int (0) 0), (.int (0) 0), (.int (0) 0), (.int (0) 0), (.ref 59), (.bool false), (.int (374) 0), (.ref 60), .none, .none, .none, .none, (.int (405) 0), (.int (5) 0), (.str (s "/claim/cut.py") 406)]), #[]⟩
noncomputable def o62 (P : Params) : Obj := ⟨(.type "frame"), none, .plain, #[(some (.ref 61)), (some (.ref 3)), (some (.ref 58)), none, (some (.str (s "likepanes.errors") 380)), none, (some (.ref 0))]⟩
noncomputable def o63 (P : Params) : Obj := ⟨(.type "tuple"), none, (.seq #[] 0), #[]⟩
noncomputable def o64 (P : Params) : Obj := ⟨.none, none, (.fields #[]), #[]⟩
noncomputable def o65 (P : Params) : Obj := ⟨(.type "tuple"), none, (.seq #[(.str (s "self") 415), (.str (s "given") 416)] 0), #[]⟩
noncomputable def o66 (P : Params) : Obj := ⟨(.type "tuple"), none, (.seq #[] 0), #[]⟩
noncomputable def o67 (P : Params) : Obj := ⟨.none, none, (.func (fn (L2.inClass (hT 3) 0) (s "__init__") (s "InvalidText.__init__") 0 [] .none .none .none .none none .none .none 0)), #[]⟩
noncomputable def o68 (P : Params) : Obj := ⟨(.type "code"), none, (.fields #[(.str (s "__init__") 412), (.str (s "InvalidText.__init__") 413), (.str (s "/claim/cut.py") 414), (.int (7) 0), (.int (2) 0), (.int (0) 0), (.int (0) 0), (.int (3) 0), (.ref 63), (.bool true), (.int (374) 0), (.ref 64), .none, (.ref 65), (.ref 66), (.ref 67), (.int (417) 0), (.int (7) 0), (.str (s "/claim/cut.py") 418)]), #[]⟩
noncomputable def o69 (P : Params) : Obj := ⟨(.type "function"), none, (.func (fn (L2.inClass (hT 3) 0) (s "__init__") (s "InvalidText.__init__") 3 [] .none .none .none (.str (s "likepanes.errors") 380) none (.ref 68) .none 0)), #[]⟩
noncomputable def o70 (P : Params) : Obj := ⟨(.type "tuple"), none, (.seq #[(.str (s "given") 420)] 0), #[]⟩
noncomputable def o71 (P : Params) : Obj := ⟨(.type "dict"), none, (.dict #[k P "__module__" 407 (.str (s "likepanes.errors") 380), k P "__firstlineno__" 411 (.int (5) 410), k P "__init__" 419 (.ref 69), k P "__static_attributes__" 421 (.ref 70), k P "__doc__" 422 .none] 2), #[]⟩
noncomputable def o72 (P : Params) : Obj := ⟨(.type "type"), none, (.cls ⟨(s "InvalidText"), [(.ref 52)], [(.ref 72), (.ref 52), (.type "ValueError"), (.type "Exception"), (.type "BaseException"), (.type "object")], 71, (s "InvalidText"), true, [], [], false, none, false⟩), #[(some (.ref 56)), none, (some (.str (s "InvalidText") 400)), (some (.str (s "InvalidText") 408)), (some (.builtin "ValueError.__new__")), (some (.bool true))]⟩
noncomputable def o73 (P : Params) : Obj := ⟨(.type "super"), none, (.fields #[(.ref 72), (.ref 72), (.ref 72)]), #[]⟩
noncomputable def o74 (P : Params) : Obj := ⟨(.type "builtin_function_or_method"), none, (.fields #[(.builtin "object.__init_subclass__"), (.ref 72)]), #[]⟩
noncomputable def o75 (P : Params) : Obj := ⟨(.type "tuple"), none, (.seq #[(.ref 52)] 0), #[]⟩
noncomputable def o76 (P : Params) : Obj := ⟨(.type "builtin_function_or_method"), none, (.fields #[(.builtin "type.__prepare__"), (.type "type")]), #[]⟩
noncomputable def o77 (P : Params) : Obj := ⟨(.type "dict"), none, (.dict #[k P "__module__" 432 (.str (s "likepanes.errors") 380), k P "__qualname__" 434 (.str (s "InvalidFraction") 433), k P "__firstlineno__" 436 (.int (10) 435), k P "__init__" 444 (.ref 88), k P "__static_attributes__" 446 (.ref 89)] 5), #[]⟩
noncomputable def o78 (P : Params) : Obj := ⟨(.type "tuple"), none, (.seq #[] 0), #[]⟩
noncomputable def o79 (P : Params) : Obj := ⟨.none, none, (.fields #[(.int (12) 0), (.int (4) 0), (.ref 87)]), #[]⟩
noncomputable def o80 (P : Params) : Obj := ⟨(.type "code"), none, (.fields #[(.str (s "InvalidFraction") 427), (.str (s "InvalidFraction") 428), (.str (s "/claim/cut.py") 429), (.int (10) 0), (.int (0) 0), (.int (0) 0), (.int (0) 0), (.int (0) 0), (.ref 78), (.bool false), (.int (374) 0), (.ref 79), .none, .none, .none, .none, (.int (430) 0), (.int (10) 0), (.str (s "/claim/cut.py") 431)]), #[]⟩
noncomputable def o81 (P : Params) : Obj := ⟨(.type "frame"), none, .plain, #[(some (.ref 80)), (some (.ref 3)), (some (.ref 77)), none, (some (.str (s "likepanes.errors") 380)), none, (some (.ref 0))]⟩
noncomputable def o82 (P : Params) : Obj := ⟨(.type "tuple"), none, (.seq #[] 0), #[]⟩
noncomputable def o83 (P : Params) : Obj := ⟨.none, none, (.fields #[]), #[]⟩
noncomputable def o84 (P : Params) : Obj := ⟨(.type "tuple"), none, (.seq #[(.str (s "self") 440), (.str (s "given") 441)] 0), #[]⟩
noncomputable def o85 (P : Params) : Obj := ⟨(.type "tuple"), none, (.seq #[] 0), #[]⟩
noncomputable def o86 (P : Params) : Obj := ⟨.none, none, (.func (fn (L2.inClass (hT 4) 0) (s "__init__") (s "InvalidFraction.__init__") 0 [] .none .none .none .none none .none .none 0)), #[]⟩
noncomputable def o87 (P : Params) : Obj := ⟨(.type "code"), none, (.fields #[(.str (s "__init__") 437), (.str (s "InvalidFraction.__init__") 438), (.str (s "/claim/cut.py") 439), (.int (12) 0), (.int (2) 0), (.int (0) 0), (.int (0) 0), (.int (3) 0), (.ref 82), (.bool true), (.int (374) 0), (.ref 83), .none, (.ref 84), (.ref 85), (.ref 86), (.int (442) 0), (.int (12) 0), (.str (s "/claim/cut.py") 443)]), #[]⟩
noncomputable def o88 (P : Params) : Obj := ⟨(.type "function"), none, (.func (fn (L2.inClass (hT 4) 0) (s "__init__") (s "InvalidFraction.__init__") 3 [] .none .none .none (.str (s "likepanes.errors") 380) none (.ref 87) .none 0)), #[]⟩
noncomputable def o89 (P : Params) : Obj := ⟨(.type "tuple"), none, (.seq #[(.str (s "given") 445)] 0), #[]⟩
noncomputable def o90 (P : Params) : Obj := ⟨(.type "dict"), none, (.dict #[k P "__module__" 432 (.str (s "likepanes.errors") 380), k P "__firstlineno__" 436 (.int (10) 435), k P "__init__" 444 (.ref 88), k P "__static_attributes__" 446 (.ref 89), k P "__doc__" 447 .none] 2), #[]⟩
noncomputable def o91 (P : Params) : Obj := ⟨(.type "type"), none, (.cls ⟨(s "InvalidFraction"), [(.ref 52)], [(.ref 91), (.ref 52), (.type "ValueError"), (.type "Exception"), (.type "BaseException"), (.type "object")], 90, (s "InvalidFraction"), true, [], [], false, none, false⟩), #[(some (.ref 75)), none, (some (.str (s "InvalidFraction") 425)), (some (.str (s "InvalidFraction") 433)), (some (.builtin "ValueError.__new__")), (some (.bool true))]⟩
noncomputable def o92 (P : Params) : Obj := ⟨(.type "super"), none, (.fields #[(.ref 91), (.ref 91), (.ref 91)]), #[]⟩
noncomputable def o93 (P : Params) : Obj := ⟨(.type "builtin_function_or_method"), none, (.fields #[(.builtin "object.__init_subclass__"), (.ref 91)]), #[]⟩
noncomputable def o94 (P : Params) : Obj := ⟨(.type "tuple"), none, (.seq #[(.ref 52)] 0), #[]⟩
noncomputable def o95 (P : Params) : Obj := ⟨(.type "builtin_function_or_method"), none, (.fields #[(.builtin "type.__prepare__"), (.type "type")]), #[]⟩
noncomputable def o96 (P : Params) : Obj := ⟨(.type "dict"), none, (.dict #[k P "__module__" 457 (.str (s "likepanes.errors") 380), k P "__qualname__" 459 (.str (s "InvalidNumber") 458), k P "__firstlineno__" 461 (.int (15) 460), k P "__init__" 469 (.ref 107), k P "__static_attributes__" 471 (.ref 108)] 5), #[]⟩
noncomputable def o97 (P : Params) : Obj := ⟨(.type "tuple"), none, (.seq #[] 0), #[]⟩
noncomputable def o98 (P : Params) : Obj := ⟨.none, none, (.fields #[(.int (17) 0), (.int (4) 0), (.ref 106)]), #[]⟩
noncomputable def o99 (P : Params) : Obj := ⟨(.type "code"), none, (.fields #[(.str (s "InvalidNumber") 452), (.str (s "InvalidNumber") 453), (.str (s "/claim/cut.py") 454), (.int (15) 0), (.int (0) 0), (.int (0) 0), (.int (0) 0), (.int (0) 0), (.ref 97), (.bool false), (.int (374) 0), (.ref 98), .none, .none, .none, .none, (.int (455) 0), (.int (15) 0), (.str (s "/claim/cut.py") 456)]), #[]⟩
noncomputable def o100 (P : Params) : Obj := ⟨(.type "frame"), none, .plain, #[(some (.ref 99)), (some (.ref 3)), (some (.ref 96)), none, (some (.str (s "likepanes.errors") 380)), none, (some (.ref 0))]⟩
noncomputable def o101 (P : Params) : Obj := ⟨(.type "tuple"), none, (.seq #[] 0), #[]⟩
noncomputable def o102 (P : Params) : Obj := ⟨.none, none, (.fields #[]), #[]⟩
noncomputable def o103 (P : Params) : Obj := ⟨(.type "tuple"), none, (.seq #[(.str (s "self") 465), (.str (s "given") 466)] 0), #[]⟩
noncomputable def o104 (P : Params) : Obj := ⟨(.type "tuple"), none, (.seq #[] 0), #[]⟩
noncomputable def o105 (P : Params) : Obj := ⟨.none, none, (.func (fn (L2.inClass (hT 5) 0) (s "__init__") (s "InvalidNumber.__init__") 0 [] .none .none .none .none none .none .none 0)), #[]⟩
noncomputable def o106 (P : Params) : Obj := ⟨(.type "code"), none, (.fields #[(.str (s "__init__") 462), (.str (s "InvalidNumber.__init__") 463), (.str (s "/claim/cut.py") 464), (.int (17) 0), (.int (2) 0), (.int (0) 0), (.int (0) 0), (.int (3) 0), (.ref 101), (.bool true), (.int (374) 0), (.ref 102), .none, (.ref 103), (.ref 104), (.ref 105), (.int (467) 0), (.int (17) 0), (.str (s "/claim/cut.py") 468)]), #[]⟩
noncomputable def o107 (P : Params) : Obj := ⟨(.type "function"), none, (.func (fn (L2.inClass (hT 5) 0) (s "__init__") (s "InvalidNumber.__init__") 3 [] .none .none .none (.str (s "likepanes.errors") 380) none (.ref 106) .none 0)), #[]⟩
noncomputable def o108 (P : Params) : Obj := ⟨(.type "tuple"), none, (.seq #[(.str (s "given") 470)] 0), #[]⟩
noncomputable def o109 (P : Params) : Obj := ⟨(.type "dict"), none, (.dict #[k P "__module__" 457 (.str (s "likepanes.errors") 380), k P "__firstlineno__" 461 (.int (15) 460), k P "__init__" 469 (.ref 107), k P "__static_attributes__" 471 (.ref 108), k P "__doc__" 472 .none] 2), #[]⟩
noncomputable def o110 (P : Params) : Obj := ⟨(.type "type"), none, (.cls ⟨(s "InvalidNumber"), [(.ref 52)], [(.ref 110), (.ref 52), (.type "ValueError"), (.type "Exception"), (.type "BaseException"), (.type "object")], 109, (s "InvalidNumber"), true, [], [], false, none, false⟩), #[(some (.ref 94)), none, (some (.str (s "InvalidNumber") 450)), (some (.str (s "InvalidNumber") 458)), (some (.builtin "ValueError.__new__")), (some (.bool true))]⟩
noncomputable def o111 (P : Params) : Obj := ⟨(.type "super"), none, (.fields #[(.ref 110), (.ref 110), (.ref 110)]), #[]⟩
noncomputable def o112 (P : Params) : Obj := ⟨(.type "builtin_function_or_method"), none, (.fields #[(.builtin "object.__init_subclass__"), (.ref 110)]), #[]⟩
noncomputable def t1 (P : Params) : BT := (n (o0 P) (n (o1 P) (n (o3_1 P) (n (o7 P) (n (o15 P) (n (o31 P) (n (o63 P) z z) (n (o95 P) z z)) (n (o47 P) (n (o79 P) z z) (n (o111 P) z z))) (n (o23 P) (n (o39 P) (n (o71 P) z z) (n (o103 P) z z)) (n (o55 P) (n (o87 P) z z) z))) (n (o11 P) (n (o19 P) (n (o35 P) (n (o67 P) z z) (n (o99 P) z z)) (n (o51 P) (n (o83 P) z z) z)) (n (o27 P) (n (o43 P) (n (o75 P) z z) (n (o107 P) z z)) (n (o59 P) (n (o91 P) z z) z)))) (n (o5 P) (n (o9 P) (n (o17 P) (n (o33 P) (n (o65 P) z z) (n (o97 P) z z)) (n (o49 P) (n (o81 P) z z) z)) (n (o25 P) (n (o41 P) (n (o73 P) z z) (n (o105 P) z z)) (n (o57 P) (n (o89 P) z z) z))) (n (o13 P) (n (o21 P) (n (o37 P) (n (o69 P) z z) (n (o101 P) z z)) (n (o53 P) (n (o85 P) z z) z)) (n (o29 P) (n (o45 P) (n (o77 P) z z) (n (o109 P) z z)) (n (o61 P) (n (o93 P) z z) z))))) (n (o2 P) (n (o4 P) (n (o8 P) (n (o16 P) (n (o32 P) (n (o64 P) z z) (n (o96 P) z z)) (n (o48 P) (n (o80 P) z z) (n (o112 P) z z))) (n (o24 P) (n (o40_1 P) (n (o72 P) z z) (n (o104 P) z z)) (n (o56 P) (n (o88 P) z z) z))) (n (o12_0 P) (n (o20 P) (n (o36 P) (n (o68 P) z z) (n (o100 P) z z)) (n (o52 P) (n (o84 P) z z) z)) (n (o28 P) (n (o44 P) (n (o76 P) z z) (n (o108 P) z z)) (n (o60 P) (n (o92 P) z z) z)))) (n (o6 P) (n (o10 P) (n (o18 P) (n (o34 P) (n (o66 P) z z) (n (o98 P) z z)) (n (o50 P) (n (o82 P) z z) z)) (n (o26 P) (n (o42 P) (n (o74 P) z z) (n (o106 P) z z)) (n (o58 P) (n (o90 P) z z) z))) (n (o14 P) (n (o22 P) (n (o38 P) (n (o70 P) z z) (n (o102 P) z z)) (n (o54 P) (n (o86 P) z z) z)) (n (o30 P) (n (o46 P) (n (o78 P) z z) (n (o110 P) z z)) (n (o62 P) (n (o94 P) z z) z))))))
noncomputable def X1 (w : World) (os : OsState) : SharedT := ⟨t1 w.params, 113, {}, #[], {}, 475, os⟩
noncomputable def o2_2 (P : Params) : Obj := ⟨.none, none, (.dict #[ku P (u [105, 109, 112, 111, 114, 116, 46, 108, 111, 97, 100, 101, 100, 46, 109, 97, 116, 104]) 186 (.bool true), k P "class._frozen_importlib_external._LoaderBasics" 191 (.ref 16), ku P (u [119, 97, 116, 99, 104, 101, 100, 46, 105, 109, 112, 111, 114, 116]) 207 (.ref 20), k P "class._frozen_importlib_external.FileLoader" 208 (.ref 22), k P "class._frozen_importlib_external.ExtensionFileLoader" 229 (.ref 27), k P "class._frozen_importlib.ModuleSpec" 257 (.ref 33), k P "sys.modules.booked-epoch" 286 (.int (3) 0), ku P (u [105, 109, 112, 111, 114, 116, 46, 108, 97, 116, 101, 114, 45, 108, 97, 105, 100, 46, 109, 97, 116, 104]) 362 (.bool true), k P "watched.library" 364 (.ref 38), k P "watched.library-objects" 0 (.str (u [13]) 0), k P "type.__subclasses__.ArithmeticError.0" 566 (.int (179) 0), k P "type.__subclasses__.ArithmeticError.n" 567 (.int (1) 0)] 12), #[]⟩
noncomputable def o3_2 (P : Params) : Obj := ⟨(.type "dict"), none, (.dict #[k P "__name__" 165 (.str (s "likepanes.errors") 380), k P "__doc__" 166 .none, k P "__package__" 167 .none, k P "__loader__" 168 (.builtin "__main__.__loader__#opaque"), k P "__spec__" 169 .none, k P "__annotations__" 170 (.ref 6), k P "__builtins__" 171 (.ref 4), k P "__file__" 173 (.str (s "/claim/cut.py") 172), k P "__cached__" 174 .none, k P "gcd" 370 (.builtin "math.gcd"), k P "isqrt" 373 (.builtin "math.isqrt"), k P "BadValue" 399 (.ref 52), k P "InvalidText" 424 (.ref 72), k P "InvalidFraction" 449 (.ref 91), k P "InvalidNumber" 474 (.ref 110), k P "InvalidScale" 499 (.ref 129), k P "NotAShape" 524 (.ref 148), k P "InvalidEquation" 549 (.ref 167), k P "NoAnswer" 569 (.ref 179)] 19), #[]⟩
noncomputable def o40_2 (P : Params) : Obj := ⟨.none, none, (.fields #[(.int (3) 0), (.int (0) 0), (.ref 48), (.int (5) 0), (.int (0) 0), (.ref 61), (.int (10) 0), (.int (0) 0), (.ref 80), (.int (15) 0), (.int (0) 0), (.ref 99), (.int (20) 0), (.int (0) 0), (.ref 118), (.int (25) 0), (.int (0) 0), (.ref 137), (.int (30) 0), (.int (0) 0), (.ref 156), (.int (35) 0), (.int (0) 0), (.ref 175)]), #[]⟩
noncomputable def o52_2 (P : Params) : Obj := ⟨(.type "type"), none, (.cls ⟨(s "BadValue"), [(.type "ValueError")], [(.ref 52), (.type "ValueError"), (.type "Exception"), (.type "BaseException"), (.type "object")], 51, (s "BadValue"), true, [], [(.ref 72), (.ref 91), (.ref 110), (.ref 129), (.ref 148), (.ref 167)], false, none, false⟩), #[(some (.ref 43)), none, (some (.str (s "BadValue") 382)), (some (.str (s "BadValue") 390)), (some (.builtin "ValueError.__new__")), (some (.bool true))]⟩
noncomputable def o113 (P : Params) : Obj := ⟨(.type "tuple"), none, (.seq #[(.ref 52)] 0), #[]⟩
noncomputable def o114 (P : Params) : Obj := ⟨(.type "builtin_function_or_method"), none, (.fields #[(.builtin "type.__prepare__"), (.type "type")]), #[]⟩
noncomputable def o115 (P : Params) : Obj := ⟨(.type "dict"), none, (.dict #[k P "__module__" 482 (.str (s "likepanes.errors") 380), k P "__qualname__" 484 (.str (s "InvalidScale") 483), k P "__firstlineno__" 486 (.int (20) 485), k P "__init__" 494 (.ref 126), k P "__static_attributes__" 496 (.ref 127)] 5), #[]⟩
noncomputable def o116 (P : Params) : Obj := ⟨(.type "tuple"), none, (.seq #[] 0), #[]⟩
noncomputable def o117 (P : Params) : Obj := ⟨.none, none, (.fields #[(.int (22) 0), (.int (4) 0), (.ref 125)]), #[]⟩
noncomputable def o118 (P : Params) : Obj := ⟨(.type "code"), none, (.fields #[(.str (s "InvalidScale") 477), (.str (s "InvalidScale") 478), (.str (s "/claim/cut.py") 479), (.int (20) 0), (.int (0) 0), (.int (0) 0), (.int (0) 0), (.int (0) 0), (.ref 116), (.bool false), (.int (374) 0), (.ref 117), .none, .none, .none, .none, (.int (480) 0), (.int (20) 0), (.str (s "/claim/cut.py") 481)]), #[]⟩
noncomputable def o119 (P : Params) : Obj := ⟨(.type "frame"), none, .plain, #[(some (.ref 118)), (some (.ref 3)), (some (.ref 115)), none, (some (.str (s "likepanes.errors") 380)), none, (some (.ref 0))]⟩
noncomputable def o120 (P : Params) : Obj := ⟨(.type "tuple"), none, (.seq #[] 0), #[]⟩
noncomputable def o121 (P : Params) : Obj := ⟨.none, none, (.fields #[]), #[]⟩
noncomputable def o122 (P : Params) : Obj := ⟨(.type "tuple"), none, (.seq #[(.str (s "self") 490), (.str (s "given") 491)] 0), #[]⟩
noncomputable def o123 (P : Params) : Obj := ⟨(.type "tuple"), none, (.seq #[] 0), #[]⟩
noncomputable def o124 (P : Params) : Obj := ⟨.none, none, (.func (fn (L2.inClass (hT 6) 0) (s "__init__") (s "InvalidScale.__init__") 0 [] .none .none .none .none none .none .none 0)), #[]⟩
noncomputable def o125 (P : Params) : Obj := ⟨(.type "code"), none, (.fields #[(.str (s "__init__") 487), (.str (s "InvalidScale.__init__") 488), (.str (s "/claim/cut.py") 489), (.int (22) 0), (.int (2) 0), (.int (0) 0), (.int (0) 0), (.int (3) 0), (.ref 120), (.bool true), (.int (374) 0), (.ref 121), .none, (.ref 122), (.ref 123), (.ref 124), (.int (492) 0), (.int (22) 0), (.str (s "/claim/cut.py") 493)]), #[]⟩
noncomputable def o126 (P : Params) : Obj := ⟨(.type "function"), none, (.func (fn (L2.inClass (hT 6) 0) (s "__init__") (s "InvalidScale.__init__") 3 [] .none .none .none (.str (s "likepanes.errors") 380) none (.ref 125) .none 0)), #[]⟩
noncomputable def o127 (P : Params) : Obj := ⟨(.type "tuple"), none, (.seq #[(.str (s "given") 495)] 0), #[]⟩
noncomputable def o128 (P : Params) : Obj := ⟨(.type "dict"), none, (.dict #[k P "__module__" 482 (.str (s "likepanes.errors") 380), k P "__firstlineno__" 486 (.int (20) 485), k P "__init__" 494 (.ref 126), k P "__static_attributes__" 496 (.ref 127), k P "__doc__" 497 .none] 2), #[]⟩
noncomputable def o129 (P : Params) : Obj := ⟨(.type "type"), none, (.cls ⟨(s "InvalidScale"), [(.ref 52)], [(.ref 129), (.ref 52), (.type "ValueError"), (.type "Exception"), (.type "BaseException"), (.type "object")], 128, (s "InvalidScale"), true, [], [], false, none, false⟩), #[(some (.ref 113)), none, (some (.str (s "InvalidScale") 475)), (some (.str (s "InvalidScale") 483)), (some (.builtin "ValueError.__new__")), (some (.bool true))]⟩
noncomputable def o130 (P : Params) : Obj := ⟨(.type "super"), none, (.fields #[(.ref 129), (.ref 129), (.ref 129)]), #[]⟩
noncomputable def o131 (P : Params) : Obj := ⟨(.type "builtin_function_or_method"), none, (.fields #[(.builtin "object.__init_subclass__"), (.ref 129)]), #[]⟩
noncomputable def o132 (P : Params) : Obj := ⟨(.type "tuple"), none, (.seq #[(.ref 52)] 0), #[]⟩
noncomputable def o133 (P : Params) : Obj := ⟨(.type "builtin_function_or_method"), none, (.fields #[(.builtin "type.__prepare__"), (.type "type")]), #[]⟩
noncomputable def o134 (P : Params) : Obj := ⟨(.type "dict"), none, (.dict #[k P "__module__" 507 (.str (s "likepanes.errors") 380), k P "__qualname__" 509 (.str (s "NotAShape") 508), k P "__firstlineno__" 511 (.int (25) 510), k P "__init__" 519 (.ref 145), k P "__static_attributes__" 521 (.ref 146)] 5), #[]⟩
noncomputable def o135 (P : Params) : Obj := ⟨(.type "tuple"), none, (.seq #[] 0), #[]⟩
noncomputable def o136 (P : Params) : Obj := ⟨.none, none, (.fields #[(.int (27) 0), (.int (4) 0), (.ref 144)]), #[]⟩
noncomputable def o137 (P : Params) : Obj := ⟨(.type "code"), none, (.fields #[(.str (s "NotAShape") 502), (.str (s "NotAShape") 503), (.str (s "/claim/cut.py") 504), (.int (25) 0), (.int (0) 0), (.int (0) 0), (.int (0) 0), (.int (0) 0), (.ref 135), (.bool false), (.int (374) 0), (.ref 136), .none, .none, .none, .none, (.int (505) 0), (.int (25) 0), (.str (s "/claim/cut.py") 506)]), #[]⟩
noncomputable def o138 (P : Params) : Obj := ⟨(.type "frame"), none, .plain, #[(some (.ref 137)), (some (.ref 3)), (some (.ref 134)), none, (some (.str (s "likepanes.errors") 380)), none, (some (.ref 0))]⟩
noncomputable def o139 (P : Params) : Obj := ⟨(.type "tuple"), none, (.seq #[] 0), #[]⟩
noncomputable def o140 (P : Params) : Obj := ⟨.none, none, (.fields #[]), #[]⟩
noncomputable def o141 (P : Params) : Obj := ⟨(.type "tuple"), none, (.seq #[(.str (s "self") 515), (.str (s "given") 516)] 0), #[]⟩
noncomputable def o142 (P : Params) : Obj := ⟨(.type "tuple"), none, (.seq #[] 0), #[]⟩
noncomputable def o143 (P : Params) : Obj := ⟨.none, none, (.func (fn (L2.inClass (hT 7) 0) (s "__init__") (s "NotAShape.__init__") 0 [] .none .none .none .none none .none .none 0)), #[]⟩
noncomputable def o144 (P : Params) : Obj := ⟨(.type "code"), none, (.fields #[(.str (s "__init__") 512), (.str (s "NotAShape.__init__") 513), (.str (s "/claim/cut.py") 514), (.int (27) 0), (.int (2) 0), (.int (0) 0), (.int (0) 0), (.int (3) 0), (.ref 139), (.bool true), (.int (374) 0), (.ref 140), .none, (.ref 141), (.ref 142), (.ref 143), (.int (517) 0), (.int (27) 0), (.str (s "/claim/cut.py") 518)]), #[]⟩
noncomputable def o145 (P : Params) : Obj := ⟨(.type "function"), none, (.func (fn (L2.inClass (hT 7) 0) (s "__init__") (s "NotAShape.__init__") 3 [] .none .none .none (.str (s "likepanes.errors") 380) none (.ref 144) .none 0)), #[]⟩
noncomputable def o146 (P : Params) : Obj := ⟨(.type "tuple"), none, (.seq #[(.str (s "given") 520)] 0), #[]⟩
noncomputable def o147 (P : Params) : Obj := ⟨(.type "dict"), none, (.dict #[k P "__module__" 507 (.str (s "likepanes.errors") 380), k P "__firstlineno__" 511 (.int (25) 510), k P "__init__" 519 (.ref 145), k P "__static_attributes__" 521 (.ref 146), k P "__doc__" 522 .none] 2), #[]⟩
noncomputable def o148 (P : Params) : Obj := ⟨(.type "type"), none, (.cls ⟨(s "NotAShape"), [(.ref 52)], [(.ref 148), (.ref 52), (.type "ValueError"), (.type "Exception"), (.type "BaseException"), (.type "object")], 147, (s "NotAShape"), true, [], [], false, none, false⟩), #[(some (.ref 132)), none, (some (.str (s "NotAShape") 500)), (some (.str (s "NotAShape") 508)), (some (.builtin "ValueError.__new__")), (some (.bool true))]⟩
noncomputable def o149 (P : Params) : Obj := ⟨(.type "super"), none, (.fields #[(.ref 148), (.ref 148), (.ref 148)]), #[]⟩
noncomputable def o150 (P : Params) : Obj := ⟨(.type "builtin_function_or_method"), none, (.fields #[(.builtin "object.__init_subclass__"), (.ref 148)]), #[]⟩
noncomputable def o151 (P : Params) : Obj := ⟨(.type "tuple"), none, (.seq #[(.ref 52)] 0), #[]⟩
noncomputable def o152 (P : Params) : Obj := ⟨(.type "builtin_function_or_method"), none, (.fields #[(.builtin "type.__prepare__"), (.type "type")]), #[]⟩
noncomputable def o153 (P : Params) : Obj := ⟨(.type "dict"), none, (.dict #[k P "__module__" 532 (.str (s "likepanes.errors") 380), k P "__qualname__" 534 (.str (s "InvalidEquation") 533), k P "__firstlineno__" 536 (.int (30) 535), k P "__init__" 544 (.ref 164), k P "__static_attributes__" 546 (.ref 165)] 5), #[]⟩
noncomputable def o154 (P : Params) : Obj := ⟨(.type "tuple"), none, (.seq #[] 0), #[]⟩
noncomputable def o155 (P : Params) : Obj := ⟨.none, none, (.fields #[(.int (32) 0), (.int (4) 0), (.ref 163)]), #[]⟩
noncomputable def o156 (P : Params) : Obj := ⟨(.type "code"), none, (.fields #[(.str (s "InvalidEquation") 527), (.str (s "InvalidEquation") 528), (.str (s "/claim/cut.py") 529), (.int (30) 0), (.int (0) 0), (.int (0) 0), (.int (0) 0), (.int (0) 0), (.ref 154), (.bool false), (.int (374) 0), (.ref 155), .none, .none, .none, .none, (.int (530) 0), (.int (30) 0), (.str (s "/claim/cut.py") 531)]), #[]⟩
noncomputable def o157 (P : Params) : Obj := ⟨(.type "frame"), none, .plain, #[(some (.ref 156)), (some (.ref 3)), (some (.ref 153)), none, (some (.str (s "likepanes.errors") 380)), none, (some (.ref 0))]⟩
noncomputable def o158 (P : Params) : Obj := ⟨(.type "tuple"), none, (.seq #[] 0), #[]⟩
noncomputable def o159 (P : Params) : Obj := ⟨.none, none, (.fields #[]), #[]⟩
noncomputable def o160 (P : Params) : Obj := ⟨(.type "tuple"), none, (.seq #[(.str (s "self") 540), (.str (s "index") 541)] 0), #[]⟩
noncomputable def o161 (P : Params) : Obj := ⟨(.type "tuple"), none, (.seq #[] 0), #[]⟩
noncomputable def o162 (P : Params) : Obj := ⟨.none, none, (.func (fn (L2.inClass (hT 8) 0) (s "__init__") (s "InvalidEquation.__init__") 0 [] .none .none .none .none none .none .none 0)), #[]⟩
noncomputable def o163 (P : Params) : Obj := ⟨(.type "code"), none, (.fields #[(.str (s "__init__") 537), (.str (s "InvalidEquation.__init__") 538), (.str (s "/claim/cut.py") 539), (.int (32) 0), (.int (2) 0), (.int (0) 0), (.int (0) 0), (.int (3) 0), (.ref 158), (.bool true), (.int (374) 0), (.ref 159), .none, (.ref 160), (.ref 161), (.ref 162), (.int (542) 0), (.int (32) 0), (.str (s "/claim/cut.py") 543)]), #[]⟩
noncomputable def o164 (P : Params) : Obj := ⟨(.type "function"), none, (.func (fn (L2.inClass (hT 8) 0) (s "__init__") (s "InvalidEquation.__init__") 3 [] .none .none .none (.str (s "likepanes.errors") 380) none (.ref 163) .none 0)), #[]⟩
noncomputable def o165 (P : Params) : Obj := ⟨(.type "tuple"), none, (.seq #[(.str (s "index") 545)] 0), #[]⟩
noncomputable def o166 (P : Params) : Obj := ⟨(.type "dict"), none, (.dict #[k P "__module__" 532 (.str (s "likepanes.errors") 380), k P "__firstlineno__" 536 (.int (30) 535), k P "__init__" 544 (.ref 164), k P "__static_attributes__" 546 (.ref 165), k P "__doc__" 547 .none] 2), #[]⟩
noncomputable def o167 (P : Params) : Obj := ⟨(.type "type"), none, (.cls ⟨(s "InvalidEquation"), [(.ref 52)], [(.ref 167), (.ref 52), (.type "ValueError"), (.type "Exception"), (.type "BaseException"), (.type "object")], 166, (s "InvalidEquation"), true, [], [], false, none, false⟩), #[(some (.ref 151)), none, (some (.str (s "InvalidEquation") 525)), (some (.str (s "InvalidEquation") 533)), (some (.builtin "ValueError.__new__")), (some (.bool true))]⟩
noncomputable def o168 (P : Params) : Obj := ⟨(.type "super"), none, (.fields #[(.ref 167), (.ref 167), (.ref 167)]), #[]⟩
noncomputable def o169 (P : Params) : Obj := ⟨(.type "builtin_function_or_method"), none, (.fields #[(.builtin "object.__init_subclass__"), (.ref 167)]), #[]⟩
noncomputable def o170 (P : Params) : Obj := ⟨(.type "tuple"), none, (.seq #[(.type "ArithmeticError")] 0), #[]⟩
noncomputable def o171 (P : Params) : Obj := ⟨(.type "builtin_function_or_method"), none, (.fields #[(.builtin "type.__prepare__"), (.type "type")]), #[]⟩
noncomputable def o172 (P : Params) : Obj := ⟨(.type "dict"), none, (.dict #[k P "__module__" 557 (.str (s "likepanes.errors") 380), k P "__qualname__" 559 (.str (s "NoAnswer") 558), k P "__firstlineno__" 561 (.int (35) 560), k P "__static_attributes__" 562 (.ref 177)] 4), #[]⟩
noncomputable def o173 (P : Params) : Obj := ⟨(.type "tuple"), none, (.seq #[] 0), #[]⟩
noncomputable def o174 (P : Params) : Obj := ⟨.none, none, (.fields #[]), #[]⟩
noncomputable def o175 (P : Params) : Obj := ⟨(.type "code"), none, (.fields #[(.str (s "NoAnswer") 552), (.str (s "NoAnswer") 553), (.str (s "/claim/cut.py") 554), (.int (35) 0), (.int (0) 0), (.int (0) 0), (.int (0) 0), (.int (0) 0), (.ref 173), (.bool false), (.int (374) 0), (.ref 174), .none, .none, .none, .none, (.int (555) 0), (.int (35) 0), (.str (s "/claim/cut.py") 556)]), #[]⟩
noncomputable def o176 (P : Params) : Obj := ⟨(.type "frame"), none, .plain, #[(some (.ref 175)), (some (.ref 3)), (some (.ref 172)), none, (some (.str (s "likepanes.errors") 380)), none, (some (.ref 0))]⟩
noncomputable def o177 (P : Params) : Obj := ⟨(.type "tuple"), none, (.seq #[] 0), #[]⟩
noncomputable def o178 (P : Params) : Obj := ⟨(.type "dict"), none, (.dict #[k P "__module__" 557 (.str (s "likepanes.errors") 380), k P "__firstlineno__" 561 (.int (35) 560), k P "__static_attributes__" 562 (.ref 177), k P "__weakref__" 564 (.ref 180), k P "__doc__" 565 .none] 3), #[]⟩
noncomputable def o179 (P : Params) : Obj := ⟨(.type "type"), none, (.cls ⟨(s "NoAnswer"), [(.type "ArithmeticError")], [(.ref 179), (.type "ArithmeticError"), (.type "Exception"), (.type "BaseException"), (.type "object")], 178, (s "NoAnswer"), true, [], [], false, none, false⟩), #[(some (.ref 170)), none, (some (.str (s "NoAnswer") 550)), (some (.str (s "NoAnswer") 558)), (some (.builtin "ArithmeticError.__new__")), (some (.bool true))]⟩
noncomputable def o180 (P : Params) : Obj := ⟨(.type "getset_descriptor"), none, (.fields #[(.str (s "__weakref__") 563), (.ref 179), (.builtin "ExceptionGroup.__weakref__"), .none]), #[]⟩
noncomputable def o181 (P : Params) : Obj := ⟨(.type "super"), none, (.fields #[(.ref 179), (.ref 179), (.ref 179)]), #[]⟩
noncomputable def o182 (P : Params) : Obj := ⟨(.type "builtin_function_or_method"), none, (.fields #[(.builtin "object.__init_subclass__"), (.ref 179)]), #[]⟩
noncomputable def t2 (P : Params) : BT := (n (o0 P) (n (o1 P) (n (o3_2 P) (n (o7 P) (n (o15 P) (n (o31 P) (n (o63 P) (n (o127 P) z z) z) (n (o95 P) (n (o159 P) z z) z)) (n (o47 P) (n (o79 P) (n (o143 P) z z) z) (n (o111 P) (n (o175 P) z z) z))) (n (o23 P) (n (o39 P) (n (o71 P) (n (o135 P) z z) z) (n (o103 P) (n (o167 P) z z) z)) (n (o55 P) (n (o87 P) (n (o151 P) z z) z) (n (o119 P) z z)))) (n (o11 P) (n (o19 P) (n (o35 P) (n (o67 P) (n (o131 P) z z) z) (n (o99 P) (n (o163 P) z z) z)) (n (o51 P) (n (o83 P) (n (o147 P) z z) z) (n (o115 P) (n (o179 P) z z) z))) (n (o27 P) (n (o43 P) (n (o75 P) (n (o139 P) z z) z) (n (o107 P) (n (o171 P) z z) z)) (n (o59 P) (n (o91 P) (n (o155 P) z z) z) (n (o123 P) z z))))) (n (o5 P) (n (o9 P) (n (o17 P) (n (o33 P) (n (o65 P) (n (o129 P) z z) z) (n (o97 P) (n (o161 P) z z) z)) (n (o49 P) (n (o81 P) (n (o145 P) z z) z) (n (o113 P) (n (o177 P) z z) z))) (n (o25 P) (n (o41 P) (n (o73 P) (n (o137 P) z z) z) (n (o105 P) (n (o169 P) z z) z)) (n (o57 P) (n (o89 P) (n (o153 P) z z) z) (n (o121 P) z z)))) (n (o13 P) (n (o21 P) (n (o37 P) (n (o69 P) (n (o133 P) z z) z) (n (o101 P) (n (o165 P) z z) z)) (n (o53 P) (n (o85 P) (n (o149 P) z z) z) (n (o117 P) (n (o181 P) z z) z))) (n (o29 P) (n (o45 P) (n (o77 P) (n (o141 P) z z) z) (n (o109 P) (n (o173 P) z z) z)) (n (o61 P) (n (o93 P) (n (o157 P) z z) z) (n (o125 P) z z)))))) (n (o2_2 P) (n (o4 P) (n (o8 P) (n (o16 P) (n (o32 P) (n (o64 P) (n (o128 P) z z) z) (n (o96 P) (n (o160 P) z z) z)) (n (o48 P) (n (o80 P) (n (o144 P) z z) z) (n (o112 P) (n (o176 P) z z) z))) (n (o24 P) (n (o40_2 P) (n (o72 P) (n (o136 P) z z) z) (n (o104 P) (n (o168 P) z z) z)) (n (o56 P) (n (o88 P) (n (o152 P) z z) z) (n (o120 P) z z)))) (n (o12_0 P) (n (o20 P) (n (o36 P) (n (o68 P) (n (o132 P) z z) z) (n (o100 P) (n (o164 P) z z) z)) (n (o52_2 P) (n (o84 P) (n (o148 P) z z) z) (n (o116 P) (n (o180 P) z z) z))) (n (o28 P) (n (o44 P) (n (o76 P) (n (o140 P) z z) z) (n (o108 P) (n (o172 P) z z) z)) (n (o60 P) (n (o92 P) (n (o156 P) z z) z) (n (o124 P) z z))))) (n (o6 P) (n (o10 P) (n (o18 P) (n (o34 P) (n (o66 P) (n (o130 P) z z) z) (n (o98 P) (n (o162 P) z z) z)) (n (o50 P) (n (o82 P) (n (o146 P) z z) z) (n (o114 P) (n (o178 P) z z) z))) (n (o26 P) (n (o42 P) (n (o74 P) (n (o138 P) z z) z) (n (o106 P) (n (o170 P) z z) z)) (n (o58 P) (n (o90 P) (n (o154 P) z z) z) (n (o122 P) z z)))) (n (o14 P) (n (o22 P) (n (o38 P) (n (o70 P) (n (o134 P) z z) z) (n (o102 P) (n (o166 P) z z) z)) (n (o54 P) (n (o86 P) (n (o150 P) z z) z) (n (o118 P) (n (o182 P) z z) z))) (n (o30 P) (n (o46 P) (n (o78 P) (n (o142 P) z z) z) (n (o110 P) (n (o174 P) z z) z)) (n (o62 P) (n (o94 P) (n (o158 P) z z) z) (n (o126 P) z z)))))))
noncomputable def X2 (w : World) (os : OsState) : SharedT := ⟨t2 w.params, 183, {}, #[], {}, 570, os⟩
noncomputable def o3_3 (P : Params) : Obj := ⟨(.type "dict"), none, (.dict #[k P "__name__" 165 (.str (s "likepanes.terms") 698), k P "__doc__" 166 .none, k P "__package__" 167 .none, k P "__loader__" 168 (.builtin "__main__.__loader__#opaque"), k P "__spec__" 169 .none, k P "__annotations__" 170 (.ref 6), k P "__builtins__" 171 (.ref 4), k P "__file__" 173 (.str (s "/claim/cut.py") 172), k P "__cached__" 174 .none, k P "gcd" 370 (.builtin "math.gcd"), k P "isqrt" 373 (.builtin "math.isqrt"), k P "BadValue" 399 (.ref 52), k P "InvalidText" 424 (.ref 72), k P "InvalidFraction" 449 (.ref 91), k P "InvalidNumber" 474 (.ref 110), k P "InvalidScale" 499 (.ref 129), k P "NotAShape" 524 (.ref 148), k P "InvalidEquation" 549 (.ref 167), k P "NoAnswer" 569 (.ref 179), k P "NoRoot" 592 (.ref 199), k P "NoQuotient" 615 (.ref 218), k P "TooMany" 640 (.ref 237), k P "MOST_DEGREE" 642 (.int (5) 641), k P "MOST_TERM" 644 (.int (1000) 643), k P "MOST_SCALE" 648 (.int (10000000000000000000000000000000000000000) 647), k P "is_integer" 657 (.ref 246), k P "are_integers" 663 (.ref 251), k P "is_fraction" 672 (.ref 258), k P "is_below" 680 (.ref 265), k P "is_term" 687 (.ref 272), k P "wrong_term" 697 (.ref 279), k P "trimmed" 707 (.ref 286)] 32), #[]⟩
noncomputable def o40_3 (P : Params) : Obj := ⟨.none, none, (.fields #[(.int (3) 0), (.int (0) 0), (.ref 48), (.int (5) 0), (.int (0) 0), (.ref 61), (.int (10) 0), (.int (0) 0), (.ref 80), (.int (15) 0), (.int (0) 0), (.ref 99), (.int (20) 0), (.int (0) 0), (.ref 118), (.int (25) 0), (.int (0) 0), (.ref 137), (.int (30) 0), (.int (0) 0), (.ref 156), (.int (35) 0), (.int (0) 0), (.ref 175), (.int (37) 0), (.int (0) 0), (.ref 188), (.int (41) 0), (.int (0) 0), (.ref 207), (.int (45) 0), (.int (0) 0), (.ref 226), (.int (54) 0), (.int (0) 0), (.ref 245), (.int (56) 0), (.int (0) 0), (.ref 250), (.int (58) 0), (.int (0) 0), (.ref 257), (.int (63) 0), (.int (0) 0), (.ref 264), (.int (65) 0), (.int (0) 0), (.ref 271), (.int (67) 0), (.int (0) 0), (.ref 278), (.int (74) 0), (.int (0) 0), (.ref 285)]), #[]⟩
noncomputable def o179_3 (P : Params) : Obj := ⟨(.type "type"), none, (.cls ⟨(s "NoAnswer"), [(.type "ArithmeticError")], [(.ref 179), (.type "ArithmeticError"), (.type "Exception"), (.type "BaseException"), (.type "object")], 178, (s "NoAnswer"), true, [], [(.ref 199), (.ref 218), (.ref 237)], false, none, false⟩), #[(some (.ref 170)), none, (some (.str (s "NoAnswer") 550)), (some (.str (s "NoAnswer") 558)), (some (.builtin "ArithmeticError.__new__")), (some (.bool true))]⟩
noncomputable def o183 (P : Params) : Obj := ⟨(.type "tuple"), none, (.seq #[(.ref 179)] 0), #[]⟩
noncomputable def o184 (P : Params) : Obj := ⟨(.type "builtin_function_or_method"), none, (.fields #[(.builtin "type.__prepare__"), (.type "type")]), #[]⟩
noncomputable def o185 (P : Params) : Obj := ⟨(.type "dict"), none, (.dict #[k P "__module__" 577 (.str (s "likepanes.errors") 380), k P "__qualname__" 579 (.str (s "NoRoot") 578), k P "__firstlineno__" 581 (.int (37) 580), k P "__init__" 588 (.ref 196), k P "__static_attributes__" 589 (.ref 197)] 5), #[]⟩
noncomputable def o186 (P : Params) : Obj := ⟨(.type "tuple"), none, (.seq #[] 0), #[]⟩
noncomputable def o187 (P : Params) : Obj := ⟨.none, none, (.fields #[(.int (39) 0), (.int (4) 0), (.ref 195)]), #[]⟩
noncomputable def o188 (P : Params) : Obj := ⟨(.type "code"), none, (.fields #[(.str (s "NoRoot") 572), (.str (s "NoRoot") 573), (.str (s "/claim/cut.py") 574), (.int (37) 0), (.int (0) 0), (.int (0) 0), (.int (0) 0), (.int (0) 0), (.ref 186), (.bool false), (.int (374) 0), (.ref 187), .none, .none, .none, .none, (.int (575) 0), (.int (37) 0), (.str (s "/claim/cut.py") 576)]), #[]⟩
noncomputable def o189 (P : Params) : Obj := ⟨(.type "frame"), none, .plain, #[(some (.ref 188)), (some (.ref 3)), (some (.ref 185)), none, (some (.str (s "likepanes.errors") 380)), none, (some (.ref 0))]⟩
noncomputable def o190 (P : Params) : Obj := ⟨(.type "tuple"), none, (.seq #[] 0), #[]⟩
noncomputable def o191 (P : Params) : Obj := ⟨.none, none, (.fields #[]), #[]⟩
noncomputable def o192 (P : Params) : Obj := ⟨(.type "tuple"), none, (.seq #[(.str (s "self") 585)] 0), #[]⟩
noncomputable def o193 (P : Params) : Obj := ⟨(.type "tuple"), none, (.seq #[] 0), #[]⟩
noncomputable def o194 (P : Params) : Obj := ⟨.none, none, (.func (fn (L2.inClass (hT 10) 0) (s "__init__") (s "NoRoot.__init__") 0 [] .none .none .none .none none .none .none 0)), #[]⟩
noncomputable def o195 (P : Params) : Obj := ⟨(.type "code"), none, (.fields #[(.str (s "__init__") 582), (.str (s "NoRoot.__init__") 583), (.str (s "/claim/cut.py") 584), (.int (39) 0), (.int (1) 0), (.int (0) 0), (.int (0) 0), (.int (3) 0), (.ref 190), (.bool true), (.int (374) 0), (.ref 191), .none, (.ref 192), (.ref 193), (.ref 194), (.int (586) 0), (.int (39) 0), (.str (s "/claim/cut.py") 587)]), #[]⟩
noncomputable def o196 (P : Params) : Obj := ⟨(.type "function"), none, (.func (fn (L2.inClass (hT 10) 0) (s "__init__") (s "NoRoot.__init__") 3 [] .none .none .none (.str (s "likepanes.errors") 380) none (.ref 195) .none 0)), #[]⟩
noncomputable def o197 (P : Params) : Obj := ⟨(.type "tuple"), none, (.seq #[] 0), #[]⟩
noncomputable def o198 (P : Params) : Obj := ⟨(.type "dict"), none, (.dict #[k P "__module__" 577 (.str (s "likepanes.errors") 380), k P "__firstlineno__" 581 (.int (37) 580), k P "__init__" 588 (.ref 196), k P "__static_attributes__" 589 (.ref 197), k P "__doc__" 590 .none] 2), #[]⟩
noncomputable def o199 (P : Params) : Obj := ⟨(.type "type"), none, (.cls ⟨(s "NoRoot"), [(.ref 179)], [(.ref 199), (.ref 179), (.type "ArithmeticError"), (.type "Exception"), (.type "BaseException"), (.type "object")], 198, (s "NoRoot"), true, [], [], false, none, false⟩), #[(some (.ref 183)), none, (some (.str (s "NoRoot") 570)), (some (.str (s "NoRoot") 578)), (some (.builtin "ArithmeticError.__new__")), (some (.bool true))]⟩
noncomputable def o200 (P : Params) : Obj := ⟨(.type "super"), none, (.fields #[(.ref 199), (.ref 199), (.ref 199)]), #[]⟩
noncomputable def o201 (P : Params) : Obj := ⟨(.type "builtin_function_or_method"), none, (.fields #[(.builtin "object.__init_subclass__"), (.ref 199)]), #[]⟩
noncomputable def o202 (P : Params) : Obj := ⟨(.type "tuple"), none, (.seq #[(.ref 179)] 0), #[]⟩
noncomputable def o203 (P : Params) : Obj := ⟨(.type "builtin_function_or_method"), none, (.fields #[(.builtin "type.__prepare__"), (.type "type")]), #[]⟩
noncomputable def o204 (P : Params) : Obj := ⟨(.type "dict"), none, (.dict #[k P "__module__" 600 (.str (s "likepanes.errors") 380), k P "__qualname__" 602 (.str (s "NoQuotient") 601), k P "__firstlineno__" 604 (.int (41) 603), k P "__init__" 611 (.ref 215), k P "__static_attributes__" 612 (.ref 216)] 5), #[]⟩
noncomputable def o205 (P : Params) : Obj := ⟨(.type "tuple"), none, (.seq #[] 0), #[]⟩
noncomputable def o206 (P : Params) : Obj := ⟨.none, none, (.fields #[(.int (43) 0), (.int (4) 0), (.ref 214)]), #[]⟩
noncomputable def o207 (P : Params) : Obj := ⟨(.type "code"), none, (.fields #[(.str (s "NoQuotient") 595), (.str (s "NoQuotient") 596), (.str (s "/claim/cut.py") 597), (.int (41) 0), (.int (0) 0), (.int (0) 0), (.int (0) 0), (.int (0) 0), (.ref 205), (.bool false), (.int (374) 0), (.ref 206), .none, .none, .none, .none, (.int (598) 0), (.int (41) 0), (.str (s "/claim/cut.py") 599)]), #[]⟩
noncomputable def o208 (P : Params) : Obj := ⟨(.type "frame"), none, .plain, #[(some (.ref 207)), (some (.ref 3)), (some (.ref 204)), none, (some (.str (s "likepanes.errors") 380)), none, (some (.ref 0))]⟩
noncomputable def o209 (P : Params) : Obj := ⟨(.type "tuple"), none, (.seq #[] 0), #[]⟩
noncomputable def o210 (P : Params) : Obj := ⟨.none, none, (.fields #[]), #[]⟩
noncomputable def o211 (P : Params) : Obj := ⟨(.type "tuple"), none, (.seq #[(.str (s "self") 608)] 0), #[]⟩
noncomputable def o212 (P : Params) : Obj := ⟨(.type "tuple"), none, (.seq #[] 0), #[]⟩
noncomputable def o213 (P : Params) : Obj := ⟨.none, none, (.func (fn (L2.inClass (hT 11) 0) (s "__init__") (s "NoQuotient.__init__") 0 [] .none .none .none .none none .none .none 0)), #[]⟩
noncomputable def o214 (P : Params) : Obj := ⟨(.type "code"), none, (.fields #[(.str (s "__init__") 605), (.str (s "NoQuotient.__init__") 606), (.str (s "/claim/cut.py") 607), (.int (43) 0), (.int (1) 0), (.int (0) 0), (.int (0) 0), (.int (3) 0), (.ref 209), (.bool true), (.int (374) 0), (.ref 210), .none, (.ref 211), (.ref 212), (.ref 213), (.int (609) 0), (.int (43) 0), (.str (s "/claim/cut.py") 610)]), #[]⟩
noncomputable def o215 (P : Params) : Obj := ⟨(.type "function"), none, (.func (fn (L2.inClass (hT 11) 0) (s "__init__") (s "NoQuotient.__init__") 3 [] .none .none .none (.str (s "likepanes.errors") 380) none (.ref 214) .none 0)), #[]⟩
noncomputable def o216 (P : Params) : Obj := ⟨(.type "tuple"), none, (.seq #[] 0), #[]⟩
noncomputable def o217 (P : Params) : Obj := ⟨(.type "dict"), none, (.dict #[k P "__module__" 600 (.str (s "likepanes.errors") 380), k P "__firstlineno__" 604 (.int (41) 603), k P "__init__" 611 (.ref 215), k P "__static_attributes__" 612 (.ref 216), k P "__doc__" 613 .none] 2), #[]⟩
noncomputable def o218 (P : Params) : Obj := ⟨(.type "type"), none, (.cls ⟨(s "NoQuotient"), [(.ref 179)], [(.ref 218), (.ref 179), (.type "ArithmeticError"), (.type "Exception"), (.type "BaseException"), (.type "object")], 217, (s "NoQuotient"), true, [], [], false, none, false⟩), #[(some (.ref 202)), none, (some (.str (s "NoQuotient") 593)), (some (.str (s "NoQuotient") 601)), (some (.builtin "ArithmeticError.__new__")), (some (.bool true))]⟩
noncomputable def o219 (P : Params) : Obj := ⟨(.type "super"), none, (.fields #[(.ref 218), (.ref 218), (.ref 218)]), #[]⟩
noncomputable def o220 (P : Params) : Obj := ⟨(.type "builtin_function_or_method"), none, (.fields #[(.builtin "object.__init_subclass__"), (.ref 218)]), #[]⟩
noncomputable def o221 (P : Params) : Obj := ⟨(.type "tuple"), none, (.seq #[(.ref 179)] 0), #[]⟩
noncomputable def o222 (P : Params) : Obj := ⟨(.type "builtin_function_or_method"), none, (.fields #[(.builtin "type.__prepare__"), (.type "type")]), #[]⟩
noncomputable def o223 (P : Params) : Obj := ⟨(.type "dict"), none, (.dict #[k P "__module__" 623 (.str (s "likepanes.errors") 380), k P "__qualname__" 625 (.str (s "TooMany") 624), k P "__firstlineno__" 627 (.int (45) 626), k P "__init__" 635 (.ref 234), k P "__static_attributes__" 637 (.ref 235)] 5), #[]⟩
noncomputable def o224 (P : Params) : Obj := ⟨(.type "tuple"), none, (.seq #[] 0), #[]⟩
noncomputable def o225 (P : Params) : Obj := ⟨.none, none, (.fields #[(.int (47) 0), (.int (4) 0), (.ref 233)]), #[]⟩
noncomputable def o226 (P : Params) : Obj := ⟨(.type "code"), none, (.fields #[(.str (s "TooMany") 618), (.str (s "TooMany") 619), (.str (s "/claim/cut.py") 620), (.int (45) 0), (.int (0) 0), (.int (0) 0), (.int (0) 0), (.int (0) 0), (.ref 224), (.bool false), (.int (374) 0), (.ref 225), .none, .none, .none, .none, (.int (621) 0), (.int (45) 0), (.str (s "/claim/cut.py") 622)]), #[]⟩
noncomputable def o227 (P : Params) : Obj := ⟨(.type "frame"), none, .plain, #[(some (.ref 226)), (some (.ref 3)), (some (.ref 223)), none, (some (.str (s "likepanes.errors") 380)), none, (some (.ref 0))]⟩
noncomputable def o228 (P : Params) : Obj := ⟨(.type "tuple"), none, (.seq #[] 0), #[]⟩
noncomputable def o229 (P : Params) : Obj := ⟨.none, none, (.fields #[]), #[]⟩
noncomputable def o230 (P : Params) : Obj := ⟨(.type "tuple"), none, (.seq #[(.str (s "self") 631), (.str (s "limit") 632)] 0), #[]⟩
noncomputable def o231 (P : Params) : Obj := ⟨(.type "tuple"), none, (.seq #[] 0), #[]⟩
noncomputable def o232 (P : Params) : Obj := ⟨.none, none, (.func (fn (L2.inClass (hT 12) 0) (s "__init__") (s "TooMany.__init__") 0 [] .none .none .none .none none .none .none 0)), #[]⟩
noncomputable def o233 (P : Params) : Obj := ⟨(.type "code"), none, (.fields #[(.str (s "__init__") 628), (.str (s "TooMany.__init__") 629), (.str (s "/claim/cut.py") 630), (.int (47) 0), (.int (2) 0), (.int (0) 0), (.int (0) 0), (.int (3) 0), (.ref 228), (.bool true), (.int (374) 0), (.ref 229), .none, (.ref 230), (.ref 231), (.ref 232), (.int (633) 0), (.int (47) 0), (.str (s "/claim/cut.py") 634)]), #[]⟩
noncomputable def o234 (P : Params) : Obj := ⟨(.type "function"), none, (.func (fn (L2.inClass (hT 12) 0) (s "__init__") (s "TooMany.__init__") 3 [] .none .none .none (.str (s "likepanes.errors") 380) none (.ref 233) .none 0)), #[]⟩
noncomputable def o235 (P : Params) : Obj := ⟨(.type "tuple"), none, (.seq #[(.str (s "limit") 636)] 0), #[]⟩
noncomputable def o236 (P : Params) : Obj := ⟨(.type "dict"), none, (.dict #[k P "__module__" 623 (.str (s "likepanes.errors") 380), k P "__firstlineno__" 627 (.int (45) 626), k P "__init__" 635 (.ref 234), k P "__static_attributes__" 637 (.ref 235), k P "__doc__" 638 .none] 2), #[]⟩
noncomputable def o237 (P : Params) : Obj := ⟨(.type "type"), none, (.cls ⟨(s "TooMany"), [(.ref 179)], [(.ref 237), (.ref 179), (.type "ArithmeticError"), (.type "Exception"), (.type "BaseException"), (.type "object")], 236, (s "TooMany"), true, [], [], false, none, false⟩), #[(some (.ref 221)), none, (some (.str (s "TooMany") 616)), (some (.str (s "TooMany") 624)), (some (.builtin "ArithmeticError.__new__")), (some (.bool true))]⟩
noncomputable def o238 (P : Params) : Obj := ⟨(.type "super"), none, (.fields #[(.ref 237), (.ref 237), (.ref 237)]), #[]⟩
noncomputable def o239 (P : Params) : Obj := ⟨(.type "builtin_function_or_method"), none, (.fields #[(.builtin "object.__init_subclass__"), (.ref 237)]), #[]⟩
noncomputable def o240 (P : Params) : Obj := ⟨(.type "tuple"), none, (.seq #[] 0), #[]⟩
noncomputable def o241 (P : Params) : Obj := ⟨.none, none, (.fields #[]), #[]⟩
noncomputable def o242 (P : Params) : Obj := ⟨(.type "tuple"), none, (.seq #[(.str (s "value") 654)] 0), #[]⟩
noncomputable def o243 (P : Params) : Obj := ⟨(.type "tuple"), none, (.seq #[] 0), #[]⟩
noncomputable def o244 (P : Params) : Obj := ⟨.none, none, (.func (fn (hT 17) (s "is_integer") (s "is_integer") 0 [] .none .none .none .none none .none .none 0)), #[]⟩
noncomputable def o245 (P : Params) : Obj := ⟨(.type "code"), none, (.fields #[(.str (s "is_integer") 651), (.str (s "is_integer") 652), (.str (s "/claim/cut.py") 653), (.int (54) 0), (.int (1) 0), (.int (0) 0), (.int (0) 0), (.int (3) 0), (.ref 240), (.bool true), (.int (374) 0), (.ref 241), .none, (.ref 242), (.ref 243), (.ref 244), (.int (655) 0), (.int (54) 0), (.str (s "/claim/cut.py") 656)]), #[]⟩
noncomputable def o246 (P : Params) : Obj := ⟨(.type "function"), none, (.func (fn (hT 17) (s "is_integer") (s "is_integer") 3 [] .none .none .none (.str (s "likepanes.kinds") 649) none (.ref 245) .none 0)), #[]⟩
noncomputable def o247 (P : Params) : Obj := ⟨(.type "tuple"), none, (.seq #[] 0), #[]⟩
noncomputable def o248 (P : Params) : Obj := ⟨.none, none, (.fields #[]), #[]⟩
noncomputable def o249 (P : Params) : Obj := ⟨.none, none, (.func (fn (hT 18) (s "are_integers") (s "are_integers") 0 [] .none .none .none .none none .none .none 0)), #[]⟩
noncomputable def o250 (P : Params) : Obj := ⟨(.type "code"), none, (.fields #[(.str (s "are_integers") 658), (.str (s "are_integers") 659), (.str (s "/claim/cut.py") 660), (.int (56) 0), (.int (1) 0), (.int (0) 0), (.int (0) 0), (.int (3) 0), (.ref 247), (.bool true), (.int (374) 0), (.ref 248), .none, .none, .none, (.ref 249), (.int (661) 0), (.int (56) 0), (.str (s "/claim/cut.py") 662)]), #[]⟩
noncomputable def o251 (P : Params) : Obj := ⟨(.type "function"), none, (.func (fn (hT 18) (s "are_integers") (s "are_integers") 3 [] .none .none .none (.str (s "likepanes.kinds") 649) none (.ref 250) .none 0)), #[]⟩
noncomputable def o252 (P : Params) : Obj := ⟨(.type "tuple"), none, (.seq #[] 0), #[]⟩
noncomputable def o253 (P : Params) : Obj := ⟨.none, none, (.fields #[]), #[]⟩
noncomputable def o254 (P : Params) : Obj := ⟨(.type "tuple"), none, (.seq #[(.str (s "value") 667), (.str (s "top") 668), (.str (s "bottom") 669)] 0), #[]⟩
noncomputable def o255 (P : Params) : Obj := ⟨(.type "tuple"), none, (.seq #[] 0), #[]⟩
noncomputable def o256 (P : Params) : Obj := ⟨.none, none, (.func (fn (hT 19) (s "is_fraction") (s "is_fraction") 0 [] .none .none .none .none none .none .none 0)), #[]⟩
noncomputable def o257 (P : Params) : Obj := ⟨(.type "code"), none, (.fields #[(.str (s "is_fraction") 664), (.str (s "is_fraction") 665), (.str (s "/claim/cut.py") 666), (.int (58) 0), (.int (1) 0), (.int (0) 0), (.int (0) 0), (.int (3) 0), (.ref 252), (.bool true), (.int (374) 0), (.ref 253), .none, (.ref 254), (.ref 255), (.ref 256), (.int (670) 0), (.int (58) 0), (.str (s "/claim/cut.py") 671)]), #[]⟩
noncomputable def o258 (P : Params) : Obj := ⟨(.type "function"), none, (.func (fn (hT 19) (s "is_fraction") (s "is_fraction") 3 [] .none .none .none (.str (s "likepanes.kinds") 649) none (.ref 257) .none 0)), #[]⟩
noncomputable def o259 (P : Params) : Obj := ⟨(.type "tuple"), none, (.seq #[] 0), #[]⟩
noncomputable def o260 (P : Params) : Obj := ⟨.none, none, (.fields #[]), #[]⟩
noncomputable def o261 (P : Params) : Obj := ⟨(.type "tuple"), none, (.seq #[(.str (s "one") 676), (.str (s "other") 677)] 0), #[]⟩
noncomputable def o262 (P : Params) : Obj := ⟨(.type "tuple"), none, (.seq #[] 0), #[]⟩
noncomputable def o263 (P : Params) : Obj := ⟨.none, none, (.func (fn (hT 20) (s "is_below") (s "is_below") 0 [] .none .none .none .none none .none .none 0)), #[]⟩
noncomputable def o264 (P : Params) : Obj := ⟨(.type "code"), none, (.fields #[(.str (s "is_below") 673), (.str (s "is_below") 674), (.str (s "/claim/cut.py") 675), (.int (63) 0), (.int (2) 0), (.int (0) 0), (.int (0) 0), (.int (3) 0), (.ref 259), (.bool true), (.int (374) 0), (.ref 260), .none, (.ref 261), (.ref 262), (.ref 263), (.int (678) 0), (.int (63) 0), (.str (s "/claim/cut.py") 679)]), #[]⟩
noncomputable def o265 (P : Params) : Obj := ⟨(.type "function"), none, (.func (fn (hT 20) (s "is_below") (s "is_below") 3 [] .none .none .none (.str (s "likepanes.kinds") 649) none (.ref 264) .none 0)), #[]⟩
noncomputable def o266 (P : Params) : Obj := ⟨(.type "tuple"), none, (.seq #[] 0), #[]⟩
noncomputable def o267 (P : Params) : Obj := ⟨.none, none, (.fields #[]), #[]⟩
noncomputable def o268 (P : Params) : Obj := ⟨(.type "tuple"), none, (.seq #[(.str (s "value") 684)] 0), #[]⟩
noncomputable def o269 (P : Params) : Obj := ⟨(.type "tuple"), none, (.seq #[] 0), #[]⟩
noncomputable def o270 (P : Params) : Obj := ⟨.none, none, (.func (fn (hT 21) (s "is_term") (s "is_term") 0 [] .none .none .none .none none .none .none 0)), #[]⟩
noncomputable def o271 (P : Params) : Obj := ⟨(.type "code"), none, (.fields #[(.str (s "is_term") 681), (.str (s "is_term") 682), (.str (s "/claim/cut.py") 683), (.int (65) 0), (.int (1) 0), (.int (0) 0), (.int (0) 0), (.int (3) 0), (.ref 266), (.bool true), (.int (374) 0), (.ref 267), .none, (.ref 268), (.ref 269), (.ref 270), (.int (685) 0), (.int (65) 0), (.str (s "/claim/cut.py") 686)]), #[]⟩
noncomputable def o272 (P : Params) : Obj := ⟨(.type "function"), none, (.func (fn (hT 21) (s "is_term") (s "is_term") 3 [] .none .none .none (.str (s "likepanes.kinds") 649) none (.ref 271) .none 0)), #[]⟩
noncomputable def o273 (P : Params) : Obj := ⟨(.type "tuple"), none, (.seq #[] 0), #[]⟩
noncomputable def o274 (P : Params) : Obj := ⟨.none, none, (.fields #[]), #[]⟩
noncomputable def o275 (P : Params) : Obj := ⟨(.type "tuple"), none, (.seq #[(.str (s "equation") 691), (.str (s "at") 692), (.str (s "term") 693), (.str (s "last") 694)] 0), #[]⟩
noncomputable def o276 (P : Params) : Obj := ⟨(.type "tuple"), none, (.seq #[] 0), #[]⟩
noncomputable def o277 (P : Params) : Obj := ⟨.none, none, (.func (fn (hT 22) (s "wrong_term") (s "wrong_term") 0 [] .none .none .none .none none .none .none 0)), #[]⟩
noncomputable def o278 (P : Params) : Obj := ⟨(.type "code"), none, (.fields #[(.str (s "wrong_term") 688), (.str (s "wrong_term") 689), (.str (s "/claim/cut.py") 690), (.int (67) 0), (.int (1) 0), (.int (0) 0), (.int (0) 0), (.int (3) 0), (.ref 273), (.bool true), (.int (374) 0), (.ref 274), .none, (.ref 275), (.ref 276), (.ref 277), (.int (695) 0), (.int (67) 0), (.str (s "/claim/cut.py") 696)]), #[]⟩
noncomputable def o279 (P : Params) : Obj := ⟨(.type "function"), none, (.func (fn (hT 22) (s "wrong_term") (s "wrong_term") 3 [] .none .none .none (.str (s "likepanes.kinds") 649) none (.ref 278) .none 0)), #[]⟩
noncomputable def o280 (P : Params) : Obj := ⟨(.type "tuple"), none, (.seq #[] 0), #[]⟩
noncomputable def o281 (P : Params) : Obj := ⟨.none, none, (.fields #[]), #[]⟩
noncomputable def o282 (P : Params) : Obj := ⟨(.type "tuple"), none, (.seq #[(.str (s "terms") 703), (.str (s "many") 704)] 0), #[]⟩
noncomputable def o283 (P : Params) : Obj := ⟨(.type "tuple"), none, (.seq #[] 0), #[]⟩
noncomputable def o284 (P : Params) : Obj := ⟨.none, none, (.func (fn (hT 24) (s "trimmed") (s "trimmed") 0 [] .none .none .none .none none .none .none 0)), #[]⟩
noncomputable def o285 (P : Params) : Obj := ⟨(.type "code"), none, (.fields #[(.str (s "trimmed") 700), (.str (s "trimmed") 701), (.str (s "/claim/cut.py") 702), (.int (74) 0), (.int (1) 0), (.int (0) 0), (.int (0) 0), (.int (3) 0), (.ref 280), (.bool true), (.int (374) 0), (.ref 281), .none, (.ref 282), (.ref 283), (.ref 284), (.int (705) 0), (.int (74) 0), (.str (s "/claim/cut.py") 706)]), #[]⟩
noncomputable def o286 (P : Params) : Obj := ⟨(.type "function"), none, (.func (fn (hT 24) (s "trimmed") (s "trimmed") 3 [] .none .none .none (.str (s "likepanes.terms") 698) none (.ref 285) .none 0)), #[]⟩
noncomputable def t3 (P : Params) : BT := (n (o0 P) (n (o1 P) (n (o3_3 P) (n (o7 P) (n (o15 P) (n (o31 P) (n (o63 P) (n (o127 P) (n (o255 P) z z) z) (n (o191 P) z z)) (n (o95 P) (n (o159 P) z z) (n (o223 P) z z))) (n (o47 P) (n (o79 P) (n (o143 P) (n (o271 P) z z) z) (n (o207 P) z z)) (n (o111 P) (n (o175 P) z z) (n (o239 P) z z)))) (n (o23 P) (n (o39 P) (n (o71 P) (n (o135 P) (n (o263 P) z z) z) (n (o199 P) z z)) (n (o103 P) (n (o167 P) z z) (n (o231 P) z z))) (n (o55 P) (n (o87 P) (n (o151 P) (n (o279 P) z z) z) (n (o215 P) z z)) (n (o119 P) (n (o183 P) z z) (n (o247 P) z z))))) (n (o11 P) (n (o19 P) (n (o35 P) (n (o67 P) (n (o131 P) (n (o259 P) z z) z) (n (o195 P) z z)) (n (o99 P) (n (o163 P) z z) (n (o227 P) z z))) (n (o51 P) (n (o83 P) (n (o147 P) (n (o275 P) z z) z) (n (o211 P) z z)) (n (o115 P) (n (o179_3 P) z z) (n (o243 P) z z)))) (n (o27 P) (n (o43 P) (n (o75 P) (n (o139 P) (n (o267 P) z z) z) (n (o203 P) z z)) (n (o107 P) (n (o171 P) z z) (n (o235 P) z z))) (n (o59 P) (n (o91 P) (n (o155 P) (n (o283 P) z z) z) (n (o219 P) z z)) (n (o123 P) (n (o187 P) z z) (n (o251 P) z z)))))) (n (o5 P) (n (o9 P) (n (o17 P) (n (o33 P) (n (o65 P) (n (o129 P) (n (o257 P) z z) z) (n (o193 P) z z)) (n (o97 P) (n (o161 P) z z) (n (o225 P) z z))) (n (o49 P) (n (o81 P) (n (o145 P) (n (o273 P) z z) z) (n (o209 P) z z)) (n (o113 P) (n (o177 P) z z) (n (o241 P) z z)))) (n (o25 P) (n (o41 P) (n (o73 P) (n (o137 P) (n (o265 P) z z) z) (n (o201 P) z z)) (n (o105 P) (n (o169 P) z z) (n (o233 P) z z))) (n (o57 P) (n (o89 P) (n (o153 P) (n (o281 P) z z) z) (n (o217 P) z z)) (n (o121 P) (n (o185 P) z z) (n (o249 P) z z))))) (n (o13 P) (n (o21 P) (n (o37 P) (n (o69 P) (n (o133 P) (n (o261 P) z z) z) (n (o197 P) z z)) (n (o101 P) (n (o165 P) z z) (n (o229 P) z z))) (n (o53 P) (n (o85 P) (n (o149 P) (n (o277 P) z z) z) (n (o213 P) z z)) (n (o117 P) (n (o181 P) z z) (n (o245 P) z z)))) (n (o29 P) (n (o45 P) (n (o77 P) (n (o141 P) (n (o269 P) z z) z) (n (o205 P) z z)) (n (o109 P) (n (o173 P) z z) (n (o237 P) z z))) (n (o61 P) (n (o93 P) (n (o157 P) (n (o285 P) z z) z) (n (o221 P) z z)) (n (o125 P) (n (o189 P) z z) (n (o253 P) z z))))))) (n (o2_2 P) (n (o4 P) (n (o8 P) (n (o16 P) (n (o32 P) (n (o64 P) (n (o128 P) (n (o256 P) z z) z) (n (o192 P) z z)) (n (o96 P) (n (o160 P) z z) (n (o224 P) z z))) (n (o48 P) (n (o80 P) (n (o144 P) (n (o272 P) z z) z) (n (o208 P) z z)) (n (o112 P) (n (o176 P) z z) (n (o240 P) z z)))) (n (o24 P) (n (o40_3 P) (n (o72 P) (n (o136 P) (n (o264 P) z z) z) (n (o200 P) z z)) (n (o104 P) (n (o168 P) z z) (n (o232 P) z z))) (n (o56 P) (n (o88 P) (n (o152 P) (n (o280 P) z z) z) (n (o216 P) z z)) (n (o120 P) (n (o184 P) z z) (n (o248 P) z z))))) (n (o12_0 P) (n (o20 P) (n (o36 P) (n (o68 P) (n (o132 P) (n (o260 P) z z) z) (n (o196 P) z z)) (n (o100 P) (n (o164 P) z z) (n (o228 P) z z))) (n (o52_2 P) (n (o84 P) (n (o148 P) (n (o276 P) z z) z) (n (o212 P) z z)) (n (o116 P) (n (o180 P) z z) (n (o244 P) z z)))) (n (o28 P) (n (o44 P) (n (o76 P) (n (o140 P) (n (o268 P) z z) z) (n (o204 P) z z)) (n (o108 P) (n (o172 P) z z) (n (o236 P) z z))) (n (o60 P) (n (o92 P) (n (o156 P) (n (o284 P) z z) z) (n (o220 P) z z)) (n (o124 P) (n (o188 P) z z) (n (o252 P) z z)))))) (n (o6 P) (n (o10 P) (n (o18 P) (n (o34 P) (n (o66 P) (n (o130 P) (n (o258 P) z z) z) (n (o194 P) z z)) (n (o98 P) (n (o162 P) z z) (n (o226 P) z z))) (n (o50 P) (n (o82 P) (n (o146 P) (n (o274 P) z z) z) (n (o210 P) z z)) (n (o114 P) (n (o178 P) z z) (n (o242 P) z z)))) (n (o26 P) (n (o42 P) (n (o74 P) (n (o138 P) (n (o266 P) z z) z) (n (o202 P) z z)) (n (o106 P) (n (o170 P) z z) (n (o234 P) z z))) (n (o58 P) (n (o90 P) (n (o154 P) (n (o282 P) z z) z) (n (o218 P) z z)) (n (o122 P) (n (o186 P) z z) (n (o250 P) z z))))) (n (o14 P) (n (o22 P) (n (o38 P) (n (o70 P) (n (o134 P) (n (o262 P) z z) z) (n (o198 P) z z)) (n (o102 P) (n (o166 P) z z) (n (o230 P) z z))) (n (o54 P) (n (o86 P) (n (o150 P) (n (o278 P) z z) z) (n (o214 P) z z)) (n (o118 P) (n (o182 P) z z) (n (o246 P) z z)))) (n (o30 P) (n (o46 P) (n (o78 P) (n (o142 P) (n (o270 P) z z) z) (n (o206 P) z z)) (n (o110 P) (n (o174 P) z z) (n (o238 P) z z))) (n (o62 P) (n (o94 P) (n (o158 P) (n (o286 P) z z) z) (n (o222 P) z z)) (n (o126 P) (n (o190 P) z z) (n (o254 P) z z))))))))
noncomputable def X3 (w : World) (os : OsState) : SharedT := ⟨t3 w.params, 287, {}, #[], {}, 708, os⟩
noncomputable def o3_4 (P : Params) : Obj := ⟨(.type "dict"), none, (.dict #[k P "__name__" 165 (.str (s "likepanes.shapes") 985), k P "__doc__" 166 .none, k P "__package__" 167 .none, k P "__loader__" 168 (.builtin "__main__.__loader__#opaque"), k P "__spec__" 169 .none, k P "__annotations__" 170 (.ref 6), k P "__builtins__" 171 (.ref 4), k P "__file__" 173 (.str (s "/claim/cut.py") 172), k P "__cached__" 174 .none, k P "gcd" 370 (.builtin "math.gcd"), k P "isqrt" 373 (.builtin "math.isqrt"), k P "BadValue" 399 (.ref 52), k P "InvalidText" 424 (.ref 72), k P "InvalidFraction" 449 (.ref 91), k P "InvalidNumber" 474 (.ref 110), k P "InvalidScale" 499 (.ref 129), k P "NotAShape" 524 (.ref 148), k P "InvalidEquation" 549 (.ref 167), k P "NoAnswer" 569 (.ref 179), k P "NoRoot" 592 (.ref 199), k P "NoQuotient" 615 (.ref 218), k P "TooMany" 640 (.ref 237), k P "MOST_DEGREE" 642 (.int (5) 641), k P "MOST_TERM" 644 (.int (1000) 643), k P "MOST_SCALE" 648 (.int (10000000000000000000000000000000000000000) 647), k P "is_integer" 657 (.ref 246), k P "are_integers" 663 (.ref 251), k P "is_fraction" 672 (.ref 258), k P "is_below" 680 (.ref 265), k P "is_term" 687 (.ref 272), k P "wrong_term" 697 (.ref 279), k P "trimmed" 707 (.ref 286), k P "common_divisor" 716 (.ref 293), k P "primitive" 722 (.ref 298), k P "negative" 728 (.ref 303), k P "derivative" 734 (.ref 308), k P "value_at" 746 (.ref 315), k P "multiplied" 759 (.ref 322), k P "combined" 773 (.ref 329), k P "remainder" 783 (.ref 336), k P "divided" 798 (.ref 343), k P "FIRST_BITS" 802 (.int (64) 801), k P "sturm_chain" 810 (.ref 350), k P "changes" 816 (.ref 355), k P "reach" 822 (.ref 360), k P "roots_up_to" 831 (.ref 367), k P "roots_in_all" 838 (.ref 374), k P "roots_within" 849 (.ref 381), k P "rank_of_last" 857 (.ref 388), k P "stretch_of" 868 (.ref 395), k P "lonely_stretch" 881 (.ref 402), k P "refined" 893 (.ref 409), k P "guessed" 909 (.ref 416), k P "is_least" 918 (.ref 423), k P "factors_of" 928 (.ref 430), k P "least_factor" 936 (.ref 437), k P "divisors" 942 (.ref 442), k P "linear_factor" 953 (.ref 449), k P "quadratic_factor" 966 (.ref 456), k P "middles" 978 (.ref 463), k P "whole_roots" 984 (.ref 468)] 61), #[]⟩
noncomputable def o40_4 (P : Params) : Obj := ⟨.none, none, (.fields #[(.int (3) 0), (.int (0) 0), (.ref 48), (.int (5) 0), (.int (0) 0), (.ref 61), (.int (10) 0), (.int (0) 0), (.ref 80), (.int (15) 0), (.int (0) 0), (.ref 99), (.int (20) 0), (.int (0) 0), (.ref 118), (.int (25) 0), (.int (0) 0), (.ref 137), (.int (30) 0), (.int (0) 0), (.ref 156), (.int (35) 0), (.int (0) 0), (.ref 175), (.int (37) 0), (.int (0) 0), (.ref 188), (.int (41) 0), (.int (0) 0), (.ref 207), (.int (45) 0), (.int (0) 0), (.ref 226), (.int (54) 0), (.int (0) 0), (.ref 245), (.int (56) 0), (.int (0) 0), (.ref 250), (.int (58) 0), (.int (0) 0), (.ref 257), (.int (63) 0), (.int (0) 0), (.ref 264), (.int (65) 0), (.int (0) 0), (.ref 271), (.int (67) 0), (.int (0) 0), (.ref 278), (.int (74) 0), (.int (0) 0), (.ref 285), (.int (79) 0), (.int (0) 0), (.ref 292), (.int (84) 0), (.int (0) 0), (.ref 297), (.int (87) 0), (.int (0) 0), (.ref 302), (.int (89) 0), (.int (0) 0), (.ref 307), (.int (91) 0), (.int (0) 0), (.ref 314), (.int (97) 0), (.int (0) 0), (.ref 321), (.int (103) 0), (.int (0) 0), (.ref 328), (.int (110) 0), (.int (0) 0), (.ref 335), (.int (116) 0), (.int (0) 0), (.ref 342), (.int (132) 0), (.int (0) 0), (.ref 349), (.int (138) 0), (.int (0) 0), (.ref 354), (.int (142) 0), (.int (0) 0), (.ref 359), (.int (144) 0), (.int (0) 0), (.ref 366), (.int (146) 0), (.int (0) 0), (.ref 373), (.int (148) 0), (.int (0) 0), (.ref 380), (.int (154) 0), (.int (0) 0), (.ref 387), (.int (156) 0), (.int (0) 0), (.ref 394), (.int (160) 0), (.int (0) 0), (.ref 401), (.int (172) 0), (.int (0) 0), (.ref 408), (.int (184) 0), (.int (0) 0), (.ref 415), (.int (197) 0), (.int (0) 0), (.ref 422), (.int (201) 0), (.int (0) 0), (.ref 429), (.int (212) 0), (.int (0) 0), (.ref 436), (.int (219) 0), (.int (0) 0), (.ref 441), (.int (221) 0), (.int (0) 0), (.ref 448), (.int (233) 0), (.int (0) 0), (.ref 455), (.int (243) 0), (.int (0) 0), (.ref 462), (.int (250) 0), (.int (0) 0), (.ref 467)]), #[]⟩
noncomputable def o287 (P : Params) : Obj := ⟨(.type "tuple"), none, (.seq #[] 0), #[]⟩
noncomputable def o288 (P : Params) : Obj := ⟨.none, none, (.fields #[]), #[]⟩
noncomputable def o289 (P : Params) : Obj := ⟨(.type "tuple"), none, (.seq #[(.str (s "terms") 711), (.str (s "common") 712), (.str (s "term") 713)] 0), #[]⟩
noncomputable def o290 (P : Params) : Obj := ⟨(.type "tuple"), none, (.seq #[] 0), #[]⟩
noncomputable def o291 (P : Params) : Obj := ⟨.none, none, (.func (fn (hT 25) (s "common_divisor") (s "common_divisor") 0 [] .none .none .none .none none .none .none 0)), #[]⟩
noncomputable def o292 (P : Params) : Obj := ⟨(.type "code"), none, (.fields #[(.str (s "common_divisor") 708), (.str (s "common_divisor") 709), (.str (s "/claim/cut.py") 710), (.int (79) 0), (.int (1) 0), (.int (0) 0), (.int (0) 0), (.int (3) 0), (.ref 287), (.bool true), (.int (374) 0), (.ref 288), .none, (.ref 289), (.ref 290), (.ref 291), (.int (714) 0), (.int (79) 0), (.str (s "/claim/cut.py") 715)]), #[]⟩
noncomputable def o293 (P : Params) : Obj := ⟨(.type "function"), none, (.func (fn (hT 25) (s "common_divisor") (s "common_divisor") 3 [] .none .none .none (.str (s "likepanes.terms") 698) none (.ref 292) .none 0)), #[]⟩
noncomputable def o294 (P : Params) : Obj := ⟨(.type "tuple"), none, (.seq #[] 0), #[]⟩
noncomputable def o295 (P : Params) : Obj := ⟨.none, none, (.fields #[]), #[]⟩
noncomputable def o296 (P : Params) : Obj := ⟨.none, none, (.func (fn (hT 26) (s "primitive") (s "primitive") 0 [] .none .none .none .none none .none .none 0)), #[]⟩
noncomputable def o297 (P : Params) : Obj := ⟨(.type "code"), none, (.fields #[(.str (s "primitive") 717), (.str (s "primitive") 718), (.str (s "/claim/cut.py") 719), (.int (84) 0), (.int (1) 0), (.int (0) 0), (.int (0) 0), (.int (3) 0), (.ref 294), (.bool true), (.int (374) 0), (.ref 295), .none, .none, .none, (.ref 296), (.int (720) 0), (.int (84) 0), (.str (s "/claim/cut.py") 721)]), #[]⟩
noncomputable def o298 (P : Params) : Obj := ⟨(.type "function"), none, (.func (fn (hT 26) (s "primitive") (s "primitive") 3 [] .none .none .none (.str (s "likepanes.terms") 698) none (.ref 297) .none 0)), #[]⟩
noncomputable def o299 (P : Params) : Obj := ⟨(.type "tuple"), none, (.seq #[] 0), #[]⟩
noncomputable def o300 (P : Params) : Obj := ⟨.none, none, (.fields #[]), #[]⟩
noncomputable def o301 (P : Params) : Obj := ⟨.none, none, (.func (fn (hT 27) (s "negative") (s "negative") 0 [] .none .none .none .none none .none .none 0)), #[]⟩
noncomputable def o302 (P : Params) : Obj := ⟨(.type "code"), none, (.fields #[(.str (s "negative") 723), (.str (s "negative") 724), (.str (s "/claim/cut.py") 725), (.int (87) 0), (.int (1) 0), (.int (0) 0), (.int (0) 0), (.int (3) 0), (.ref 299), (.bool true), (.int (374) 0), (.ref 300), .none, .none, .none, (.ref 301), (.int (726) 0), (.int (87) 0), (.str (s "/claim/cut.py") 727)]), #[]⟩
noncomputable def o303 (P : Params) : Obj := ⟨(.type "function"), none, (.func (fn (hT 27) (s "negative") (s "negative") 3 [] .none .none .none (.str (s "likepanes.terms") 698) none (.ref 302) .none 0)), #[]⟩
noncomputable def o304 (P : Params) : Obj := ⟨(.type "tuple"), none, (.seq #[] 0), #[]⟩
noncomputable def o305 (P : Params) : Obj := ⟨.none, none, (.fields #[]), #[]⟩
noncomputable def o306 (P : Params) : Obj := ⟨.none, none, (.func (fn (hT 28) (s "derivative") (s "derivative") 0 [] .none .none .none .none none .none .none 0)), #[]⟩
noncomputable def o307 (P : Params) : Obj := ⟨(.type "code"), none, (.fields #[(.str (s "derivative") 729), (.str (s "derivative") 730), (.str (s "/claim/cut.py") 731), (.int (89) 0), (.int (1) 0), (.int (0) 0), (.int (0) 0), (.int (3) 0), (.ref 304), (.bool true), (.int (374) 0), (.ref 305), .none, .none, .none, (.ref 306), (.int (732) 0), (.int (89) 0), (.str (s "/claim/cut.py") 733)]), #[]⟩
noncomputable def o308 (P : Params) : Obj := ⟨(.type "function"), none, (.func (fn (hT 28) (s "derivative") (s "derivative") 3 [] .none .none .none (.str (s "likepanes.terms") 698) none (.ref 307) .none 0)), #[]⟩
noncomputable def o309 (P : Params) : Obj := ⟨(.type "tuple"), none, (.seq #[] 0), #[]⟩
noncomputable def o310 (P : Params) : Obj := ⟨.none, none, (.fields #[]), #[]⟩
noncomputable def o311 (P : Params) : Obj := ⟨(.type "tuple"), none, (.seq #[(.str (s "terms") 738), (.str (s "top") 739), (.str (s "bottom") 740), (.str (s "value") 741), (.str (s "scale") 742), (.str (s "term") 743)] 0), #[]⟩
noncomputable def o312 (P : Params) : Obj := ⟨(.type "tuple"), none, (.seq #[] 0), #[]⟩
noncomputable def o313 (P : Params) : Obj := ⟨.none, none, (.func (fn (hT 29) (s "value_at") (s "value_at") 0 [] .none .none .none .none none .none .none 0)), #[]⟩
noncomputable def o314 (P : Params) : Obj := ⟨(.type "code"), none, (.fields #[(.str (s "value_at") 735), (.str (s "value_at") 736), (.str (s "/claim/cut.py") 737), (.int (91) 0), (.int (3) 0), (.int (0) 0), (.int (0) 0), (.int (3) 0), (.ref 309), (.bool true), (.int (374) 0), (.ref 310), .none, (.ref 311), (.ref 312), (.ref 313), (.int (744) 0), (.int (91) 0), (.str (s "/claim/cut.py") 745)]), #[]⟩
noncomputable def o315 (P : Params) : Obj := ⟨(.type "function"), none, (.func (fn (hT 29) (s "value_at") (s "value_at") 3 [] .none .none .none (.str (s "likepanes.terms") 698) none (.ref 314) .none 0)), #[]⟩
noncomputable def o316 (P : Params) : Obj := ⟨(.type "tuple"), none, (.seq #[] 0), #[]⟩
noncomputable def o317 (P : Params) : Obj := ⟨.none, none, (.fields #[]), #[]⟩
noncomputable def o318 (P : Params) : Obj := ⟨(.type "tuple"), none, (.seq #[(.str (s "one") 750), (.str (s "other") 751), (.str (s "result") 752), (.str (s "low") 753), (.str (s "left") 754), (.str (s "high") 755), (.str (s "right") 756)] 0), #[]⟩
noncomputable def o319 (P : Params) : Obj := ⟨(.type "tuple"), none, (.seq #[] 0), #[]⟩
noncomputable def o320 (P : Params) : Obj := ⟨.none, none, (.func (fn (hT 30) (s "multiplied") (s "multiplied") 0 [] .none .none .none .none none .none .none 0)), #[]⟩
noncomputable def o321 (P : Params) : Obj := ⟨(.type "code"), none, (.fields #[(.str (s "multiplied") 747), (.str (s "multiplied") 748), (.str (s "/claim/cut.py") 749), (.int (97) 0), (.int (2) 0), (.int (0) 0), (.int (0) 0), (.int (3) 0), (.ref 316), (.bool true), (.int (374) 0), (.ref 317), .none, (.ref 318), (.ref 319), (.ref 320), (.int (757) 0), (.int (97) 0), (.str (s "/claim/cut.py") 758)]), #[]⟩
noncomputable def o322 (P : Params) : Obj := ⟨(.type "function"), none, (.func (fn (hT 30) (s "multiplied") (s "multiplied") 3 [] .none .none .none (.str (s "likepanes.terms") 698) none (.ref 321) .none 0)), #[]⟩
noncomputable def o323 (P : Params) : Obj := ⟨(.type "tuple"), none, (.seq #[] 0), #[]⟩
noncomputable def o324 (P : Params) : Obj := ⟨.none, none, (.fields #[]), #[]⟩
noncomputable def o325 (P : Params) : Obj := ⟨(.type "tuple"), none, (.seq #[(.str (s "factor") 763), (.str (s "one") 764), (.str (s "weight") 765), (.str (s "other") 766), (.str (s "shift") 767), (.str (s "result") 768), (.str (s "at") 769), (.str (s "term") 770)] 0), #[]⟩
noncomputable def o326 (P : Params) : Obj := ⟨(.type "tuple"), none, (.seq #[] 0), #[]⟩
noncomputable def o327 (P : Params) : Obj := ⟨.none, none, (.func (fn (hT 31) (s "combined") (s "combined") 0 [] .none .none .none .none none .none .none 0)), #[]⟩
noncomputable def o328 (P : Params) : Obj := ⟨(.type "code"), none, (.fields #[(.str (s "combined") 760), (.str (s "combined") 761), (.str (s "/claim/cut.py") 762), (.int (103) 0), (.int (5) 0), (.int (0) 0), (.int (0) 0), (.int (3) 0), (.ref 323), (.bool true), (.int (374) 0), (.ref 324), .none, (.ref 325), (.ref 326), (.ref 327), (.int (771) 0), (.int (103) 0), (.str (s "/claim/cut.py") 772)]), #[]⟩
noncomputable def o329 (P : Params) : Obj := ⟨(.type "function"), none, (.func (fn (hT 31) (s "combined") (s "combined") 3 [] .none .none .none (.str (s "likepanes.terms") 698) none (.ref 328) .none 0)), #[]⟩
noncomputable def o330 (P : Params) : Obj := ⟨(.type "tuple"), none, (.seq #[] 0), #[]⟩
noncomputable def o331 (P : Params) : Obj := ⟨.none, none, (.fields #[]), #[]⟩
noncomputable def o332 (P : Params) : Obj := ⟨(.type "tuple"), none, (.seq #[(.str (s "one") 777), (.str (s "other") 778), (.str (s "factor") 779), (.str (s "weight") 780)] 0), #[]⟩
noncomputable def o333 (P : Params) : Obj := ⟨(.type "tuple"), none, (.seq #[] 0), #[]⟩
noncomputable def o334 (P : Params) : Obj := ⟨.none, none, (.func (fn (hT 32) (s "remainder") (s "remainder") 0 [] .none .none .none .none none .none .none 0)), #[]⟩
noncomputable def o335 (P : Params) : Obj := ⟨(.type "code"), none, (.fields #[(.str (s "remainder") 774), (.str (s "remainder") 775), (.str (s "/claim/cut.py") 776), (.int (110) 0), (.int (2) 0), (.int (0) 0), (.int (0) 0), (.int (3) 0), (.ref 330), (.bool true), (.int (374) 0), (.ref 331), .none, (.ref 332), (.ref 333), (.ref 334), (.int (781) 0), (.int (110) 0), (.str (s "/claim/cut.py") 782)]), #[]⟩
noncomputable def o336 (P : Params) : Obj := ⟨(.type "function"), none, (.func (fn (hT 32) (s "remainder") (s "remainder") 3 [] .none .none .none (.str (s "likepanes.terms") 698) none (.ref 335) .none 0)), #[]⟩
noncomputable def o337 (P : Params) : Obj := ⟨(.type "tuple"), none, (.seq #[] 0), #[]⟩
noncomputable def o338 (P : Params) : Obj := ⟨.none, none, (.fields #[]), #[]⟩
noncomputable def o339 (P : Params) : Obj := ⟨(.type "tuple"), none, (.seq #[(.str (s "one") 787), (.str (s "other") 788), (.str (s "rest") 789), (.str (s "found") 790), (.str (s "factor") 791), (.str (s "left") 792), (.str (s "shift") 793), (.str (s "at") 794), (.str (s "term") 795)] 0), #[]⟩
noncomputable def o340 (P : Params) : Obj := ⟨(.type "tuple"), none, (.seq #[] 0), #[]⟩
noncomputable def o341 (P : Params) : Obj := ⟨.none, none, (.func (fn (hT 33) (s "divided") (s "divided") 0 [] .none .none .none .none none .none .none 0)), #[]⟩
noncomputable def o342 (P : Params) : Obj := ⟨(.type "code"), none, (.fields #[(.str (s "divided") 784), (.str (s "divided") 785), (.str (s "/claim/cut.py") 786), (.int (116) 0), (.int (2) 0), (.int (0) 0), (.int (0) 0), (.int (3) 0), (.ref 337), (.bool true), (.int (374) 0), (.ref 338), .none, (.ref 339), (.ref 340), (.ref 341), (.int (796) 0), (.int (116) 0), (.str (s "/claim/cut.py") 797)]), #[]⟩
noncomputable def o343 (P : Params) : Obj := ⟨(.type "function"), none, (.func (fn (hT 33) (s "divided") (s "divided") 3 [] .none .none .none (.str (s "likepanes.terms") 698) none (.ref 342) .none 0)), #[]⟩
noncomputable def o344 (P : Params) : Obj := ⟨(.type "tuple"), none, (.seq #[] 0), #[]⟩
noncomputable def o345 (P : Params) : Obj := ⟨.none, none, (.fields #[]), #[]⟩
noncomputable def o346 (P : Params) : Obj := ⟨(.type "tuple"), none, (.seq #[(.str (s "terms") 806), (.str (s "chain") 807)] 0), #[]⟩
noncomputable def o347 (P : Params) : Obj := ⟨(.type "tuple"), none, (.seq #[] 0), #[]⟩
noncomputable def o348 (P : Params) : Obj := ⟨.none, none, (.func (fn (hT 36) (s "sturm_chain") (s "sturm_chain") 0 [] .none .none .none .none none .none .none 0)), #[]⟩
noncomputable def o349 (P : Params) : Obj := ⟨(.type "code"), none, (.fields #[(.str (s "sturm_chain") 803), (.str (s "sturm_chain") 804), (.str (s "/claim/cut.py") 805), (.int (132) 0), (.int (1) 0), (.int (0) 0), (.int (0) 0), (.int (3) 0), (.ref 344), (.bool true), (.int (374) 0), (.ref 345), .none, (.ref 346), (.ref 347), (.ref 348), (.int (808) 0), (.int (132) 0), (.str (s "/claim/cut.py") 809)]), #[]⟩
noncomputable def o350 (P : Params) : Obj := ⟨(.type "function"), none, (.func (fn (hT 36) (s "sturm_chain") (s "sturm_chain") 3 [] .none .none .none (.str (s "likepanes.roots") 799) none (.ref 349) .none 0)), #[]⟩
noncomputable def o351 (P : Params) : Obj := ⟨(.type "tuple"), none, (.seq #[] 0), #[]⟩
noncomputable def o352 (P : Params) : Obj := ⟨.none, none, (.fields #[]), #[]⟩
noncomputable def o353 (P : Params) : Obj := ⟨.none, none, (.func (fn (hT 37) (s "changes") (s "changes") 0 [] .none .none .none .none none .none .none 0)), #[]⟩
noncomputable def o354 (P : Params) : Obj := ⟨(.type "code"), none, (.fields #[(.str (s "changes") 811), (.str (s "changes") 812), (.str (s "/claim/cut.py") 813), (.int (138) 0), (.int (3) 0), (.int (0) 0), (.int (0) 0), (.int (3) 0), (.ref 351), (.bool true), (.int (374) 0), (.ref 352), .none, .none, .none, (.ref 353), (.int (814) 0), (.int (138) 0), (.str (s "/claim/cut.py") 815)]), #[]⟩
noncomputable def o355 (P : Params) : Obj := ⟨(.type "function"), none, (.func (fn (hT 37) (s "changes") (s "changes") 3 [] .none .none .none (.str (s "likepanes.roots") 799) none (.ref 354) .none 0)), #[]⟩
noncomputable def o356 (P : Params) : Obj := ⟨(.type "tuple"), none, (.seq #[] 0), #[]⟩
noncomputable def o357 (P : Params) : Obj := ⟨.none, none, (.fields #[]), #[]⟩
noncomputable def o358 (P : Params) : Obj := ⟨.none, none, (.func (fn (hT 38) (s "reach") (s "reach") 0 [] .none .none .none .none none .none .none 0)), #[]⟩
noncomputable def o359 (P : Params) : Obj := ⟨(.type "code"), none, (.fields #[(.str (s "reach") 817), (.str (s "reach") 818), (.str (s "/claim/cut.py") 819), (.int (142) 0), (.int (1) 0), (.int (0) 0), (.int (0) 0), (.int (3) 0), (.ref 356), (.bool true), (.int (374) 0), (.ref 357), .none, .none, .none, (.ref 358), (.int (820) 0), (.int (142) 0), (.str (s "/claim/cut.py") 821)]), #[]⟩
noncomputable def o360 (P : Params) : Obj := ⟨(.type "function"), none, (.func (fn (hT 38) (s "reach") (s "reach") 3 [] .none .none .none (.str (s "likepanes.roots") 799) none (.ref 359) .none 0)), #[]⟩
noncomputable def o361 (P : Params) : Obj := ⟨(.type "tuple"), none, (.seq #[] 0), #[]⟩
noncomputable def o362 (P : Params) : Obj := ⟨.none, none, (.fields #[]), #[]⟩
noncomputable def o363 (P : Params) : Obj := ⟨(.type "tuple"), none, (.seq #[(.str (s "chain") 826), (.str (s "top") 827), (.str (s "bottom") 828)] 0), #[]⟩
noncomputable def o364 (P : Params) : Obj := ⟨(.type "tuple"), none, (.seq #[] 0), #[]⟩
noncomputable def o365 (P : Params) : Obj := ⟨.none, none, (.func (fn (hT 39) (s "roots_up_to") (s "roots_up_to") 0 [] .none .none .none .none none .none .none 0)), #[]⟩
noncomputable def o366 (P : Params) : Obj := ⟨(.type "code"), none, (.fields #[(.str (s "roots_up_to") 823), (.str (s "roots_up_to") 824), (.str (s "/claim/cut.py") 825), (.int (144) 0), (.int (3) 0), (.int (0) 0), (.int (0) 0), (.int (3) 0), (.ref 361), (.bool true), (.int (374) 0), (.ref 362), .none, (.ref 363), (.ref 364), (.ref 365), (.int (829) 0), (.int (144) 0), (.str (s "/claim/cut.py") 830)]), #[]⟩
noncomputable def o367 (P : Params) : Obj := ⟨(.type "function"), none, (.func (fn (hT 39) (s "roots_up_to") (s "roots_up_to") 3 [] .none .none .none (.str (s "likepanes.roots") 799) none (.ref 366) .none 0)), #[]⟩
noncomputable def o368 (P : Params) : Obj := ⟨(.type "tuple"), none, (.seq #[] 0), #[]⟩
noncomputable def o369 (P : Params) : Obj := ⟨.none, none, (.fields #[]), #[]⟩
noncomputable def o370 (P : Params) : Obj := ⟨(.type "tuple"), none, (.seq #[(.str (s "chain") 835)] 0), #[]⟩
noncomputable def o371 (P : Params) : Obj := ⟨(.type "tuple"), none, (.seq #[] 0), #[]⟩
noncomputable def o372 (P : Params) : Obj := ⟨.none, none, (.func (fn (hT 40) (s "roots_in_all") (s "roots_in_all") 0 [] .none .none .none .none none .none .none 0)), #[]⟩
noncomputable def o373 (P : Params) : Obj := ⟨(.type "code"), none, (.fields #[(.str (s "roots_in_all") 832), (.str (s "roots_in_all") 833), (.str (s "/claim/cut.py") 834), (.int (146) 0), (.int (1) 0), (.int (0) 0), (.int (0) 0), (.int (3) 0), (.ref 368), (.bool true), (.int (374) 0), (.ref 369), .none, (.ref 370), (.ref 371), (.ref 372), (.int (836) 0), (.int (146) 0), (.str (s "/claim/cut.py") 837)]), #[]⟩
noncomputable def o374 (P : Params) : Obj := ⟨(.type "function"), none, (.func (fn (hT 40) (s "roots_in_all") (s "roots_in_all") 3 [] .none .none .none (.str (s "likepanes.roots") 799) none (.ref 373) .none 0)), #[]⟩
noncomputable def o375 (P : Params) : Obj := ⟨(.type "tuple"), none, (.seq #[] 0), #[]⟩
noncomputable def o376 (P : Params) : Obj := ⟨.none, none, (.fields #[]), #[]⟩
noncomputable def o377 (P : Params) : Obj := ⟨(.type "tuple"), none, (.seq #[(.str (s "terms") 842), (.str (s "low") 843), (.str (s "high") 844), (.str (s "chain") 845), (.str (s "many") 846)] 0), #[]⟩
noncomputable def o378 (P : Params) : Obj := ⟨(.type "tuple"), none, (.seq #[] 0), #[]⟩
noncomputable def o379 (P : Params) : Obj := ⟨.none, none, (.func (fn (hT 41) (s "roots_within") (s "roots_within") 0 [] .none .none .none .none none .none .none 0)), #[]⟩
noncomputable def o380 (P : Params) : Obj := ⟨(.type "code"), none, (.fields #[(.str (s "roots_within") 839), (.str (s "roots_within") 840), (.str (s "/claim/cut.py") 841), (.int (148) 0), (.int (3) 0), (.int (0) 0), (.int (0) 0), (.int (3) 0), (.ref 375), (.bool true), (.int (374) 0), (.ref 376), .none, (.ref 377), (.ref 378), (.ref 379), (.int (847) 0), (.int (148) 0), (.str (s "/claim/cut.py") 848)]), #[]⟩
noncomputable def o381 (P : Params) : Obj := ⟨(.type "function"), none, (.func (fn (hT 41) (s "roots_within") (s "roots_within") 3 [] .none .none .none (.str (s "likepanes.roots") 799) none (.ref 380) .none 0)), #[]⟩
noncomputable def o382 (P : Params) : Obj := ⟨(.type "tuple"), none, (.seq #[] 0), #[]⟩
noncomputable def o383 (P : Params) : Obj := ⟨.none, none, (.fields #[]), #[]⟩
noncomputable def o384 (P : Params) : Obj := ⟨(.type "tuple"), none, (.seq #[(.str (s "terms") 853), (.str (s "high") 854)] 0), #[]⟩
noncomputable def o385 (P : Params) : Obj := ⟨(.type "tuple"), none, (.seq #[] 0), #[]⟩
noncomputable def o386 (P : Params) : Obj := ⟨.none, none, (.func (fn (hT 42) (s "rank_of_last") (s "rank_of_last") 0 [] .none .none .none .none none .none .none 0)), #[]⟩
noncomputable def o387 (P : Params) : Obj := ⟨(.type "code"), none, (.fields #[(.str (s "rank_of_last") 850), (.str (s "rank_of_last") 851), (.str (s "/claim/cut.py") 852), (.int (154) 0), (.int (2) 0), (.int (0) 0), (.int (0) 0), (.int (3) 0), (.ref 382), (.bool true), (.int (374) 0), (.ref 383), .none, (.ref 384), (.ref 385), (.ref 386), (.int (855) 0), (.int (154) 0), (.str (s "/claim/cut.py") 856)]), #[]⟩
noncomputable def o388 (P : Params) : Obj := ⟨(.type "function"), none, (.func (fn (hT 42) (s "rank_of_last") (s "rank_of_last") 3 [] .none .none .none (.str (s "likepanes.roots") 799) none (.ref 387) .none 0)), #[]⟩
noncomputable def o389 (P : Params) : Obj := ⟨(.type "tuple"), none, (.seq #[] 0), #[]⟩
noncomputable def o390 (P : Params) : Obj := ⟨.none, none, (.fields #[]), #[]⟩
noncomputable def o391 (P : Params) : Obj := ⟨(.type "tuple"), none, (.seq #[(.str (s "equation") 861), (.str (s "rank") 862), (.str (s "near") 863), (.str (s "bits") 864), (.str (s "wanted") 865)] 0), #[]⟩
noncomputable def o392 (P : Params) : Obj := ⟨(.type "tuple"), none, (.seq #[] 0), #[]⟩
noncomputable def o393 (P : Params) : Obj := ⟨.none, none, (.func (fn (hT 43) (s "stretch_of") (s "stretch_of") 0 [] .none .none .none .none none .none .none 0)), #[]⟩
noncomputable def o394 (P : Params) : Obj := ⟨(.type "code"), none, (.fields #[(.str (s "stretch_of") 858), (.str (s "stretch_of") 859), (.str (s "/claim/cut.py") 860), (.int (156) 0), (.int (2) 0), (.int (0) 0), (.int (0) 0), (.int (3) 0), (.ref 389), (.bool true), (.int (374) 0), (.ref 390), .none, (.ref 391), (.ref 392), (.ref 393), (.int (866) 0), (.int (156) 0), (.str (s "/claim/cut.py") 867)]), #[]⟩
noncomputable def o395 (P : Params) : Obj := ⟨(.type "function"), none, (.func (fn (hT 43) (s "stretch_of") (s "stretch_of") 3 [] .none .none .none (.str (s "likepanes.roots") 799) none (.ref 394) .none 0)), #[]⟩
noncomputable def o396 (P : Params) : Obj := ⟨(.type "tuple"), none, (.seq #[] 0), #[]⟩
noncomputable def o397 (P : Params) : Obj := ⟨.none, none, (.fields #[]), #[]⟩
noncomputable def o398 (P : Params) : Obj := ⟨(.type "tuple"), none, (.seq #[(.str (s "equation") 872), (.str (s "rank") 873), (.str (s "chain") 874), (.str (s "low") 875), (.str (s "high") 876), (.str (s "bits") 877), (.str (s "middle") 878)] 0), #[]⟩
noncomputable def o399 (P : Params) : Obj := ⟨(.type "tuple"), none, (.seq #[] 0), #[]⟩
noncomputable def o400 (P : Params) : Obj := ⟨.none, none, (.func (fn (hT 44) (s "lonely_stretch") (s "lonely_stretch") 0 [] .none .none .none .none none .none .none 0)), #[]⟩
noncomputable def o401 (P : Params) : Obj := ⟨(.type "code"), none, (.fields #[(.str (s "lonely_stretch") 869), (.str (s "lonely_stretch") 870), (.str (s "/claim/cut.py") 871), (.int (160) 0), (.int (2) 0), (.int (0) 0), (.int (0) 0), (.int (3) 0), (.ref 396), (.bool true), (.int (374) 0), (.ref 397), .none, (.ref 398), (.ref 399), (.ref 400), (.int (879) 0), (.int (160) 0), (.str (s "/claim/cut.py") 880)]), #[]⟩
noncomputable def o402 (P : Params) : Obj := ⟨(.type "function"), none, (.func (fn (hT 44) (s "lonely_stretch") (s "lonely_stretch") 3 [] .none .none .none (.str (s "likepanes.roots") 799) none (.ref 401) .none 0)), #[]⟩
noncomputable def o403 (P : Params) : Obj := ⟨(.type "tuple"), none, (.seq #[] 0), #[]⟩
noncomputable def o404 (P : Params) : Obj := ⟨.none, none, (.fields #[]), #[]⟩
noncomputable def o405 (P : Params) : Obj := ⟨(.type "tuple"), none, (.seq #[(.str (s "equation") 885), (.str (s "near") 886), (.str (s "bits") 887), (.str (s "wanted") 888), (.str (s "step") 889), (.str (s "closer") 890)] 0), #[]⟩
noncomputable def o406 (P : Params) : Obj := ⟨(.type "tuple"), none, (.seq #[] 0), #[]⟩
noncomputable def o407 (P : Params) : Obj := ⟨.none, none, (.func (fn (hT 45) (s "refined") (s "refined") 0 [] .none .none .none .none none .none .none 0)), #[]⟩
noncomputable def o408 (P : Params) : Obj := ⟨(.type "code"), none, (.fields #[(.str (s "refined") 882), (.str (s "refined") 883), (.str (s "/claim/cut.py") 884), (.int (172) 0), (.int (4) 0), (.int (0) 0), (.int (0) 0), (.int (3) 0), (.ref 403), (.bool true), (.int (374) 0), (.ref 404), .none, (.ref 405), (.ref 406), (.ref 407), (.int (891) 0), (.int (172) 0), (.str (s "/claim/cut.py") 892)]), #[]⟩
noncomputable def o409 (P : Params) : Obj := ⟨(.type "function"), none, (.func (fn (hT 45) (s "refined") (s "refined") 3 [] .none .none .none (.str (s "likepanes.roots") 799) none (.ref 408) .none 0)), #[]⟩
noncomputable def o410 (P : Params) : Obj := ⟨(.type "tuple"), none, (.seq #[] 0), #[]⟩
noncomputable def o411 (P : Params) : Obj := ⟨.none, none, (.fields #[]), #[]⟩
noncomputable def o412 (P : Params) : Obj := ⟨(.type "tuple"), none, (.seq #[(.str (s "equation") 897), (.str (s "near") 898), (.str (s "bits") 899), (.str (s "step") 900), (.str (s "low") 901), (.str (s "high") 902), (.str (s "bottom") 903), (.str (s "place") 904), (.str (s "starts") 905), (.str (s "ends") 906)] 0), #[]⟩
noncomputable def o413 (P : Params) : Obj := ⟨(.type "tuple"), none, (.seq #[] 0), #[]⟩
noncomputable def o414 (P : Params) : Obj := ⟨.none, none, (.func (fn (hT 46) (s "guessed") (s "guessed") 0 [] .none .none .none .none none .none .none 0)), #[]⟩
noncomputable def o415 (P : Params) : Obj := ⟨(.type "code"), none, (.fields #[(.str (s "guessed") 894), (.str (s "guessed") 895), (.str (s "/claim/cut.py") 896), (.int (184) 0), (.int (4) 0), (.int (0) 0), (.int (0) 0), (.int (3) 0), (.ref 410), (.bool true), (.int (374) 0), (.ref 411), .none, (.ref 412), (.ref 413), (.ref 414), (.int (907) 0), (.int (184) 0), (.str (s "/claim/cut.py") 908)]), #[]⟩
noncomputable def o416 (P : Params) : Obj := ⟨(.type "function"), none, (.func (fn (hT 46) (s "guessed") (s "guessed") 3 [] .none .none .none (.str (s "likepanes.roots") 799) none (.ref 415) .none 0)), #[]⟩
noncomputable def o417 (P : Params) : Obj := ⟨(.type "tuple"), none, (.seq #[] 0), #[]⟩
noncomputable def o418 (P : Params) : Obj := ⟨.none, none, (.fields #[]), #[]⟩
noncomputable def o419 (P : Params) : Obj := ⟨(.type "tuple"), none, (.seq #[(.str (s "equation") 915)] 0), #[]⟩
noncomputable def o420 (P : Params) : Obj := ⟨(.type "tuple"), none, (.seq #[] 0), #[]⟩
noncomputable def o421 (P : Params) : Obj := ⟨.none, none, (.func (fn (hT 48) (s "is_least") (s "is_least") 0 [] .none .none .none .none none .none .none 0)), #[]⟩
noncomputable def o422 (P : Params) : Obj := ⟨(.type "code"), none, (.fields #[(.str (s "is_least") 912), (.str (s "is_least") 913), (.str (s "/claim/cut.py") 914), (.int (197) 0), (.int (1) 0), (.int (0) 0), (.int (0) 0), (.int (3) 0), (.ref 417), (.bool true), (.int (374) 0), (.ref 418), .none, (.ref 419), (.ref 420), (.ref 421), (.int (916) 0), (.int (197) 0), (.str (s "/claim/cut.py") 917)]), #[]⟩
noncomputable def o423 (P : Params) : Obj := ⟨(.type "function"), none, (.func (fn (hT 48) (s "is_least") (s "is_least") 3 [] .none .none .none (.str (s "likepanes.factors") 910) none (.ref 422) .none 0)), #[]⟩
noncomputable def o424 (P : Params) : Obj := ⟨(.type "tuple"), none, (.seq #[] 0), #[]⟩
noncomputable def o425 (P : Params) : Obj := ⟨.none, none, (.fields #[]), #[]⟩
noncomputable def o426 (P : Params) : Obj := ⟨(.type "tuple"), none, (.seq #[(.str (s "equation") 922), (.str (s "rest") 923), (.str (s "found") 924), (.str (s "factor") 925)] 0), #[]⟩
noncomputable def o427 (P : Params) : Obj := ⟨(.type "tuple"), none, (.seq #[] 0), #[]⟩
noncomputable def o428 (P : Params) : Obj := ⟨.none, none, (.func (fn (hT 49) (s "factors_of") (s "factors_of") 0 [] .none .none .none .none none .none .none 0)), #[]⟩
noncomputable def o429 (P : Params) : Obj := ⟨(.type "code"), none, (.fields #[(.str (s "factors_of") 919), (.str (s "factors_of") 920), (.str (s "/claim/cut.py") 921), (.int (201) 0), (.int (1) 0), (.int (0) 0), (.int (0) 0), (.int (3) 0), (.ref 424), (.bool true), (.int (374) 0), (.ref 425), .none, (.ref 426), (.ref 427), (.ref 428), (.int (926) 0), (.int (201) 0), (.str (s "/claim/cut.py") 927)]), #[]⟩
noncomputable def o430 (P : Params) : Obj := ⟨(.type "function"), none, (.func (fn (hT 49) (s "factors_of") (s "factors_of") 3 [] .none .none .none (.str (s "likepanes.factors") 910) none (.ref 429) .none 0)), #[]⟩
noncomputable def o431 (P : Params) : Obj := ⟨(.type "tuple"), none, (.seq #[] 0), #[]⟩
noncomputable def o432 (P : Params) : Obj := ⟨.none, none, (.fields #[]), #[]⟩
noncomputable def o433 (P : Params) : Obj := ⟨(.type "tuple"), none, (.seq #[(.str (s "terms") 932), (.str (s "found") 933)] 0), #[]⟩
noncomputable def o434 (P : Params) : Obj := ⟨(.type "tuple"), none, (.seq #[] 0), #[]⟩
noncomputable def o435 (P : Params) : Obj := ⟨.none, none, (.func (fn (hT 50) (s "least_factor") (s "least_factor") 0 [] .none .none .none .none none .none .none 0)), #[]⟩
noncomputable def o436 (P : Params) : Obj := ⟨(.type "code"), none, (.fields #[(.str (s "least_factor") 929), (.str (s "least_factor") 930), (.str (s "/claim/cut.py") 931), (.int (212) 0), (.int (1) 0), (.int (0) 0), (.int (0) 0), (.int (3) 0), (.ref 431), (.bool true), (.int (374) 0), (.ref 432), .none, (.ref 433), (.ref 434), (.ref 435), (.int (934) 0), (.int (212) 0), (.str (s "/claim/cut.py") 935)]), #[]⟩
noncomputable def o437 (P : Params) : Obj := ⟨(.type "function"), none, (.func (fn (hT 50) (s "least_factor") (s "least_factor") 3 [] .none .none .none (.str (s "likepanes.factors") 910) none (.ref 436) .none 0)), #[]⟩
noncomputable def o438 (P : Params) : Obj := ⟨(.type "tuple"), none, (.seq #[] 0), #[]⟩
noncomputable def o439 (P : Params) : Obj := ⟨.none, none, (.fields #[]), #[]⟩
noncomputable def o440 (P : Params) : Obj := ⟨.none, none, (.func (fn (hT 51) (s "divisors") (s "divisors") 0 [] .none .none .none .none none .none .none 0)), #[]⟩
noncomputable def o441 (P : Params) : Obj := ⟨(.type "code"), none, (.fields #[(.str (s "divisors") 937), (.str (s "divisors") 938), (.str (s "/claim/cut.py") 939), (.int (219) 0), (.int (1) 0), (.int (0) 0), (.int (0) 0), (.int (3) 0), (.ref 438), (.bool true), (.int (374) 0), (.ref 439), .none, .none, .none, (.ref 440), (.int (940) 0), (.int (219) 0), (.str (s "/claim/cut.py") 941)]), #[]⟩
noncomputable def o442 (P : Params) : Obj := ⟨(.type "function"), none, (.func (fn (hT 51) (s "divisors") (s "divisors") 3 [] .none .none .none (.str (s "likepanes.factors") 910) none (.ref 441) .none 0)), #[]⟩
noncomputable def o443 (P : Params) : Obj := ⟨(.type "tuple"), none, (.seq #[] 0), #[]⟩
noncomputable def o444 (P : Params) : Obj := ⟨.none, none, (.fields #[]), #[]⟩
noncomputable def o445 (P : Params) : Obj := ⟨(.type "tuple"), none, (.seq #[(.str (s "terms") 946), (.str (s "bottoms") 947), (.str (s "top") 948), (.str (s "bottom") 949), (.str (s "side") 950)] 0), #[]⟩
noncomputable def o446 (P : Params) : Obj := ⟨(.type "tuple"), none, (.seq #[] 0), #[]⟩
noncomputable def o447 (P : Params) : Obj := ⟨.none, none, (.func (fn (hT 52) (s "linear_factor") (s "linear_factor") 0 [] .none .none .none .none none .none .none 0)), #[]⟩
noncomputable def o448 (P : Params) : Obj := ⟨(.type "code"), none, (.fields #[(.str (s "linear_factor") 943), (.str (s "linear_factor") 944), (.str (s "/claim/cut.py") 945), (.int (221) 0), (.int (1) 0), (.int (0) 0), (.int (0) 0), (.int (3) 0), (.ref 443), (.bool true), (.int (374) 0), (.ref 444), .none, (.ref 445), (.ref 446), (.ref 447), (.int (951) 0), (.int (221) 0), (.str (s "/claim/cut.py") 952)]), #[]⟩
noncomputable def o449 (P : Params) : Obj := ⟨(.type "function"), none, (.func (fn (hT 52) (s "linear_factor") (s "linear_factor") 3 [] .none .none .none (.str (s "likepanes.factors") 910) none (.ref 448) .none 0)), #[]⟩
noncomputable def o450 (P : Params) : Obj := ⟨(.type "tuple"), none, (.seq #[] 0), #[]⟩
noncomputable def o451 (P : Params) : Obj := ⟨.none, none, (.fields #[]), #[]⟩
noncomputable def o452 (P : Params) : Obj := ⟨(.type "tuple"), none, (.seq #[(.str (s "terms") 957), (.str (s "lasts") 958), (.str (s "size") 959), (.str (s "last") 960), (.str (s "first") 961), (.str (s "middle") 962), (.str (s "factor") 963)] 0), #[]⟩
noncomputable def o453 (P : Params) : Obj := ⟨(.type "tuple"), none, (.seq #[] 0), #[]⟩
noncomputable def o454 (P : Params) : Obj := ⟨.none, none, (.func (fn (hT 53) (s "quadratic_factor") (s "quadratic_factor") 0 [] .none .none .none .none none .none .none 0)), #[]⟩
noncomputable def o455 (P : Params) : Obj := ⟨(.type "code"), none, (.fields #[(.str (s "quadratic_factor") 954), (.str (s "quadratic_factor") 955), (.str (s "/claim/cut.py") 956), (.int (233) 0), (.int (1) 0), (.int (0) 0), (.int (0) 0), (.int (3) 0), (.ref 450), (.bool true), (.int (374) 0), (.ref 451), .none, (.ref 452), (.ref 453), (.ref 454), (.int (964) 0), (.int (233) 0), (.str (s "/claim/cut.py") 965)]), #[]⟩
noncomputable def o456 (P : Params) : Obj := ⟨(.type "function"), none, (.func (fn (hT 53) (s "quadratic_factor") (s "quadratic_factor") 3 [] .none .none .none (.str (s "likepanes.factors") 910) none (.ref 455) .none 0)), #[]⟩
noncomputable def o457 (P : Params) : Obj := ⟨(.type "tuple"), none, (.seq #[] 0), #[]⟩
noncomputable def o458 (P : Params) : Obj := ⟨.none, none, (.fields #[]), #[]⟩
noncomputable def o459 (P : Params) : Obj := ⟨(.type "tuple"), none, (.seq #[(.str (s "terms") 970), (.str (s "first") 971), (.str (s "last") 972), (.str (s "lowest") 973), (.str (s "highest") 974), (.str (s "constant") 975)] 0), #[]⟩
noncomputable def o460 (P : Params) : Obj := ⟨(.type "tuple"), none, (.seq #[] 0), #[]⟩
noncomputable def o461 (P : Params) : Obj := ⟨.none, none, (.func (fn (hT 54) (s "middles") (s "middles") 0 [] .none .none .none .none none .none .none 0)), #[]⟩
noncomputable def o462 (P : Params) : Obj := ⟨(.type "code"), none, (.fields #[(.str (s "middles") 967), (.str (s "middles") 968), (.str (s "/claim/cut.py") 969), (.int (243) 0), (.int (3) 0), (.int (0) 0), (.int (0) 0), (.int (3) 0), (.ref 457), (.bool true), (.int (374) 0), (.ref 458), .none, (.ref 459), (.ref 460), (.ref 461), (.int (976) 0), (.int (243) 0), (.str (s "/claim/cut.py") 977)]), #[]⟩
noncomputable def o463 (P : Params) : Obj := ⟨(.type "function"), none, (.func (fn (hT 54) (s "middles") (s "middles") 3 [] .none .none .none (.str (s "likepanes.factors") 910) none (.ref 462) .none 0)), #[]⟩
noncomputable def o464 (P : Params) : Obj := ⟨(.type "tuple"), none, (.seq #[] 0), #[]⟩
noncomputable def o465 (P : Params) : Obj := ⟨.none, none, (.fields #[]), #[]⟩
noncomputable def o466 (P : Params) : Obj := ⟨.none, none, (.func (fn (hT 55) (s "whole_roots") (s "whole_roots") 0 [] .none .none .none .none none .none .none 0)), #[]⟩
noncomputable def o467 (P : Params) : Obj := ⟨(.type "code"), none, (.fields #[(.str (s "whole_roots") 979), (.str (s "whole_roots") 980), (.str (s "/claim/cut.py") 981), (.int (250) 0), (.int (3) 0), (.int (0) 0), (.int (0) 0), (.int (3) 0), (.ref 464), (.bool true), (.int (374) 0), (.ref 465), .none, .none, .none, (.ref 466), (.int (982) 0), (.int (250) 0), (.str (s "/claim/cut.py") 983)]), #[]⟩
noncomputable def o468 (P : Params) : Obj := ⟨(.type "function"), none, (.func (fn (hT 55) (s "whole_roots") (s "whole_roots") 3 [] .none .none .none (.str (s "likepanes.factors") 910) none (.ref 467) .none 0)), #[]⟩
noncomputable def t4 (P : Params) : BT := (n (o0 P) (n (o1 P) (n (o3_4 P) (n (o7 P) (n (o15 P) (n (o31 P) (n (o63 P) (n (o127 P) (n (o255 P) z z) (n (o383 P) z z)) (n (o191 P) (n (o319 P) z z) (n (o447 P) z z))) (n (o95 P) (n (o159 P) (n (o287 P) z z) (n (o415 P) z z)) (n (o223 P) (n (o351 P) z z) z))) (n (o47 P) (n (o79 P) (n (o143 P) (n (o271 P) z z) (n (o399 P) z z)) (n (o207 P) (n (o335 P) z z) (n (o463 P) z z))) (n (o111 P) (n (o175 P) (n (o303 P) z z) (n (o431 P) z z)) (n (o239 P) (n (o367 P) z z) z)))) (n (o23 P) (n (o39 P) (n (o71 P) (n (o135 P) (n (o263 P) z z) (n (o391 P) z z)) (n (o199 P) (n (o327 P) z z) (n (o455 P) z z))) (n (o103 P) (n (o167 P) (n (o295 P) z z) (n (o423 P) z z)) (n (o231 P) (n (o359 P) z z) z))) (n (o55 P) (n (o87 P) (n (o151 P) (n (o279 P) z z) (n (o407 P) z z)) (n (o215 P) (n (o343 P) z z) z)) (n (o119 P) (n (o183 P) (n (o311 P) z z) (n (o439 P) z z)) (n (o247 P) (n (o375 P) z z) z))))) (n (o11 P) (n (o19 P) (n (o35 P) (n (o67 P) (n (o131 P) (n (o259 P) z z) (n (o387 P) z z)) (n (o195 P) (n (o323 P) z z) (n (o451 P) z z))) (n (o99 P) (n (o163 P) (n (o291 P) z z) (n (o419 P) z z)) (n (o227 P) (n (o355 P) z z) z))) (n (o51 P) (n (o83 P) (n (o147 P) (n (o275 P) z z) (n (o403 P) z z)) (n (o211 P) (n (o339 P) z z) (n (o467 P) z z))) (n (o115 P) (n (o179_3 P) (n (o307 P) z z) (n (o435 P) z z)) (n (o243 P) (n (o371 P) z z) z)))) (n (o27 P) (n (o43 P) (n (o75 P) (n (o139 P) (n (o267 P) z z) (n (o395 P) z z)) (n (o203 P) (n (o331 P) z z) (n (o459 P) z z))) (n (o107 P) (n (o171 P) (n (o299 P) z z) (n (o427 P) z z)) (n (o235 P) (n (o363 P) z z) z))) (n (o59 P) (n (o91 P) (n (o155 P) (n (o283 P) z z) (n (o411 P) z z)) (n (o219 P) (n (o347 P) z z) z)) (n (o123 P) (n (o187 P) (n (o315 P) z z) (n (o443 P) z z)) (n (o251 P) (n (o379 P) z z) z)))))) (n (o5 P) (n (o9 P) (n (o17 P) (n (o33 P) (n (o65 P) (n (o129 P) (n (o257 P) z z) (n (o385 P) z z)) (n (o193 P) (n (o321 P) z z) (n (o449 P) z z))) (n (o97 P) (n (o161 P) (n (o289 P) z z) (n (o417 P) z z)) (n (o225 P) (n (o353 P) z z) z))) (n (o49 P) (n (o81 P) (n (o145 P) (n (o273 P) z z) (n (o401 P) z z)) (n (o209 P) (n (o337 P) z z) (n (o465 P) z z))) (n (o113 P) (n (o177 P) (n (o305 P) z z) (n (o433 P) z z)) (n (o241 P) (n (o369 P) z z) z)))) (n (o25 P) (n (o41 P) (n (o73 P) (n (o137 P) (n (o265 P) z z) (n (o393 P) z z)) (n (o201 P) (n (o329 P) z z) (n (o457 P) z z))) (n (o105 P) (n (o169 P) (n (o297 P) z z) (n (o425 P) z z)) (n (o233 P) (n (o361 P) z z) z))) (n (o57 P) (n (o89 P) (n (o153 P) (n (o281 P) z z) (n (o409 P) z z)) (n (o217 P) (n (o345 P) z z) z)) (n (o121 P) (n (o185 P) (n (o313 P) z z) (n (o441 P) z z)) (n (o249 P) (n (o377 P) z z) z))))) (n (o13 P) (n (o21 P) (n (o37 P) (n (o69 P) (n (o133 P) (n (o261 P) z z) (n (o389 P) z z)) (n (o197 P) (n (o325 P) z z) (n (o453 P) z z))) (n (o101 P) (n (o165 P) (n (o293 P) z z) (n (o421 P) z z)) (n (o229 P) (n (o357 P) z z) z))) (n (o53 P) (n (o85 P) (n (o149 P) (n (o277 P) z z) (n (o405 P) z z)) (n (o213 P) (n (o341 P) z z) z)) (n (o117 P) (n (o181 P) (n (o309 P) z z) (n (o437 P) z z)) (n (o245 P) (n (o373 P) z z) z)))) (n (o29 P) (n (o45 P) (n (o77 P) (n (o141 P) (n (o269 P) z z) (n (o397 P) z z)) (n (o205 P) (n (o333 P) z z) (n (o461 P) z z))) (n (o109 P) (n (o173 P) (n (o301 P) z z) (n (o429 P) z z)) (n (o237 P) (n (o365 P) z z) z))) (n (o61 P) (n (o93 P) (n (o157 P) (n (o285 P) z z) (n (o413 P) z z)) (n (o221 P) (n (o349 P) z z) z)) (n (o125 P) (n (o189 P) (n (o317 P) z z) (n (o445 P) z z)) (n (o253 P) (n (o381 P) z z) z))))))) (n (o2_2 P) (n (o4 P) (n (o8 P) (n (o16 P) (n (o32 P) (n (o64 P) (n (o128 P) (n (o256 P) z z) (n (o384 P) z z)) (n (o192 P) (n (o320 P) z z) (n (o448 P) z z))) (n (o96 P) (n (o160 P) (n (o288 P) z z) (n (o416 P) z z)) (n (o224 P) (n (o352 P) z z) z))) (n (o48 P) (n (o80 P) (n (o144 P) (n (o272 P) z z) (n (o400 P) z z)) (n (o208 P) (n (o336 P) z z) (n (o464 P) z z))) (n (o112 P) (n (o176 P) (n (o304 P) z z) (n (o432 P) z z)) (n (o240 P) (n (o368 P) z z) z)))) (n (o24 P) (n (o40_4 P) (n (o72 P) (n (o136 P) (n (o264 P) z z) (n (o392 P) z z)) (n (o200 P) (n (o328 P) z z) (n (o456 P) z z))) (n (o104 P) (n (o168 P) (n (o296 P) z z) (n (o424 P) z z)) (n (o232 P) (n (o360 P) z z) z))) (n (o56 P) (n (o88 P) (n (o152 P) (n (o280 P) z z) (n (o408 P) z z)) (n (o216 P) (n (o344 P) z z) z)) (n (o120 P) (n (o184 P) (n (o312 P) z z) (n (o440 P) z z)) (n (o248 P) (n (o376 P) z z) z))))) (n (o12_0 P) (n (o20 P) (n (o36 P) (n (o68 P) (n (o132 P) (n (o260 P) z z) (n (o388 P) z z)) (n (o196 P) (n (o324 P) z z) (n (o452 P) z z))) (n (o100 P) (n (o164 P) (n (o292 P) z z) (n (o420 P) z z)) (n (o228 P) (n (o356 P) z z) z))) (n (o52_2 P) (n (o84 P) (n (o148 P) (n (o276 P) z z) (n (o404 P) z z)) (n (o212 P) (n (o340 P) z z) (n (o468 P) z z))) (n (o116 P) (n (o180 P) (n (o308 P) z z) (n (o436 P) z z)) (n (o244 P) (n (o372 P) z z) z)))) (n (o28 P) (n (o44 P) (n (o76 P) (n (o140 P) (n (o268 P) z z) (n (o396 P) z z)) (n (o204 P) (n (o332 P) z z) (n (o460 P) z z))) (n (o108 P) (n (o172 P) (n (o300 P) z z) (n (o428 P) z z)) (n (o236 P) (n (o364 P) z z) z))) (n (o60 P) (n (o92 P) (n (o156 P) (n (o284 P) z z) (n (o412 P) z z)) (n (o220 P) (n (o348 P) z z) z)) (n (o124 P) (n (o188 P) (n (o316 P) z z) (n (o444 P) z z)) (n (o252 P) (n (o380 P) z z) z)))))) (n (o6 P) (n (o10 P) (n (o18 P) (n (o34 P) (n (o66 P) (n (o130 P) (n (o258 P) z z) (n (o386 P) z z)) (n (o194 P) (n (o322 P) z z) (n (o450 P) z z))) (n (o98 P) (n (o162 P) (n (o290 P) z z) (n (o418 P) z z)) (n (o226 P) (n (o354 P) z z) z))) (n (o50 P) (n (o82 P) (n (o146 P) (n (o274 P) z z) (n (o402 P) z z)) (n (o210 P) (n (o338 P) z z) (n (o466 P) z z))) (n (o114 P) (n (o178 P) (n (o306 P) z z) (n (o434 P) z z)) (n (o242 P) (n (o370 P) z z) z)))) (n (o26 P) (n (o42 P) (n (o74 P) (n (o138 P) (n (o266 P) z z) (n (o394 P) z z)) (n (o202 P) (n (o330 P) z z) (n (o458 P) z z))) (n (o106 P) (n (o170 P) (n (o298 P) z z) (n (o426 P) z z)) (n (o234 P) (n (o362 P) z z) z))) (n (o58 P) (n (o90 P) (n (o154 P) (n (o282 P) z z) (n (o410 P) z z)) (n (o218 P) (n (o346 P) z z) z)) (n (o122 P) (n (o186 P) (n (o314 P) z z) (n (o442 P) z z)) (n (o250 P) (n (o378 P) z z) z))))) (n (o14 P) (n (o22 P) (n (o38 P) (n (o70 P) (n (o134 P) (n (o262 P) z z) (n (o390 P) z z)) (n (o198 P) (n (o326 P) z z) (n (o454 P) z z))) (n (o102 P) (n (o166 P) (n (o294 P) z z) (n (o422 P) z z)) (n (o230 P) (n (o358 P) z z) z))) (n (o54 P) (n (o86 P) (n (o150 P) (n (o278 P) z z) (n (o406 P) z z)) (n (o214 P) (n (o342 P) z z) z)) (n (o118 P) (n (o182 P) (n (o310 P) z z) (n (o438 P) z z)) (n (o246 P) (n (o374 P) z z) z)))) (n (o30 P) (n (o46 P) (n (o78 P) (n (o142 P) (n (o270 P) z z) (n (o398 P) z z)) (n (o206 P) (n (o334 P) z z) (n (o462 P) z z))) (n (o110 P) (n (o174 P) (n (o302 P) z z) (n (o430 P) z z)) (n (o238 P) (n (o366 P) z z) z))) (n (o62 P) (n (o94 P) (n (o158 P) (n (o286 P) z z) (n (o414 P) z z)) (n (o222 P) (n (o350 P) z z) z)) (n (o126 P) (n (o190 P) (n (o318 P) z z) (n (o446 P) z z)) (n (o254 P) (n (o382 P) z z) z))))))))
noncomputable def X4 (w : World) (os : OsState) : SharedT := ⟨t4 w.params, 469, {}, #[], {}, 987, os⟩
noncomputable def o3_5 (P : Params) : Obj := ⟨(.type "dict"), none, (.dict #[k P "__name__" 165 (.str (s "likepanes.shapes") 985), k P "__doc__" 166 .none, k P "__package__" 167 .none, k P "__loader__" 168 (.builtin "__main__.__loader__#opaque"), k P "__spec__" 169 .none, k P "__annotations__" 170 (.ref 6), k P "__builtins__" 171 (.ref 4), k P "__file__" 173 (.str (s "/claim/cut.py") 172), k P "__cached__" 174 .none, k P "gcd" 370 (.builtin "math.gcd"), k P "isqrt" 373 (.builtin "math.isqrt"), k P "BadValue" 399 (.ref 52), k P "InvalidText" 424 (.ref 72), k P "InvalidFraction" 449 (.ref 91), k P "InvalidNumber" 474 (.ref 110), k P "InvalidScale" 499 (.ref 129), k P "NotAShape" 524 (.ref 148), k P "InvalidEquation" 549 (.ref 167), k P "NoAnswer" 569 (.ref 179), k P "NoRoot" 592 (.ref 199), k P "NoQuotient" 615 (.ref 218), k P "TooMany" 640 (.ref 237), k P "MOST_DEGREE" 642 (.int (5) 641), k P "MOST_TERM" 644 (.int (1000) 643), k P "MOST_SCALE" 648 (.int (10000000000000000000000000000000000000000) 647), k P "is_integer" 657 (.ref 246), k P "are_integers" 663 (.ref 251), k P "is_fraction" 672 (.ref 258), k P "is_below" 680 (.ref 265), k P "is_term" 687 (.ref 272), k P "wrong_term" 697 (.ref 279), k P "trimmed" 707 (.ref 286), k P "common_divisor" 716 (.ref 293), k P "primitive" 722 (.ref 298), k P "negative" 728 (.ref 303), k P "derivative" 734 (.ref 308), k P "value_at" 746 (.ref 315), k P "multiplied" 759 (.ref 322), k P "combined" 773 (.ref 329), k P "remainder" 783 (.ref 336), k P "divided" 798 (.ref 343), k P "FIRST_BITS" 802 (.int (64) 801), k P "sturm_chain" 810 (.ref 350), k P "changes" 816 (.ref 355), k P "reach" 822 (.ref 360), k P "roots_up_to" 831 (.ref 367), k P "roots_in_all" 838 (.ref 374), k P "roots_within" 849 (.ref 381), k P "rank_of_last" 857 (.ref 388), k P "stretch_of" 868 (.ref 395), k P "lonely_stretch" 881 (.ref 402), k P "refined" 893 (.ref 409), k P "guessed" 909 (.ref 416), k P "is_least" 918 (.ref 423), k P "factors_of" 928 (.ref 430), k P "least_factor" 936 (.ref 437), k P "divisors" 942 (.ref 442), k P "linear_factor" 953 (.ref 449), k P "quadratic_factor" 966 (.ref 456), k P "middles" 978 (.ref 463), k P "whole_roots" 984 (.ref 468), k P "Shape" 1094 (.ref 546), k P "check_shape" 1101 (.ref 557), k P "check_equation" 1109 (.ref 564), k P "check_stretch" 1117 (.ref 571), k P "factor_within" 1130 (.ref 578), k P "told_by" 1136 (.ref 583)] 67), #[]⟩
noncomputable def o40_5 (P : Params) : Obj := ⟨.none, none, (.fields #[(.int (3) 0), (.int (0) 0), (.ref 48), (.int (5) 0), (.int (0) 0), (.ref 61), (.int (10) 0), (.int (0) 0), (.ref 80), (.int (15) 0), (.int (0) 0), (.ref 99), (.int (20) 0), (.int (0) 0), (.ref 118), (.int (25) 0), (.int (0) 0), (.ref 137), (.int (30) 0), (.int (0) 0), (.ref 156), (.int (35) 0), (.int (0) 0), (.ref 175), (.int (37) 0), (.int (0) 0), (.ref 188), (.int (41) 0), (.int (0) 0), (.ref 207), (.int (45) 0), (.int (0) 0), (.ref 226), (.int (54) 0), (.int (0) 0), (.ref 245), (.int (56) 0), (.int (0) 0), (.ref 250), (.int (58) 0), (.int (0) 0), (.ref 257), (.int (63) 0), (.int (0) 0), (.ref 264), (.int (65) 0), (.int (0) 0), (.ref 271), (.int (67) 0), (.int (0) 0), (.ref 278), (.int (74) 0), (.int (0) 0), (.ref 285), (.int (79) 0), (.int (0) 0), (.ref 292), (.int (84) 0), (.int (0) 0), (.ref 297), (.int (87) 0), (.int (0) 0), (.ref 302), (.int (89) 0), (.int (0) 0), (.ref 307), (.int (91) 0), (.int (0) 0), (.ref 314), (.int (97) 0), (.int (0) 0), (.ref 321), (.int (103) 0), (.int (0) 0), (.ref 328), (.int (110) 0), (.int (0) 0), (.ref 335), (.int (116) 0), (.int (0) 0), (.ref 342), (.int (132) 0), (.int (0) 0), (.ref 349), (.int (138) 0), (.int (0) 0), (.ref 354), (.int (142) 0), (.int (0) 0), (.ref 359), (.int (144) 0), (.int (0) 0), (.ref 366), (.int (146) 0), (.int (0) 0), (.ref 373), (.int (148) 0), (.int (0) 0), (.ref 380), (.int (154) 0), (.int (0) 0), (.ref 387), (.int (156) 0), (.int (0) 0), (.ref 394), (.int (160) 0), (.int (0) 0), (.ref 401), (.int (172) 0), (.int (0) 0), (.ref 408), (.int (184) 0), (.int (0) 0), (.ref 415), (.int (197) 0), (.int (0) 0), (.ref 422), (.int (201) 0), (.int (0) 0), (.ref 429), (.int (212) 0), (.int (0) 0), (.ref 436), (.int (219) 0), (.int (0) 0), (.ref 441), (.int (221) 0), (.int (0) 0), (.ref 448), (.int (233) 0), (.int (0) 0), (.ref 455), (.int (243) 0), (.int (0) 0), (.ref 462), (.int (250) 0), (.int (0) 0), (.ref 467), (.int (260) 0), (.int (0) 0), (.ref 474), (.int (307) 0), (.int (0) 0), (.ref 556), (.int (310) 0), (.int (0) 0), (.ref 563), (.int (316) 0), (.int (0) 0), (.ref 570), (.int (321) 0), (.int (0) 0), (.ref 577), (.int (328) 0), (.int (0) 0), (.ref 582)]), #[]⟩
noncomputable def o469 (P : Params) : Obj := ⟨(.type "tuple"), none, (.seq #[] 0), #[]⟩
noncomputable def o470 (P : Params) : Obj := ⟨(.type "builtin_function_or_method"), none, (.fields #[(.builtin "type.__prepare__"), (.type "type")]), #[]⟩
noncomputable def o471 (P : Params) : Obj := ⟨(.type "dict"), none, (.dict #[k P "__module__" 994 (.str (s "likepanes.shapes") 985), k P "__qualname__" 996 (.str (s "Shape") 995), k P "__firstlineno__" 998 (.int (260) 997), k P "__init__" 1007 (.ref 482), k P "of" 1025 (.ref 489), k P "text" 1033 (.ref 498), k P "equation" 1041 (.ref 506), k P "degree" 1049 (.ref 514), k P "rank" 1057 (.ref 522), k P "floor_at" 1065 (.ref 529), k P "__eq__" 1073 (.ref 536), k P "__str__" 1080 (.ref 543), k P "__static_attributes__" 1086 (.ref 544)] 13), #[]⟩
noncomputable def o472 (P : Params) : Obj := ⟨(.type "tuple"), none, (.seq #[] 0), #[]⟩
noncomputable def o473 (P : Params) : Obj := ⟨.none, none, (.fields #[(.int (262) 0), (.int (4) 0), (.ref 481), (.int (271) 0), (.int (4) 0), (.ref 486), (.int (282) 0), (.int (4) 0), (.ref 496), (.int (286) 0), (.int (4) 0), (.ref 504), (.int (290) 0), (.int (4) 0), (.ref 512), (.int (294) 0), (.int (4) 0), (.ref 520), (.int (297) 0), (.int (4) 0), (.ref 528), (.int (302) 0), (.int (4) 0), (.ref 535), (.int (305) 0), (.int (4) 0), (.ref 542)]), #[]⟩
noncomputable def o474 (P : Params) : Obj := ⟨(.type "code"), none, (.fields #[(.str (s "Shape") 989), (.str (s "Shape") 990), (.str (s "/claim/cut.py") 991), (.int (260) 0), (.int (0) 0), (.int (0) 0), (.int (0) 0), (.int (0) 0), (.ref 472), (.bool false), (.int (374) 0), (.ref 473), .none, .none, .none, .none, (.int (992) 0), (.int (260) 0), (.str (s "/claim/cut.py") 993)]), #[]⟩
noncomputable def o475 (P : Params) : Obj := ⟨(.type "frame"), none, .plain, #[(some (.ref 474)), (some (.ref 3)), (some (.ref 471)), none, (some (.str (s "likepanes.shapes") 985)), none, (some (.ref 0))]⟩
noncomputable def o476 (P : Params) : Obj := ⟨(.type "tuple"), none, (.seq #[] 0), #[]⟩
noncomputable def o477 (P : Params) : Obj := ⟨.none, none, (.fields #[]), #[]⟩
noncomputable def o478 (P : Params) : Obj := ⟨(.type "tuple"), none, (.seq #[(.str (s "self") 1002), (.str (s "text") 1003), (.str (s "told") 1004)] 0), #[]⟩
noncomputable def o479 (P : Params) : Obj := ⟨(.type "tuple"), none, (.seq #[] 0), #[]⟩
noncomputable def o480 (P : Params) : Obj := ⟨.none, none, (.func (fn (L2.inClass (hT 57) 0) (s "__init__") (s "Shape.__init__") 0 [] .none .none .none .none none .none .none 0)), #[]⟩
noncomputable def o481 (P : Params) : Obj := ⟨(.type "code"), none, (.fields #[(.str (s "__init__") 999), (.str (s "Shape.__init__") 1000), (.str (s "/claim/cut.py") 1001), (.int (262) 0), (.int (2) 0), (.int (0) 0), (.int (0) 0), (.int (3) 0), (.ref 476), (.bool true), (.int (374) 0), (.ref 477), .none, (.ref 478), (.ref 479), (.ref 480), (.int (1005) 0), (.int (262) 0), (.str (s "/claim/cut.py") 1006)]), #[]⟩
noncomputable def o482 (P : Params) : Obj := ⟨(.type "function"), none, (.func (fn (L2.inClass (hT 57) 0) (s "__init__") (s "Shape.__init__") 3 [] .none .none .none (.str (s "likepanes.shapes") 985) none (.ref 481) .none 0)), #[]⟩
noncomputable def o483 (P : Params) : Obj := ⟨(.type "tuple"), none, (.seq #[] 0), #[]⟩
noncomputable def o484 (P : Params) : Obj := ⟨.none, none, (.fields #[]), #[]⟩
noncomputable def o485 (P : Params) : Obj := ⟨.none, none, (.func (fn (L2.inClass (hT 57) 1) (s "of") (s "Shape.of") 0 [] .none .none .none .none none .none .none 0)), #[]⟩
noncomputable def o486 (P : Params) : Obj := ⟨(.type "code"), none, (.fields #[(.str (s "of") 1008), (.str (s "Shape.of") 1009), (.str (s "/claim/cut.py") 1010), (.int (270) 0), (.int (3) 0), (.int (0) 0), (.int (0) 0), (.int (3) 0), (.ref 483), (.bool true), (.int (374) 0), (.ref 484), .none, .none, .none, (.ref 485), (.int (1011) 0), (.int (270) 0), (.str (s "/claim/cut.py") 1012)]), #[]⟩
noncomputable def o487 (P : Params) : Obj := ⟨(.type "function"), none, (.func (fn (L2.inClass (hT 57) 1) (s "of") (s "Shape.of") 3 [] .none .none .none (.str (s "likepanes.shapes") 985) (some 490) (.ref 486) .none 0)), #[]⟩
noncomputable def o488 (P : Params) : Obj := ⟨(.type "dict"), none, (.dict #[k P "__module__" 1014 (.str (s "likepanes.shapes") 985), k P "__name__" 1017 (.str (s "of") 1016), k P "__qualname__" 1020 (.str (s "Shape.of") 1019), k P "__doc__" 1022 .none, k P "__annotations__" 1024 (.ref 490)] 5), #[]⟩
noncomputable def o489 (P : Params) : Obj := ⟨(.type "staticmethod"), (some 488), (.fields #[(.ref 487), (.bool false)]), #[]⟩
noncomputable def o490 (P : Params) : Obj := ⟨(.type "dict"), none, (.dict #[] 0), #[]⟩
noncomputable def o491 (P : Params) : Obj := ⟨(.type "tuple"), none, (.seq #[] 0), #[]⟩
noncomputable def o492 (P : Params) : Obj := ⟨.none, none, (.fields #[]), #[]⟩
noncomputable def o493 (P : Params) : Obj := ⟨(.type "tuple"), none, (.seq #[(.str (s "self") 1029)] 0), #[]⟩
noncomputable def o494 (P : Params) : Obj := ⟨(.type "tuple"), none, (.seq #[] 0), #[]⟩
noncomputable def o495 (P : Params) : Obj := ⟨.none, none, (.func (fn (L2.inClass (hT 57) 2) (s "text") (s "Shape.text") 0 [] .none .none .none .none none .none .none 0)), #[]⟩
noncomputable def o496 (P : Params) : Obj := ⟨(.type "code"), none, (.fields #[(.str (s "text") 1026), (.str (s "Shape.text") 1027), (.str (s "/claim/cut.py") 1028), (.int (281) 0), (.int (1) 0), (.int (0) 0), (.int (0) 0), (.int (3) 0), (.ref 491), (.bool true), (.int (374) 0), (.ref 492), .none, (.ref 493), (.ref 494), (.ref 495), (.int (1030) 0), (.int (281) 0), (.str (s "/claim/cut.py") 1031)]), #[]⟩
noncomputable def o497 (P : Params) : Obj := ⟨(.type "function"), none, (.func (fn (L2.inClass (hT 57) 2) (s "text") (s "Shape.text") 3 [] .none .none .none (.str (s "likepanes.shapes") 985) none (.ref 496) .none 0)), #[]⟩
noncomputable def o498 (P : Params) : Obj := ⟨(.type "property"), none, (.fields #[(.ref 497), .none, .none, .none, (.str (s "text") 1033), (.bool false)]), #[]⟩
noncomputable def o499 (P : Params) : Obj := ⟨(.type "tuple"), none, (.seq #[] 0), #[]⟩
noncomputable def o500 (P : Params) : Obj := ⟨.none, none, (.fields #[]), #[]⟩
noncomputable def o501 (P : Params) : Obj := ⟨(.type "tuple"), none, (.seq #[(.str (s "self") 1037)] 0), #[]⟩
noncomputable def o502 (P : Params) : Obj := ⟨(.type "tuple"), none, (.seq #[] 0), #[]⟩
noncomputable def o503 (P : Params) : Obj := ⟨.none, none, (.func (fn (L2.inClass (hT 57) 3) (s "equation") (s "Shape.equation") 0 [] .none .none .none .none none .none .none 0)), #[]⟩
noncomputable def o504 (P : Params) : Obj := ⟨(.type "code"), none, (.fields #[(.str (s "equation") 1034), (.str (s "Shape.equation") 1035), (.str (s "/claim/cut.py") 1036), (.int (285) 0), (.int (1) 0), (.int (0) 0), (.int (0) 0), (.int (3) 0), (.ref 499), (.bool true), (.int (374) 0), (.ref 500), .none, (.ref 501), (.ref 502), (.ref 503), (.int (1038) 0), (.int (285) 0), (.str (s "/claim/cut.py") 1039)]), #[]⟩
noncomputable def o505 (P : Params) : Obj := ⟨(.type "function"), none, (.func (fn (L2.inClass (hT 57) 3) (s "equation") (s "Shape.equation") 3 [] .none .none .none (.str (s "likepanes.shapes") 985) none (.ref 504) .none 0)), #[]⟩
noncomputable def o506 (P : Params) : Obj := ⟨(.type "property"), none, (.fields #[(.ref 505), .none, .none, .none, (.str (s "equation") 1041), (.bool false)]), #[]⟩
noncomputable def o507 (P : Params) : Obj := ⟨(.type "tuple"), none, (.seq #[] 0), #[]⟩
noncomputable def o508 (P : Params) : Obj := ⟨.none, none, (.fields #[]), #[]⟩
noncomputable def o509 (P : Params) : Obj := ⟨(.type "tuple"), none, (.seq #[(.str (s "self") 1045)] 0), #[]⟩
noncomputable def o510 (P : Params) : Obj := ⟨(.type "tuple"), none, (.seq #[] 0), #[]⟩
noncomputable def o511 (P : Params) : Obj := ⟨.none, none, (.func (fn (L2.inClass (hT 57) 4) (s "degree") (s "Shape.degree") 0 [] .none .none .none .none none .none .none 0)), #[]⟩
noncomputable def o512 (P : Params) : Obj := ⟨(.type "code"), none, (.fields #[(.str (s "degree") 1042), (.str (s "Shape.degree") 1043), (.str (s "/claim/cut.py") 1044), (.int (289) 0), (.int (1) 0), (.int (0) 0), (.int (0) 0), (.int (3) 0), (.ref 507), (.bool true), (.int (374) 0), (.ref 508), .none, (.ref 509), (.ref 510), (.ref 511), (.int (1046) 0), (.int (289) 0), (.str (s "/claim/cut.py") 1047)]), #[]⟩
noncomputable def o513 (P : Params) : Obj := ⟨(.type "function"), none, (.func (fn (L2.inClass (hT 57) 4) (s "degree") (s "Shape.degree") 3 [] .none .none .none (.str (s "likepanes.shapes") 985) none (.ref 512) .none 0)), #[]⟩
noncomputable def o514 (P : Params) : Obj := ⟨(.type "property"), none, (.fields #[(.ref 513), .none, .none, .none, (.str (s "degree") 1049), (.bool false)]), #[]⟩
noncomputable def o515 (P : Params) : Obj := ⟨(.type "tuple"), none, (.seq #[] 0), #[]⟩
noncomputable def o516 (P : Params) : Obj := ⟨.none, none, (.fields #[]), #[]⟩
noncomputable def o517 (P : Params) : Obj := ⟨(.type "tuple"), none, (.seq #[(.str (s "self") 1053)] 0), #[]⟩
noncomputable def o518 (P : Params) : Obj := ⟨(.type "tuple"), none, (.seq #[] 0), #[]⟩
noncomputable def o519 (P : Params) : Obj := ⟨.none, none, (.func (fn (L2.inClass (hT 57) 5) (s "rank") (s "Shape.rank") 0 [] .none .none .none .none none .none .none 0)), #[]⟩
noncomputable def o520 (P : Params) : Obj := ⟨(.type "code"), none, (.fields #[(.str (s "rank") 1050), (.str (s "Shape.rank") 1051), (.str (s "/claim/cut.py") 1052), (.int (293) 0), (.int (1) 0), (.int (0) 0), (.int (0) 0), (.int (3) 0), (.ref 515), (.bool true), (.int (374) 0), (.ref 516), .none, (.ref 517), (.ref 518), (.ref 519), (.int (1054) 0), (.int (293) 0), (.str (s "/claim/cut.py") 1055)]), #[]⟩
noncomputable def o521 (P : Params) : Obj := ⟨(.type "function"), none, (.func (fn (L2.inClass (hT 57) 5) (s "rank") (s "Shape.rank") 3 [] .none .none .none (.str (s "likepanes.shapes") 985) none (.ref 520) .none 0)), #[]⟩
noncomputable def o522 (P : Params) : Obj := ⟨(.type "property"), none, (.fields #[(.ref 521), .none, .none, .none, (.str (s "rank") 1057), (.bool false)]), #[]⟩
noncomputable def o523 (P : Params) : Obj := ⟨(.type "tuple"), none, (.seq #[] 0), #[]⟩
noncomputable def o524 (P : Params) : Obj := ⟨.none, none, (.fields #[]), #[]⟩
noncomputable def o525 (P : Params) : Obj := ⟨(.type "tuple"), none, (.seq #[(.str (s "self") 1061), (.str (s "bits") 1062)] 0), #[]⟩
noncomputable def o526 (P : Params) : Obj := ⟨(.type "tuple"), none, (.seq #[] 0), #[]⟩
noncomputable def o527 (P : Params) : Obj := ⟨.none, none, (.func (fn (L2.inClass (hT 57) 6) (s "floor_at") (s "Shape.floor_at") 0 [] .none .none .none .none none .none .none 0)), #[]⟩
noncomputable def o528 (P : Params) : Obj := ⟨(.type "code"), none, (.fields #[(.str (s "floor_at") 1058), (.str (s "Shape.floor_at") 1059), (.str (s "/claim/cut.py") 1060), (.int (297) 0), (.int (2) 0), (.int (0) 0), (.int (0) 0), (.int (3) 0), (.ref 523), (.bool true), (.int (374) 0), (.ref 524), .none, (.ref 525), (.ref 526), (.ref 527), (.int (1063) 0), (.int (297) 0), (.str (s "/claim/cut.py") 1064)]), #[]⟩
noncomputable def o529 (P : Params) : Obj := ⟨(.type "function"), none, (.func (fn (L2.inClass (hT 57) 6) (s "floor_at") (s "Shape.floor_at") 3 [] .none .none .none (.str (s "likepanes.shapes") 985) none (.ref 528) .none 0)), #[]⟩
noncomputable def o530 (P : Params) : Obj := ⟨(.type "tuple"), none, (.seq #[] 0), #[]⟩
noncomputable def o531 (P : Params) : Obj := ⟨.none, none, (.fields #[]), #[]⟩
noncomputable def o532 (P : Params) : Obj := ⟨(.type "tuple"), none, (.seq #[(.str (s "self") 1069), (.str (s "other") 1070)] 0), #[]⟩
noncomputable def o533 (P : Params) : Obj := ⟨(.type "tuple"), none, (.seq #[] 0), #[]⟩
noncomputable def o534 (P : Params) : Obj := ⟨.none, none, (.func (fn (L2.inClass (hT 57) 7) (s "__eq__") (s "Shape.__eq__") 0 [] .none .none .none .none none .none .none 0)), #[]⟩
noncomputable def o535 (P : Params) : Obj := ⟨(.type "code"), none, (.fields #[(.str (s "__eq__") 1066), (.str (s "Shape.__eq__") 1067), (.str (s "/claim/cut.py") 1068), (.int (302) 0), (.int (2) 0), (.int (0) 0), (.int (0) 0), (.int (3) 0), (.ref 530), (.bool true), (.int (374) 0), (.ref 531), .none, (.ref 532), (.ref 533), (.ref 534), (.int (1071) 0), (.int (302) 0), (.str (s "/claim/cut.py") 1072)]), #[]⟩
noncomputable def o536 (P : Params) : Obj := ⟨(.type "function"), none, (.func (fn (L2.inClass (hT 57) 7) (s "__eq__") (s "Shape.__eq__") 3 [] .none .none .none (.str (s "likepanes.shapes") 985) none (.ref 535) .none 0)), #[]⟩
noncomputable def o537 (P : Params) : Obj := ⟨(.type "tuple"), none, (.seq #[] 0), #[]⟩
noncomputable def o538 (P : Params) : Obj := ⟨.none, none, (.fields #[]), #[]⟩
noncomputable def o539 (P : Params) : Obj := ⟨(.type "tuple"), none, (.seq #[(.str (s "self") 1077)] 0), #[]⟩
noncomputable def o540 (P : Params) : Obj := ⟨(.type "tuple"), none, (.seq #[] 0), #[]⟩
noncomputable def o541 (P : Params) : Obj := ⟨.none, none, (.func (fn (L2.inClass (hT 57) 8) (s "__str__") (s "Shape.__str__") 0 [] .none .none .none .none none .none .none 0)), #[]⟩
noncomputable def o542 (P : Params) : Obj := ⟨(.type "code"), none, (.fields #[(.str (s "__str__") 1074), (.str (s "Shape.__str__") 1075), (.str (s "/claim/cut.py") 1076), (.int (305) 0), (.int (1) 0), (.int (0) 0), (.int (0) 0), (.int (3) 0), (.ref 537), (.bool true), (.int (374) 0), (.ref 538), .none, (.ref 539), (.ref 540), (.ref 541), (.int (1078) 0), (.int (305) 0), (.str (s "/claim/cut.py") 1079)]), #[]⟩
noncomputable def o543 (P : Params) : Obj := ⟨(.type "function"), none, (.func (fn (L2.inClass (hT 57) 8) (s "__str__") (s "Shape.__str__") 3 [] .none .none .none (.str (s "likepanes.shapes") 985) none (.ref 542) .none 0)), #[]⟩
noncomputable def o544 (P : Params) : Obj := ⟨(.type "tuple"), none, (.seq #[(.str (s "_bits") 1081), (.str (s "_equation") 1082), (.str (s "_near") 1083), (.str (s "_rank") 1084), (.str (s "_text") 1085)] 0), #[]⟩
noncomputable def o545 (P : Params) : Obj := ⟨(.type "dict"), none, (.dict #[k P "__module__" 994 (.str (s "likepanes.shapes") 985), k P "__firstlineno__" 998 (.int (260) 997), k P "__init__" 1007 (.ref 482), k P "of" 1025 (.ref 489), k P "text" 1033 (.ref 498), k P "equation" 1041 (.ref 506), k P "degree" 1049 (.ref 514), k P "rank" 1057 (.ref 522), k P "floor_at" 1065 (.ref 529), k P "__eq__" 1073 (.ref 536), k P "__str__" 1080 (.ref 543), k P "__static_attributes__" 1086 (.ref 544), k P "__dict__" 1088 (.ref 547), k P "__weakref__" 1090 (.ref 548), k P "__doc__" 1091 .none, k P "__hash__" 1092 .none] 5), #[]⟩
noncomputable def o546 (P : Params) : Obj := ⟨(.type "type"), none, (.cls ⟨(s "Shape"), [(.type "object")], [(.ref 546), (.type "object")], 545, (s "Shape"), true, [], [], false, none, false⟩), #[none, none, (some (.str (s "Shape") 987)), (some (.str (s "Shape") 995)), (some (.builtin "object.__new__")), (some (.bool true))]⟩
noncomputable def o547 (P : Params) : Obj := ⟨(.type "getset_descriptor"), none, (.fields #[(.str (s "__dict__") 1087), (.ref 546), (.builtin "function.__dict__"), (.builtin "function.__dict__#set")]), #[]⟩
noncomputable def o548 (P : Params) : Obj := ⟨(.type "getset_descriptor"), none, (.fields #[(.str (s "__weakref__") 1089), (.ref 546), (.builtin "ExceptionGroup.__weakref__"), .none]), #[]⟩
noncomputable def o549 (P : Params) : Obj := ⟨(.type "super"), none, (.fields #[(.ref 546), (.ref 546), (.ref 546)]), #[]⟩
noncomputable def o550 (P : Params) : Obj := ⟨(.type "builtin_function_or_method"), none, (.fields #[(.builtin "object.__init_subclass__"), (.ref 546)]), #[]⟩
noncomputable def o551 (P : Params) : Obj := ⟨(.type "tuple"), none, (.seq #[] 0), #[]⟩
noncomputable def o552 (P : Params) : Obj := ⟨.none, none, (.fields #[]), #[]⟩
noncomputable def o553 (P : Params) : Obj := ⟨(.type "tuple"), none, (.seq #[(.str (s "value") 1098)] 0), #[]⟩
noncomputable def o554 (P : Params) : Obj := ⟨(.type "tuple"), none, (.seq #[] 0), #[]⟩
noncomputable def o555 (P : Params) : Obj := ⟨.none, none, (.func (fn (hT 58) (s "check_shape") (s "check_shape") 0 [] .none .none .none .none none .none .none 0)), #[]⟩
noncomputable def o556 (P : Params) : Obj := ⟨(.type "code"), none, (.fields #[(.str (s "check_shape") 1095), (.str (s "check_shape") 1096), (.str (s "/claim/cut.py") 1097), (.int (307) 0), (.int (1) 0), (.int (0) 0), (.int (0) 0), (.int (3) 0), (.ref 551), (.bool true), (.int (374) 0), (.ref 552), .none, (.ref 553), (.ref 554), (.ref 555), (.int (1099) 0), (.int (307) 0), (.str (s "/claim/cut.py") 1100)]), #[]⟩
noncomputable def o557 (P : Params) : Obj := ⟨(.type "function"), none, (.func (fn (hT 58) (s "check_shape") (s "check_shape") 3 [] .none .none .none (.str (s "likepanes.shapes") 985) none (.ref 556) .none 0)), #[]⟩
noncomputable def o558 (P : Params) : Obj := ⟨(.type "tuple"), none, (.seq #[] 0), #[]⟩
noncomputable def o559 (P : Params) : Obj := ⟨.none, none, (.fields #[]), #[]⟩
noncomputable def o560 (P : Params) : Obj := ⟨(.type "tuple"), none, (.seq #[(.str (s "value") 1105), (.str (s "wrong") 1106)] 0), #[]⟩
noncomputable def o561 (P : Params) : Obj := ⟨(.type "tuple"), none, (.seq #[] 0), #[]⟩
noncomputable def o562 (P : Params) : Obj := ⟨.none, none, (.func (fn (hT 59) (s "check_equation") (s "check_equation") 0 [] .none .none .none .none none .none .none 0)), #[]⟩
noncomputable def o563 (P : Params) : Obj := ⟨(.type "code"), none, (.fields #[(.str (s "check_equation") 1102), (.str (s "check_equation") 1103), (.str (s "/claim/cut.py") 1104), (.int (310) 0), (.int (1) 0), (.int (0) 0), (.int (0) 0), (.int (3) 0), (.ref 558), (.bool true), (.int (374) 0), (.ref 559), .none, (.ref 560), (.ref 561), (.ref 562), (.int (1107) 0), (.int (310) 0), (.str (s "/claim/cut.py") 1108)]), #[]⟩
noncomputable def o564 (P : Params) : Obj := ⟨(.type "function"), none, (.func (fn (hT 59) (s "check_equation") (s "check_equation") 3 [] .none .none .none (.str (s "likepanes.shapes") 985) none (.ref 563) .none 0)), #[]⟩
noncomputable def o565 (P : Params) : Obj := ⟨(.type "tuple"), none, (.seq #[] 0), #[]⟩
noncomputable def o566 (P : Params) : Obj := ⟨.none, none, (.fields #[]), #[]⟩
noncomputable def o567 (P : Params) : Obj := ⟨(.type "tuple"), none, (.seq #[(.str (s "low") 1113), (.str (s "high") 1114)] 0), #[]⟩
noncomputable def o568 (P : Params) : Obj := ⟨(.type "tuple"), none, (.seq #[] 0), #[]⟩
noncomputable def o569 (P : Params) : Obj := ⟨.none, none, (.func (fn (hT 60) (s "check_stretch") (s "check_stretch") 0 [] .none .none .none .none none .none .none 0)), #[]⟩
noncomputable def o570 (P : Params) : Obj := ⟨(.type "code"), none, (.fields #[(.str (s "check_stretch") 1110), (.str (s "check_stretch") 1111), (.str (s "/claim/cut.py") 1112), (.int (316) 0), (.int (2) 0), (.int (0) 0), (.int (0) 0), (.int (3) 0), (.ref 565), (.bool true), (.int (374) 0), (.ref 566), .none, (.ref 567), (.ref 568), (.ref 569), (.int (1115) 0), (.int (316) 0), (.str (s "/claim/cut.py") 1116)]), #[]⟩
noncomputable def o571 (P : Params) : Obj := ⟨(.type "function"), none, (.func (fn (hT 60) (s "check_stretch") (s "check_stretch") 3 [] .none .none .none (.str (s "likepanes.shapes") 985) none (.ref 570) .none 0)), #[]⟩
noncomputable def o572 (P : Params) : Obj := ⟨(.type "tuple"), none, (.seq #[] 0), #[]⟩
noncomputable def o573 (P : Params) : Obj := ⟨.none, none, (.fields #[]), #[]⟩
noncomputable def o574 (P : Params) : Obj := ⟨(.type "tuple"), none, (.seq #[(.str (s "equation") 1121), (.str (s "low") 1122), (.str (s "high") 1123), (.str (s "found") 1124), (.str (s "many") 1125), (.str (s "terms") 1126), (.str (s "here") 1127)] 0), #[]⟩
noncomputable def o575 (P : Params) : Obj := ⟨(.type "tuple"), none, (.seq #[] 0), #[]⟩
noncomputable def o576 (P : Params) : Obj := ⟨.none, none, (.func (fn (hT 61) (s "factor_within") (s "factor_within") 0 [] .none .none .none .none none .none .none 0)), #[]⟩
noncomputable def o577 (P : Params) : Obj := ⟨(.type "code"), none, (.fields #[(.str (s "factor_within") 1118), (.str (s "factor_within") 1119), (.str (s "/claim/cut.py") 1120), (.int (321) 0), (.int (3) 0), (.int (0) 0), (.int (0) 0), (.int (3) 0), (.ref 572), (.bool true), (.int (374) 0), (.ref 573), .none, (.ref 574), (.ref 575), (.ref 576), (.int (1128) 0), (.int (321) 0), (.str (s "/claim/cut.py") 1129)]), #[]⟩
noncomputable def o578 (P : Params) : Obj := ⟨(.type "function"), none, (.func (fn (hT 61) (s "factor_within") (s "factor_within") 3 [] .none .none .none (.str (s "likepanes.shapes") 985) none (.ref 577) .none 0)), #[]⟩
noncomputable def o579 (P : Params) : Obj := ⟨(.type "tuple"), none, (.seq #[] 0), #[]⟩
noncomputable def o580 (P : Params) : Obj := ⟨.none, none, (.fields #[]), #[]⟩
noncomputable def o581 (P : Params) : Obj := ⟨.none, none, (.func (fn (hT 62) (s "told_by") (s "told_by") 0 [] .none .none .none .none none .none .none 0)), #[]⟩
noncomputable def o582 (P : Params) : Obj := ⟨(.type "code"), none, (.fields #[(.str (s "told_by") 1131), (.str (s "told_by") 1132), (.str (s "/claim/cut.py") 1133), (.int (328) 0), (.int (1) 0), (.int (0) 0), (.int (0) 0), (.int (3) 0), (.ref 579), (.bool true), (.int (374) 0), (.ref 580), .none, .none, .none, (.ref 581), (.int (1134) 0), (.int (328) 0), (.str (s "/claim/cut.py") 1135)]), #[]⟩
noncomputable def o583 (P : Params) : Obj := ⟨(.type "function"), none, (.func (fn (hT 62) (s "told_by") (s "told_by") 3 [] .none .none .none (.str (s "likepanes.shapes") 985) none (.ref 582) .none 0)), #[]⟩
noncomputable def t5 (P : Params) : BT := (n (o0 P) (n (o1 P) (n (o3_5 P) (n (o7 P) (n (o15 P) (n (o31 P) (n (o63 P) (n (o127 P) (n (o255 P) (n (o511 P) z z) z) (n (o383 P) z z)) (n (o191 P) (n (o319 P) (n (o575 P) z z) z) (n (o447 P) z z))) (n (o95 P) (n (o159 P) (n (o287 P) (n (o543 P) z z) z) (n (o415 P) z z)) (n (o223 P) (n (o351 P) z z) (n (o479 P) z z)))) (n (o47 P) (n (o79 P) (n (o143 P) (n (o271 P) (n (o527 P) z z) z) (n (o399 P) z z)) (n (o207 P) (n (o335 P) z z) (n (o463 P) z z))) (n (o111 P) (n (o175 P) (n (o303 P) (n (o559 P) z z) z) (n (o431 P) z z)) (n (o239 P) (n (o367 P) z z) (n (o495 P) z z))))) (n (o23 P) (n (o39 P) (n (o71 P) (n (o135 P) (n (o263 P) (n (o519 P) z z) z) (n (o391 P) z z)) (n (o199 P) (n (o327 P) (n (o583 P) z z) z) (n (o455 P) z z))) (n (o103 P) (n (o167 P) (n (o295 P) (n (o551 P) z z) z) (n (o423 P) z z)) (n (o231 P) (n (o359 P) z z) (n (o487 P) z z)))) (n (o55 P) (n (o87 P) (n (o151 P) (n (o279 P) (n (o535 P) z z) z) (n (o407 P) z z)) (n (o215 P) (n (o343 P) z z) (n (o471 P) z z))) (n (o119 P) (n (o183 P) (n (o311 P) (n (o567 P) z z) z) (n (o439 P) z z)) (n (o247 P) (n (o375 P) z z) (n (o503 P) z z)))))) (n (o11 P) (n (o19 P) (n (o35 P) (n (o67 P) (n (o131 P) (n (o259 P) (n (o515 P) z z) z) (n (o387 P) z z)) (n (o195 P) (n (o323 P) (n (o579 P) z z) z) (n (o451 P) z z))) (n (o99 P) (n (o163 P) (n (o291 P) (n (o547 P) z z) z) (n (o419 P) z z)) (n (o227 P) (n (o355 P) z z) (n (o483 P) z z)))) (n (o51 P) (n (o83 P) (n (o147 P) (n (o275 P) (n (o531 P) z z) z) (n (o403 P) z z)) (n (o211 P) (n (o339 P) z z) (n (o467 P) z z))) (n (o115 P) (n (o179_3 P) (n (o307 P) (n (o563 P) z z) z) (n (o435 P) z z)) (n (o243 P) (n (o371 P) z z) (n (o499 P) z z))))) (n (o27 P) (n (o43 P) (n (o75 P) (n (o139 P) (n (o267 P) (n (o523 P) z z) z) (n (o395 P) z z)) (n (o203 P) (n (o331 P) z z) (n (o459 P) z z))) (n (o107 P) (n (o171 P) (n (o299 P) (n (o555 P) z z) z) (n (o427 P) z z)) (n (o235 P) (n (o363 P) z z) (n (o491 P) z z)))) (n (o59 P) (n (o91 P) (n (o155 P) (n (o283 P) (n (o539 P) z z) z) (n (o411 P) z z)) (n (o219 P) (n (o347 P) z z) (n (o475 P) z z))) (n (o123 P) (n (o187 P) (n (o315 P) (n (o571 P) z z) z) (n (o443 P) z z)) (n (o251 P) (n (o379 P) z z) (n (o507 P) z z))))))) (n (o5 P) (n (o9 P) (n (o17 P) (n (o33 P) (n (o65 P) (n (o129 P) (n (o257 P) (n (o513 P) z z) z) (n (o385 P) z z)) (n (o193 P) (n (o321 P) (n (o577 P) z z) z) (n (o449 P) z z))) (n (o97 P) (n (o161 P) (n (o289 P) (n (o545 P) z z) z) (n (o417 P) z z)) (n (o225 P) (n (o353 P) z z) (n (o481 P) z z)))) (n (o49 P) (n (o81 P) (n (o145 P) (n (o273 P) (n (o529 P) z z) z) (n (o401 P) z z)) (n (o209 P) (n (o337 P) z z) (n (o465 P) z z))) (n (o113 P) (n (o177 P) (n (o305 P) (n (o561 P) z z) z) (n (o433 P) z z)) (n (o241 P) (n (o369 P) z z) (n (o497 P) z z))))) (n (o25 P) (n (o41 P) (n (o73 P) (n (o137 P) (n (o265 P) (n (o521 P) z z) z) (n (o393 P) z z)) (n (o201 P) (n (o329 P) z z) (n (o457 P) z z))) (n (o105 P) (n (o169 P) (n (o297 P) (n (o553 P) z z) z) (n (o425 P) z z)) (n (o233 P) (n (o361 P) z z) (n (o489 P) z z)))) (n (o57 P) (n (o89 P) (n (o153 P) (n (o281 P) (n (o537 P) z z) z) (n (o409 P) z z)) (n (o217 P) (n (o345 P) z z) (n (o473 P) z z))) (n (o121 P) (n (o185 P) (n (o313 P) (n (o569 P) z z) z) (n (o441 P) z z)) (n (o249 P) (n (o377 P) z z) (n (o505 P) z z)))))) (n (o13 P) (n (o21 P) (n (o37 P) (n (o69 P) (n (o133 P) (n (o261 P) (n (o517 P) z z) z) (n (o389 P) z z)) (n (o197 P) (n (o325 P) (n (o581 P) z z) z) (n (o453 P) z z))) (n (o101 P) (n (o165 P) (n (o293 P) (n (o549 P) z z) z) (n (o421 P) z z)) (n (o229 P) (n (o357 P) z z) (n (o485 P) z z)))) (n (o53 P) (n (o85 P) (n (o149 P) (n (o277 P) (n (o533 P) z z) z) (n (o405 P) z z)) (n (o213 P) (n (o341 P) z z) (n (o469 P) z z))) (n (o117 P) (n (o181 P) (n (o309 P) (n (o565 P) z z) z) (n (o437 P) z z)) (n (o245 P) (n (o373 P) z z) (n (o501 P) z z))))) (n (o29 P) (n (o45 P) (n (o77 P) (n (o141 P) (n (o269 P) (n (o525 P) z z) z) (n (o397 P) z z)) (n (o205 P) (n (o333 P) z z) (n (o461 P) z z))) (n (o109 P) (n (o173 P) (n (o301 P) (n (o557 P) z z) z) (n (o429 P) z z)) (n (o237 P) (n (o365 P) z z) (n (o493 P) z z)))) (n (o61 P) (n (o93 P) (n (o157 P) (n (o285 P) (n (o541 P) z z) z) (n (o413 P) z z)) (n (o221 P) (n (o349 P) z z) (n (o477 P) z z))) (n (o125 P) (n (o189 P) (n (o317 P) (n (o573 P) z z) z) (n (o445 P) z z)) (n (o253 P) (n (o381 P) z z) (n (o509 P) z z)))))))) (n (o2_2 P) (n (o4 P) (n (o8 P) (n (o16 P) (n (o32 P) (n (o64 P) (n (o128 P) (n (o256 P) (n (o512 P) z z) z) (n (o384 P) z z)) (n (o192 P) (n (o320 P) (n (o576 P) z z) z) (n (o448 P) z z))) (n (o96 P) (n (o160 P) (n (o288 P) (n (o544 P) z z) z) (n (o416 P) z z)) (n (o224 P) (n (o352 P) z z) (n (o480 P) z z)))) (n (o48 P) (n (o80 P) (n (o144 P) (n (o272 P) (n (o528 P) z z) z) (n (o400 P) z z)) (n (o208 P) (n (o336 P) z z) (n (o464 P) z z))) (n (o112 P) (n (o176 P) (n (o304 P) (n (o560 P) z z) z) (n (o432 P) z z)) (n (o240 P) (n (o368 P) z z) (n (o496 P) z z))))) (n (o24 P) (n (o40_5 P) (n (o72 P) (n (o136 P) (n (o264 P) (n (o520 P) z z) z) (n (o392 P) z z)) (n (o200 P) (n (o328 P) z z) (n (o456 P) z z))) (n (o104 P) (n (o168 P) (n (o296 P) (n (o552 P) z z) z) (n (o424 P) z z)) (n (o232 P) (n (o360 P) z z) (n (o488 P) z z)))) (n (o56 P) (n (o88 P) (n (o152 P) (n (o280 P) (n (o536 P) z z) z) (n (o408 P) z z)) (n (o216 P) (n (o344 P) z z) (n (o472 P) z z))) (n (o120 P) (n (o184 P) (n (o312 P) (n (o568 P) z z) z) (n (o440 P) z z)) (n (o248 P) (n (o376 P) z z) (n (o504 P) z z)))))) (n (o12_0 P) (n (o20 P) (n (o36 P) (n (o68 P) (n (o132 P) (n (o260 P) (n (o516 P) z z) z) (n (o388 P) z z)) (n (o196 P) (n (o324 P) (n (o580 P) z z) z) (n (o452 P) z z))) (n (o100 P) (n (o164 P) (n (o292 P) (n (o548 P) z z) z) (n (o420 P) z z)) (n (o228 P) (n (o356 P) z z) (n (o484 P) z z)))) (n (o52_2 P) (n (o84 P) (n (o148 P) (n (o276 P) (n (o532 P) z z) z) (n (o404 P) z z)) (n (o212 P) (n (o340 P) z z) (n (o468 P) z z))) (n (o116 P) (n (o180 P) (n (o308 P) (n (o564 P) z z) z) (n (o436 P) z z)) (n (o244 P) (n (o372 P) z z) (n (o500 P) z z))))) (n (o28 P) (n (o44 P) (n (o76 P) (n (o140 P) (n (o268 P) (n (o524 P) z z) z) (n (o396 P) z z)) (n (o204 P) (n (o332 P) z z) (n (o460 P) z z))) (n (o108 P) (n (o172 P) (n (o300 P) (n (o556 P) z z) z) (n (o428 P) z z)) (n (o236 P) (n (o364 P) z z) (n (o492 P) z z)))) (n (o60 P) (n (o92 P) (n (o156 P) (n (o284 P) (n (o540 P) z z) z) (n (o412 P) z z)) (n (o220 P) (n (o348 P) z z) (n (o476 P) z z))) (n (o124 P) (n (o188 P) (n (o316 P) (n (o572 P) z z) z) (n (o444 P) z z)) (n (o252 P) (n (o380 P) z z) (n (o508 P) z z))))))) (n (o6 P) (n (o10 P) (n (o18 P) (n (o34 P) (n (o66 P) (n (o130 P) (n (o258 P) (n (o514 P) z z) z) (n (o386 P) z z)) (n (o194 P) (n (o322 P) (n (o578 P) z z) z) (n (o450 P) z z))) (n (o98 P) (n (o162 P) (n (o290 P) (n (o546 P) z z) z) (n (o418 P) z z)) (n (o226 P) (n (o354 P) z z) (n (o482 P) z z)))) (n (o50 P) (n (o82 P) (n (o146 P) (n (o274 P) (n (o530 P) z z) z) (n (o402 P) z z)) (n (o210 P) (n (o338 P) z z) (n (o466 P) z z))) (n (o114 P) (n (o178 P) (n (o306 P) (n (o562 P) z z) z) (n (o434 P) z z)) (n (o242 P) (n (o370 P) z z) (n (o498 P) z z))))) (n (o26 P) (n (o42 P) (n (o74 P) (n (o138 P) (n (o266 P) (n (o522 P) z z) z) (n (o394 P) z z)) (n (o202 P) (n (o330 P) z z) (n (o458 P) z z))) (n (o106 P) (n (o170 P) (n (o298 P) (n (o554 P) z z) z) (n (o426 P) z z)) (n (o234 P) (n (o362 P) z z) (n (o490 P) z z)))) (n (o58 P) (n (o90 P) (n (o154 P) (n (o282 P) (n (o538 P) z z) z) (n (o410 P) z z)) (n (o218 P) (n (o346 P) z z) (n (o474 P) z z))) (n (o122 P) (n (o186 P) (n (o314 P) (n (o570 P) z z) z) (n (o442 P) z z)) (n (o250 P) (n (o378 P) z z) (n (o506 P) z z)))))) (n (o14 P) (n (o22 P) (n (o38 P) (n (o70 P) (n (o134 P) (n (o262 P) (n (o518 P) z z) z) (n (o390 P) z z)) (n (o198 P) (n (o326 P) (n (o582 P) z z) z) (n (o454 P) z z))) (n (o102 P) (n (o166 P) (n (o294 P) (n (o550 P) z z) z) (n (o422 P) z z)) (n (o230 P) (n (o358 P) z z) (n (o486 P) z z)))) (n (o54 P) (n (o86 P) (n (o150 P) (n (o278 P) (n (o534 P) z z) z) (n (o406 P) z z)) (n (o214 P) (n (o342 P) z z) (n (o470 P) z z))) (n (o118 P) (n (o182 P) (n (o310 P) (n (o566 P) z z) z) (n (o438 P) z z)) (n (o246 P) (n (o374 P) z z) (n (o502 P) z z))))) (n (o30 P) (n (o46 P) (n (o78 P) (n (o142 P) (n (o270 P) (n (o526 P) z z) z) (n (o398 P) z z)) (n (o206 P) (n (o334 P) z z) (n (o462 P) z z))) (n (o110 P) (n (o174 P) (n (o302 P) (n (o558 P) z z) z) (n (o430 P) z z)) (n (o238 P) (n (o366 P) z z) (n (o494 P) z z)))) (n (o62 P) (n (o94 P) (n (o158 P) (n (o286 P) (n (o542 P) z z) z) (n (o414 P) z z)) (n (o222 P) (n (o350 P) z z) (n (o478 P) z z))) (n (o126 P) (n (o190 P) (n (o318 P) (n (o574 P) z z) z) (n (o446 P) z z)) (n (o254 P) (n (o382 P) z z) (n (o510 P) z z)))))))))
noncomputable def X5 (w : World) (os : OsState) : SharedT := ⟨t5 w.params, 584, {}, #[], {}, 1137, os⟩
noncomputable def o3_6 (P : Params) : Obj := ⟨(.type "dict"), none, (.dict #[k P "__name__" 165 (.str (s "law_likepanes_k29_whole_numbers_of_both_root") 1260), k P "__doc__" 166 .none, k P "__package__" 167 .none, k P "__loader__" 168 (.builtin "__main__.__loader__#opaque"), k P "__spec__" 169 .none, k P "__annotations__" 170 (.ref 6), k P "__builtins__" 171 (.ref 4), k P "__file__" 173 (.str (s "/claim/cut.py") 172), k P "__cached__" 174 .none, k P "gcd" 370 (.builtin "math.gcd"), k P "isqrt" 373 (.builtin "math.isqrt"), k P "BadValue" 399 (.ref 52), k P "InvalidText" 424 (.ref 72), k P "InvalidFraction" 449 (.ref 91), k P "InvalidNumber" 474 (.ref 110), k P "InvalidScale" 499 (.ref 129), k P "NotAShape" 524 (.ref 148), k P "InvalidEquation" 549 (.ref 167), k P "NoAnswer" 569 (.ref 179), k P "NoRoot" 592 (.ref 199), k P "NoQuotient" 615 (.ref 218), k P "TooMany" 640 (.ref 237), k P "MOST_DEGREE" 642 (.int (5) 641), k P "MOST_TERM" 644 (.int (1000) 643), k P "MOST_SCALE" 648 (.int (10000000000000000000000000000000000000000) 647), k P "is_integer" 657 (.ref 246), k P "are_integers" 663 (.ref 251), k P "is_fraction" 672 (.ref 258), k P "is_below" 680 (.ref 265), k P "is_term" 687 (.ref 272), k P "wrong_term" 697 (.ref 279), k P "trimmed" 707 (.ref 286), k P "common_divisor" 716 (.ref 293), k P "primitive" 722 (.ref 298), k P "negative" 728 (.ref 303), k P "derivative" 734 (.ref 308), k P "value_at" 746 (.ref 315), k P "multiplied" 759 (.ref 322), k P "combined" 773 (.ref 329), k P "remainder" 783 (.ref 336), k P "divided" 798 (.ref 343), k P "FIRST_BITS" 802 (.int (64) 801), k P "sturm_chain" 810 (.ref 350), k P "changes" 816 (.ref 355), k P "reach" 822 (.ref 360), k P "roots_up_to" 831 (.ref 367), k P "roots_in_all" 838 (.ref 374), k P "roots_within" 849 (.ref 381), k P "rank_of_last" 857 (.ref 388), k P "stretch_of" 868 (.ref 395), k P "lonely_stretch" 881 (.ref 402), k P "refined" 893 (.ref 409), k P "guessed" 909 (.ref 416), k P "is_least" 918 (.ref 423), k P "factors_of" 928 (.ref 430), k P "least_factor" 936 (.ref 437), k P "divisors" 942 (.ref 442), k P "linear_factor" 953 (.ref 449), k P "quadratic_factor" 966 (.ref 456), k P "middles" 978 (.ref 463), k P "whole_roots" 984 (.ref 468), k P "Shape" 1094 (.ref 546), k P "check_shape" 1101 (.ref 557), k P "check_equation" 1109 (.ref 564), k P "check_stretch" 1117 (.ref 571), k P "factor_within" 1130 (.ref 578), k P "told_by" 1136 (.ref 583), k P "integer_of" 1144 (.ref 590), k P "text_of" 1150 (.ref 595), k P "total" 1161 (.ref 602), k P "product" 1170 (.ref 609), k P "quotient" 1182 (.ref 616), k P "opposite" 1190 (.ref 623), k P "sign" 1201 (.ref 630), k P "floor_of" 1215 (.ref 637), k P "is_number" 1223 (.ref 644), k P "check_number" 1231 (.ref 651), k P "lowest" 1237 (.ref 656), k P "folded" 1247 (.ref 663), k P "reciprocal" 1253 (.ref 668), k P "ends" 1259 (.ref 673), k P "_law_rack" 1272 (.ref 680), k P "_law_pick" 1281 (.ref 687), k P "_law_common" 1292 (.ref 694), k P "_law_square" 1303 (.ref 701), k P "_law_two_roots" 1309 (.ref 706), k P "_law_one_root" 1315 (.ref 711), k P "_law_equation" 1326 (.ref 718), k P "_law_shape" 1334 (.ref 725), k P "_law_number" 1340 (.ref 730), k P "_law_turned" 1351 (.ref 737), k P "_law_right" 1357 (.ref 742), k P "law" 1363 (.ref 747)] 93), #[]⟩
noncomputable def o40_6 (P : Params) : Obj := ⟨.none, none, (.fields #[(.int (3) 0), (.int (0) 0), (.ref 48), (.int (5) 0), (.int (0) 0), (.ref 61), (.int (10) 0), (.int (0) 0), (.ref 80), (.int (15) 0), (.int (0) 0), (.ref 99), (.int (20) 0), (.int (0) 0), (.ref 118), (.int (25) 0), (.int (0) 0), (.ref 137), (.int (30) 0), (.int (0) 0), (.ref 156), (.int (35) 0), (.int (0) 0), (.ref 175), (.int (37) 0), (.int (0) 0), (.ref 188), (.int (41) 0), (.int (0) 0), (.ref 207), (.int (45) 0), (.int (0) 0), (.ref 226), (.int (54) 0), (.int (0) 0), (.ref 245), (.int (56) 0), (.int (0) 0), (.ref 250), (.int (58) 0), (.int (0) 0), (.ref 257), (.int (63) 0), (.int (0) 0), (.ref 264), (.int (65) 0), (.int (0) 0), (.ref 271), (.int (67) 0), (.int (0) 0), (.ref 278), (.int (74) 0), (.int (0) 0), (.ref 285), (.int (79) 0), (.int (0) 0), (.ref 292), (.int (84) 0), (.int (0) 0), (.ref 297), (.int (87) 0), (.int (0) 0), (.ref 302), (.int (89) 0), (.int (0) 0), (.ref 307), (.int (91) 0), (.int (0) 0), (.ref 314), (.int (97) 0), (.int (0) 0), (.ref 321), (.int (103) 0), (.int (0) 0), (.ref 328), (.int (110) 0), (.int (0) 0), (.ref 335), (.int (116) 0), (.int (0) 0), (.ref 342), (.int (132) 0), (.int (0) 0), (.ref 349), (.int (138) 0), (.int (0) 0), (.ref 354), (.int (142) 0), (.int (0) 0), (.ref 359), (.int (144) 0), (.int (0) 0), (.ref 366), (.int (146) 0), (.int (0) 0), (.ref 373), (.int (148) 0), (.int (0) 0), (.ref 380), (.int (154) 0), (.int (0) 0), (.ref 387), (.int (156) 0), (.int (0) 0), (.ref 394), (.int (160) 0), (.int (0) 0), (.ref 401), (.int (172) 0), (.int (0) 0), (.ref 408), (.int (184) 0), (.int (0) 0), (.ref 415), (.int (197) 0), (.int (0) 0), (.ref 422), (.int (201) 0), (.int (0) 0), (.ref 429), (.int (212) 0), (.int (0) 0), (.ref 436), (.int (219) 0), (.int (0) 0), (.ref 441), (.int (221) 0), (.int (0) 0), (.ref 448), (.int (233) 0), (.int (0) 0), (.ref 455), (.int (243) 0), (.int (0) 0), (.ref 462), (.int (250) 0), (.int (0) 0), (.ref 467), (.int (260) 0), (.int (0) 0), (.ref 474), (.int (307) 0), (.int (0) 0), (.ref 556), (.int (310) 0), (.int (0) 0), (.ref 563), (.int (316) 0), (.int (0) 0), (.ref 570), (.int (321) 0), (.int (0) 0), (.ref 577), (.int (328) 0), (.int (0) 0), (.ref 582), (.int (339) 0), (.int (0) 0), (.ref 589), (.int (344) 0), (.int (0) 0), (.ref 594), (.int (348) 0), (.int (0) 0), (.ref 601), (.int (353) 0), (.int (0) 0), (.ref 608), (.int (358) 0), (.int (0) 0), (.ref 615), (.int (368) 0), (.int (0) 0), (.ref 622), (.int (372) 0), (.int (0) 0), (.ref 629), (.int (383) 0), (.int (0) 0), (.ref 636), (.int (396) 0), (.int (0) 0), (.ref 643), (.int (400) 0), (.int (0) 0), (.ref 650), (.int (403) 0), (.int (0) 0), (.ref 655), (.int (409) 0), (.int (0) 0), (.ref 662), (.int (415) 0), (.int (0) 0), (.ref 667), (.int (427) 0), (.int (0) 0), (.ref 672), (.int (435) 0), (.int (0) 0), (.ref 679), (.int (440) 0), (.int (0) 0), (.ref 686), (.int (447) 0), (.int (0) 0), (.ref 693), (.int (456) 0), (.int (0) 0), (.ref 700), (.int (464) 0), (.int (0) 0), (.ref 705), (.int (471) 0), (.int (0) 0), (.ref 710), (.int (483) 0), (.int (0) 0), (.ref 717), (.int (490) 0), (.int (0) 0), (.ref 724), (.int (492) 0), (.int (0) 0), (.ref 729), (.int (498) 0), (.int (0) 0), (.ref 736), (.int (501) 0), (.int (0) 0), (.ref 741), (.int (524) 0), (.int (0) 0), (.ref 746)]), #[]⟩
noncomputable def o584 (P : Params) : Obj := ⟨(.type "tuple"), none, (.seq #[] 0), #[]⟩
noncomputable def o585 (P : Params) : Obj := ⟨.none, none, (.fields #[]), #[]⟩
noncomputable def o586 (P : Params) : Obj := ⟨(.type "tuple"), none, (.seq #[(.str (s "word") 1140), (.str (s "digits") 1141)] 0), #[]⟩
noncomputable def o587 (P : Params) : Obj := ⟨(.type "tuple"), none, (.seq #[] 0), #[]⟩
noncomputable def o588 (P : Params) : Obj := ⟨.none, none, (.func (fn (hT 63) (s "integer_of") (s "integer_of") 0 [] .none .none .none .none none .none .none 0)), #[]⟩
noncomputable def o589 (P : Params) : Obj := ⟨(.type "code"), none, (.fields #[(.str (s "integer_of") 1137), (.str (s "integer_of") 1138), (.str (s "/claim/cut.py") 1139), (.int (339) 0), (.int (1) 0), (.int (0) 0), (.int (0) 0), (.int (3) 0), (.ref 584), (.bool true), (.int (374) 0), (.ref 585), .none, (.ref 586), (.ref 587), (.ref 588), (.int (1142) 0), (.int (339) 0), (.str (s "/claim/cut.py") 1143)]), #[]⟩
noncomputable def o590 (P : Params) : Obj := ⟨(.type "function"), none, (.func (fn (hT 63) (s "integer_of") (s "integer_of") 3 [] .none .none .none (.str (s "likepanes.shapes") 985) none (.ref 589) .none 0)), #[]⟩
noncomputable def o591 (P : Params) : Obj := ⟨(.type "tuple"), none, (.seq #[] 0), #[]⟩
noncomputable def o592 (P : Params) : Obj := ⟨.none, none, (.fields #[]), #[]⟩
noncomputable def o593 (P : Params) : Obj := ⟨.none, none, (.func (fn (hT 64) (s "text_of") (s "text_of") 0 [] .none .none .none .none none .none .none 0)), #[]⟩
noncomputable def o594 (P : Params) : Obj := ⟨(.type "code"), none, (.fields #[(.str (s "text_of") 1145), (.str (s "text_of") 1146), (.str (s "/claim/cut.py") 1147), (.int (344) 0), (.int (2) 0), (.int (0) 0), (.int (0) 0), (.int (3) 0), (.ref 591), (.bool true), (.int (374) 0), (.ref 592), .none, .none, .none, (.ref 593), (.int (1148) 0), (.int (344) 0), (.str (s "/claim/cut.py") 1149)]), #[]⟩
noncomputable def o595 (P : Params) : Obj := ⟨(.type "function"), none, (.func (fn (hT 64) (s "text_of") (s "text_of") 3 [] .none .none .none (.str (s "likepanes.shapes") 985) none (.ref 594) .none 0)), #[]⟩
noncomputable def o596 (P : Params) : Obj := ⟨(.type "tuple"), none, (.seq #[] 0), #[]⟩
noncomputable def o597 (P : Params) : Obj := ⟨.none, none, (.fields #[]), #[]⟩
noncomputable def o598 (P : Params) : Obj := ⟨(.type "tuple"), none, (.seq #[(.str (s "shape") 1156), (.str (s "first") 1157), (.str (s "second") 1158)] 0), #[]⟩
noncomputable def o599 (P : Params) : Obj := ⟨(.type "tuple"), none, (.seq #[] 0), #[]⟩
noncomputable def o600 (P : Params) : Obj := ⟨.none, none, (.func (fn (hT 66) (s "total") (s "total") 0 [] .none .none .none .none none .none .none 0)), #[]⟩
noncomputable def o601 (P : Params) : Obj := ⟨(.type "code"), none, (.fields #[(.str (s "total") 1153), (.str (s "total") 1154), (.str (s "/claim/cut.py") 1155), (.int (348) 0), (.int (3) 0), (.int (0) 0), (.int (0) 0), (.int (3) 0), (.ref 596), (.bool true), (.int (374) 0), (.ref 597), .none, (.ref 598), (.ref 599), (.ref 600), (.int (1159) 0), (.int (348) 0), (.str (s "/claim/cut.py") 1160)]), #[]⟩
noncomputable def o602 (P : Params) : Obj := ⟨(.type "function"), none, (.func (fn (hT 66) (s "total") (s "total") 3 [] .none .none .none (.str (s "likepanes.numbers") 1151) none (.ref 601) .none 0)), #[]⟩
noncomputable def o603 (P : Params) : Obj := ⟨(.type "tuple"), none, (.seq #[] 0), #[]⟩
noncomputable def o604 (P : Params) : Obj := ⟨.none, none, (.fields #[]), #[]⟩
noncomputable def o605 (P : Params) : Obj := ⟨(.type "tuple"), none, (.seq #[(.str (s "shape") 1165), (.str (s "first") 1166), (.str (s "second") 1167)] 0), #[]⟩
noncomputable def o606 (P : Params) : Obj := ⟨(.type "tuple"), none, (.seq #[] 0), #[]⟩
noncomputable def o607 (P : Params) : Obj := ⟨.none, none, (.func (fn (hT 67) (s "product") (s "product") 0 [] .none .none .none .none none .none .none 0)), #[]⟩
noncomputable def o608 (P : Params) : Obj := ⟨(.type "code"), none, (.fields #[(.str (s "product") 1162), (.str (s "product") 1163), (.str (s "/claim/cut.py") 1164), (.int (353) 0), (.int (3) 0), (.int (0) 0), (.int (0) 0), (.int (3) 0), (.ref 603), (.bool true), (.int (374) 0), (.ref 604), .none, (.ref 605), (.ref 606), (.ref 607), (.int (1168) 0), (.int (353) 0), (.str (s "/claim/cut.py") 1169)]), #[]⟩
noncomputable def o609 (P : Params) : Obj := ⟨(.type "function"), none, (.func (fn (hT 67) (s "product") (s "product") 3 [] .none .none .none (.str (s "likepanes.numbers") 1151) none (.ref 608) .none 0)), #[]⟩
noncomputable def o610 (P : Params) : Obj := ⟨(.type "tuple"), none, (.seq #[] 0), #[]⟩
noncomputable def o611 (P : Params) : Obj := ⟨.none, none, (.fields #[]), #[]⟩
noncomputable def o612 (P : Params) : Obj := ⟨(.type "tuple"), none, (.seq #[(.str (s "shape") 1174), (.str (s "first") 1175), (.str (s "second") 1176), (.str (s "divisor") 1177), (.str (s "terms") 1178), (.str (s "bottom") 1179)] 0), #[]⟩
noncomputable def o613 (P : Params) : Obj := ⟨(.type "tuple"), none, (.seq #[] 0), #[]⟩
noncomputable def o614 (P : Params) : Obj := ⟨.none, none, (.func (fn (hT 68) (s "quotient") (s "quotient") 0 [] .none .none .none .none none .none .none 0)), #[]⟩
noncomputable def o615 (P : Params) : Obj := ⟨(.type "code"), none, (.fields #[(.str (s "quotient") 1171), (.str (s "quotient") 1172), (.str (s "/claim/cut.py") 1173), (.int (358) 0), (.int (3) 0), (.int (0) 0), (.int (0) 0), (.int (3) 0), (.ref 610), (.bool true), (.int (374) 0), (.ref 611), .none, (.ref 612), (.ref 613), (.ref 614), (.int (1180) 0), (.int (358) 0), (.str (s "/claim/cut.py") 1181)]), #[]⟩
noncomputable def o616 (P : Params) : Obj := ⟨(.type "function"), none, (.func (fn (hT 68) (s "quotient") (s "quotient") 3 [] .none .none .none (.str (s "likepanes.numbers") 1151) none (.ref 615) .none 0)), #[]⟩
noncomputable def o617 (P : Params) : Obj := ⟨(.type "tuple"), none, (.seq #[] 0), #[]⟩
noncomputable def o618 (P : Params) : Obj := ⟨.none, none, (.fields #[]), #[]⟩
noncomputable def o619 (P : Params) : Obj := ⟨(.type "tuple"), none, (.seq #[(.str (s "shape") 1186), (.str (s "number") 1187)] 0), #[]⟩
noncomputable def o620 (P : Params) : Obj := ⟨(.type "tuple"), none, (.seq #[] 0), #[]⟩
noncomputable def o621 (P : Params) : Obj := ⟨.none, none, (.func (fn (hT 69) (s "opposite") (s "opposite") 0 [] .none .none .none .none none .none .none 0)), #[]⟩
noncomputable def o622 (P : Params) : Obj := ⟨(.type "code"), none, (.fields #[(.str (s "opposite") 1183), (.str (s "opposite") 1184), (.str (s "/claim/cut.py") 1185), (.int (368) 0), (.int (2) 0), (.int (0) 0), (.int (0) 0), (.int (3) 0), (.ref 617), (.bool true), (.int (374) 0), (.ref 618), .none, (.ref 619), (.ref 620), (.ref 621), (.int (1188) 0), (.int (368) 0), (.str (s "/claim/cut.py") 1189)]), #[]⟩
noncomputable def o623 (P : Params) : Obj := ⟨(.type "function"), none, (.func (fn (hT 69) (s "opposite") (s "opposite") 3 [] .none .none .none (.str (s "likepanes.numbers") 1151) none (.ref 622) .none 0)), #[]⟩
noncomputable def o624 (P : Params) : Obj := ⟨(.type "tuple"), none, (.seq #[] 0), #[]⟩
noncomputable def o625 (P : Params) : Obj := ⟨.none, none, (.fields #[]), #[]⟩
noncomputable def o626 (P : Params) : Obj := ⟨(.type "tuple"), none, (.seq #[(.str (s "shape") 1194), (.str (s "number") 1195), (.str (s "bits") 1196), (.str (s "low") 1197), (.str (s "high") 1198)] 0), #[]⟩
noncomputable def o627 (P : Params) : Obj := ⟨(.type "tuple"), none, (.seq #[] 0), #[]⟩
noncomputable def o628 (P : Params) : Obj := ⟨.none, none, (.func (fn (hT 70) (s "sign") (s "sign") 0 [] .none .none .none .none none .none .none 0)), #[]⟩
noncomputable def o629 (P : Params) : Obj := ⟨(.type "code"), none, (.fields #[(.str (s "sign") 1191), (.str (s "sign") 1192), (.str (s "/claim/cut.py") 1193), (.int (372) 0), (.int (2) 0), (.int (0) 0), (.int (0) 0), (.int (3) 0), (.ref 624), (.bool true), (.int (374) 0), (.ref 625), .none, (.ref 626), (.ref 627), (.ref 628), (.int (1199) 0), (.int (372) 0), (.str (s "/claim/cut.py") 1200)]), #[]⟩
noncomputable def o630 (P : Params) : Obj := ⟨(.type "function"), none, (.func (fn (hT 70) (s "sign") (s "sign") 3 [] .none .none .none (.str (s "likepanes.numbers") 1151) none (.ref 629) .none 0)), #[]⟩
noncomputable def o631 (P : Params) : Obj := ⟨(.type "tuple"), none, (.seq #[] 0), #[]⟩
noncomputable def o632 (P : Params) : Obj := ⟨.none, none, (.fields #[]), #[]⟩
noncomputable def o633 (P : Params) : Obj := ⟨(.type "tuple"), none, (.seq #[(.str (s "shape") 1205), (.str (s "number") 1206), (.str (s "scale") 1207), (.str (s "bits") 1208), (.str (s "low") 1209), (.str (s "high") 1210), (.str (s "bottom") 1211), (.str (s "least") 1212)] 0), #[]⟩
noncomputable def o634 (P : Params) : Obj := ⟨(.type "tuple"), none, (.seq #[] 0), #[]⟩
noncomputable def o635 (P : Params) : Obj := ⟨.none, none, (.func (fn (hT 71) (s "floor_of") (s "floor_of") 0 [] .none .none .none .none none .none .none 0)), #[]⟩
noncomputable def o636 (P : Params) : Obj := ⟨(.type "code"), none, (.fields #[(.str (s "floor_of") 1202), (.str (s "floor_of") 1203), (.str (s "/claim/cut.py") 1204), (.int (383) 0), (.int (3) 0), (.int (0) 0), (.int (0) 0), (.int (3) 0), (.ref 631), (.bool true), (.int (374) 0), (.ref 632), .none, (.ref 633), (.ref 634), (.ref 635), (.int (1213) 0), (.int (383) 0), (.str (s "/claim/cut.py") 1214)]), #[]⟩
noncomputable def o637 (P : Params) : Obj := ⟨(.type "function"), none, (.func (fn (hT 71) (s "floor_of") (s "floor_of") 3 [] .none .none .none (.str (s "likepanes.numbers") 1151) none (.ref 636) .none 0)), #[]⟩
noncomputable def o638 (P : Params) : Obj := ⟨(.type "tuple"), none, (.seq #[] 0), #[]⟩
noncomputable def o639 (P : Params) : Obj := ⟨.none, none, (.fields #[]), #[]⟩
noncomputable def o640 (P : Params) : Obj := ⟨(.type "tuple"), none, (.seq #[(.str (s "shape") 1219), (.str (s "value") 1220)] 0), #[]⟩
noncomputable def o641 (P : Params) : Obj := ⟨(.type "tuple"), none, (.seq #[] 0), #[]⟩
noncomputable def o642 (P : Params) : Obj := ⟨.none, none, (.func (fn (hT 72) (s "is_number") (s "is_number") 0 [] .none .none .none .none none .none .none 0)), #[]⟩
noncomputable def o643 (P : Params) : Obj := ⟨(.type "code"), none, (.fields #[(.str (s "is_number") 1216), (.str (s "is_number") 1217), (.str (s "/claim/cut.py") 1218), (.int (396) 0), (.int (2) 0), (.int (0) 0), (.int (0) 0), (.int (3) 0), (.ref 638), (.bool true), (.int (374) 0), (.ref 639), .none, (.ref 640), (.ref 641), (.ref 642), (.int (1221) 0), (.int (396) 0), (.str (s "/claim/cut.py") 1222)]), #[]⟩
noncomputable def o644 (P : Params) : Obj := ⟨(.type "function"), none, (.func (fn (hT 72) (s "is_number") (s "is_number") 3 [] .none .none .none (.str (s "likepanes.numbers") 1151) none (.ref 643) .none 0)), #[]⟩
noncomputable def o645 (P : Params) : Obj := ⟨(.type "tuple"), none, (.seq #[] 0), #[]⟩
noncomputable def o646 (P : Params) : Obj := ⟨.none, none, (.fields #[]), #[]⟩
noncomputable def o647 (P : Params) : Obj := ⟨(.type "tuple"), none, (.seq #[(.str (s "shape") 1227), (.str (s "value") 1228)] 0), #[]⟩
noncomputable def o648 (P : Params) : Obj := ⟨(.type "tuple"), none, (.seq #[] 0), #[]⟩
noncomputable def o649 (P : Params) : Obj := ⟨.none, none, (.func (fn (hT 73) (s "check_number") (s "check_number") 0 [] .none .none .none .none none .none .none 0)), #[]⟩
noncomputable def o650 (P : Params) : Obj := ⟨(.type "code"), none, (.fields #[(.str (s "check_number") 1224), (.str (s "check_number") 1225), (.str (s "/claim/cut.py") 1226), (.int (400) 0), (.int (2) 0), (.int (0) 0), (.int (0) 0), (.int (3) 0), (.ref 645), (.bool true), (.int (374) 0), (.ref 646), .none, (.ref 647), (.ref 648), (.ref 649), (.int (1229) 0), (.int (400) 0), (.str (s "/claim/cut.py") 1230)]), #[]⟩
noncomputable def o651 (P : Params) : Obj := ⟨(.type "function"), none, (.func (fn (hT 73) (s "check_number") (s "check_number") 3 [] .none .none .none (.str (s "likepanes.numbers") 1151) none (.ref 650) .none 0)), #[]⟩
noncomputable def o652 (P : Params) : Obj := ⟨(.type "tuple"), none, (.seq #[] 0), #[]⟩
noncomputable def o653 (P : Params) : Obj := ⟨.none, none, (.fields #[]), #[]⟩
noncomputable def o654 (P : Params) : Obj := ⟨.none, none, (.func (fn (hT 74) (s "lowest") (s "lowest") 0 [] .none .none .none .none none .none .none 0)), #[]⟩
noncomputable def o655 (P : Params) : Obj := ⟨(.type "code"), none, (.fields #[(.str (s "lowest") 1232), (.str (s "lowest") 1233), (.str (s "/claim/cut.py") 1234), (.int (403) 0), (.int (3) 0), (.int (0) 0), (.int (0) 0), (.int (3) 0), (.ref 652), (.bool true), (.int (374) 0), (.ref 653), .none, .none, .none, (.ref 654), (.int (1235) 0), (.int (403) 0), (.str (s "/claim/cut.py") 1236)]), #[]⟩
noncomputable def o656 (P : Params) : Obj := ⟨(.type "function"), none, (.func (fn (hT 74) (s "lowest") (s "lowest") 3 [] .none .none .none (.str (s "likepanes.numbers") 1151) none (.ref 655) .none 0)), #[]⟩
noncomputable def o657 (P : Params) : Obj := ⟨(.type "tuple"), none, (.seq #[] 0), #[]⟩
noncomputable def o658 (P : Params) : Obj := ⟨.none, none, (.fields #[]), #[]⟩
noncomputable def o659 (P : Params) : Obj := ⟨(.type "tuple"), none, (.seq #[(.str (s "shape") 1241), (.str (s "bottom") 1242), (.str (s "terms") 1243), (.str (s "equation") 1244)] 0), #[]⟩
noncomputable def o660 (P : Params) : Obj := ⟨(.type "tuple"), none, (.seq #[] 0), #[]⟩
noncomputable def o661 (P : Params) : Obj := ⟨.none, none, (.func (fn (hT 75) (s "folded") (s "folded") 0 [] .none .none .none .none none .none .none 0)), #[]⟩
noncomputable def o662 (P : Params) : Obj := ⟨(.type "code"), none, (.fields #[(.str (s "folded") 1238), (.str (s "folded") 1239), (.str (s "/claim/cut.py") 1240), (.int (409) 0), (.int (3) 0), (.int (0) 0), (.int (0) 0), (.int (3) 0), (.ref 657), (.bool true), (.int (374) 0), (.ref 658), .none, (.ref 659), (.ref 660), (.ref 661), (.int (1245) 0), (.int (409) 0), (.str (s "/claim/cut.py") 1246)]), #[]⟩
noncomputable def o663 (P : Params) : Obj := ⟨(.type "function"), none, (.func (fn (hT 75) (s "folded") (s "folded") 3 [] .none .none .none (.str (s "likepanes.numbers") 1151) none (.ref 662) .none 0)), #[]⟩
noncomputable def o664 (P : Params) : Obj := ⟨(.type "tuple"), none, (.seq #[] 0), #[]⟩
noncomputable def o665 (P : Params) : Obj := ⟨.none, none, (.fields #[]), #[]⟩
noncomputable def o666 (P : Params) : Obj := ⟨.none, none, (.func (fn (hT 76) (s "reciprocal") (s "reciprocal") 0 [] .none .none .none .none none .none .none 0)), #[]⟩
noncomputable def o667 (P : Params) : Obj := ⟨(.type "code"), none, (.fields #[(.str (s "reciprocal") 1248), (.str (s "reciprocal") 1249), (.str (s "/claim/cut.py") 1250), (.int (415) 0), (.int (2) 0), (.int (0) 0), (.int (0) 0), (.int (3) 0), (.ref 664), (.bool true), (.int (374) 0), (.ref 665), .none, .none, .none, (.ref 666), (.int (1251) 0), (.int (415) 0), (.str (s "/claim/cut.py") 1252)]), #[]⟩
noncomputable def o668 (P : Params) : Obj := ⟨(.type "function"), none, (.func (fn (hT 76) (s "reciprocal") (s "reciprocal") 3 [] .none .none .none (.str (s "likepanes.numbers") 1151) none (.ref 667) .none 0)), #[]⟩
noncomputable def o669 (P : Params) : Obj := ⟨(.type "tuple"), none, (.seq #[] 0), #[]⟩
noncomputable def o670 (P : Params) : Obj := ⟨.none, none, (.fields #[]), #[]⟩
noncomputable def o671 (P : Params) : Obj := ⟨.none, none, (.func (fn (hT 77) (s "ends") (s "ends") 0 [] .none .none .none .none none .none .none 0)), #[]⟩
noncomputable def o672 (P : Params) : Obj := ⟨(.type "code"), none, (.fields #[(.str (s "ends") 1254), (.str (s "ends") 1255), (.str (s "/claim/cut.py") 1256), (.int (427) 0), (.int (3) 0), (.int (0) 0), (.int (0) 0), (.int (3) 0), (.ref 669), (.bool true), (.int (374) 0), (.ref 670), .none, .none, .none, (.ref 671), (.int (1257) 0), (.int (427) 0), (.str (s "/claim/cut.py") 1258)]), #[]⟩
noncomputable def o673 (P : Params) : Obj := ⟨(.type "function"), none, (.func (fn (hT 77) (s "ends") (s "ends") 3 [] .none .none .none (.str (s "likepanes.numbers") 1151) none (.ref 672) .none 0)), #[]⟩
noncomputable def o674 (P : Params) : Obj := ⟨(.type "tuple"), none, (.seq #[] 0), #[]⟩
noncomputable def o675 (P : Params) : Obj := ⟨.none, none, (.fields #[]), #[]⟩
noncomputable def o676 (P : Params) : Obj := ⟨(.type "tuple"), none, (.seq #[(.str (s "_law_cells") 1265), (.str (s "_law_at") 1266), (.str (s "_law_own") 1267), (.str (s "_law_mixed") 1268), (.str (s "_law_k") 1269)] 0), #[]⟩
noncomputable def o677 (P : Params) : Obj := ⟨(.type "tuple"), none, (.seq #[] 0), #[]⟩
noncomputable def o678 (P : Params) : Obj := ⟨.none, none, (.func (fn (hT 79) (s "_law_rack") (s "_law_rack") 0 [] .none .none .none .none none .none .none 0)), #[]⟩
noncomputable def o679 (P : Params) : Obj := ⟨(.type "code"), none, (.fields #[(.str (s "_law_rack") 1262), (.str (s "_law_rack") 1263), (.str (s "/claim/cut.py") 1264), (.int (435) 0), (.int (2) 0), (.int (0) 0), (.int (0) 0), (.int (3) 0), (.ref 674), (.bool true), (.int (374) 0), (.ref 675), .none, (.ref 676), (.ref 677), (.ref 678), (.int (1270) 0), (.int (435) 0), (.str (s "/claim/cut.py") 1271)]), #[]⟩
noncomputable def o680 (P : Params) : Obj := ⟨(.type "function"), none, (.func (fn (hT 79) (s "_law_rack") (s "_law_rack") 3 [] .none .none .none (.str (s "law_likepanes_k29_whole_numbers_of_both_root") 1260) none (.ref 679) .none 0)), #[]⟩
noncomputable def o681 (P : Params) : Obj := ⟨(.type "tuple"), none, (.seq #[] 0), #[]⟩
noncomputable def o682 (P : Params) : Obj := ⟨.none, none, (.fields #[]), #[]⟩
noncomputable def o683 (P : Params) : Obj := ⟨(.type "tuple"), none, (.seq #[(.str (s "_law_rack_here") 1276), (.str (s "_law_many") 1277), (.str (s "_law_figure") 1278)] 0), #[]⟩
noncomputable def o684 (P : Params) : Obj := ⟨(.type "tuple"), none, (.seq #[] 0), #[]⟩
noncomputable def o685 (P : Params) : Obj := ⟨.none, none, (.func (fn (hT 80) (s "_law_pick") (s "_law_pick") 0 [] .none .none .none .none none .none .none 0)), #[]⟩
noncomputable def o686 (P : Params) : Obj := ⟨(.type "code"), none, (.fields #[(.str (s "_law_pick") 1273), (.str (s "_law_pick") 1274), (.str (s "/claim/cut.py") 1275), (.int (440) 0), (.int (2) 0), (.int (0) 0), (.int (0) 0), (.int (3) 0), (.ref 681), (.bool true), (.int (374) 0), (.ref 682), .none, (.ref 683), (.ref 684), (.ref 685), (.int (1279) 0), (.int (440) 0), (.str (s "/claim/cut.py") 1280)]), #[]⟩
noncomputable def o687 (P : Params) : Obj := ⟨(.type "function"), none, (.func (fn (hT 80) (s "_law_pick") (s "_law_pick") 3 [] .none .none .none (.str (s "law_likepanes_k29_whole_numbers_of_both_root") 1260) none (.ref 686) .none 0)), #[]⟩
noncomputable def o688 (P : Params) : Obj := ⟨(.type "tuple"), none, (.seq #[] 0), #[]⟩
noncomputable def o689 (P : Params) : Obj := ⟨.none, none, (.fields #[]), #[]⟩
noncomputable def o690 (P : Params) : Obj := ⟨(.type "tuple"), none, (.seq #[(.str (s "_law_parts") 1285), (.str (s "_law_found") 1286), (.str (s "_law_part") 1287), (.str (s "_law_one") 1288), (.str (s "_law_turn") 1289)] 0), #[]⟩
noncomputable def o691 (P : Params) : Obj := ⟨(.type "tuple"), none, (.seq #[] 0), #[]⟩
noncomputable def o692 (P : Params) : Obj := ⟨.none, none, (.func (fn (hT 81) (s "_law_common") (s "_law_common") 0 [] .none .none .none .none none .none .none 0)), #[]⟩
noncomputable def o693 (P : Params) : Obj := ⟨(.type "code"), none, (.fields #[(.str (s "_law_common") 1282), (.str (s "_law_common") 1283), (.str (s "/claim/cut.py") 1284), (.int (447) 0), (.int (1) 0), (.int (0) 0), (.int (0) 0), (.int (3) 0), (.ref 688), (.bool true), (.int (374) 0), (.ref 689), .none, (.ref 690), (.ref 691), (.ref 692), (.int (1290) 0), (.int (447) 0), (.str (s "/claim/cut.py") 1291)]), #[]⟩
noncomputable def o694 (P : Params) : Obj := ⟨(.type "function"), none, (.func (fn (hT 81) (s "_law_common") (s "_law_common") 3 [] .none .none .none (.str (s "law_likepanes_k29_whole_numbers_of_both_root") 1260) none (.ref 693) .none 0)), #[]⟩
noncomputable def o695 (P : Params) : Obj := ⟨(.type "tuple"), none, (.seq #[] 0), #[]⟩
noncomputable def o696 (P : Params) : Obj := ⟨.none, none, (.fields #[]), #[]⟩
noncomputable def o697 (P : Params) : Obj := ⟨(.type "tuple"), none, (.seq #[(.str (s "_law_number_here") 1296), (.str (s "_law_low") 1297), (.str (s "_law_high") 1298), (.str (s "_law_turn") 1299), (.str (s "_law_middle") 1300)] 0), #[]⟩
noncomputable def o698 (P : Params) : Obj := ⟨(.type "tuple"), none, (.seq #[] 0), #[]⟩
noncomputable def o699 (P : Params) : Obj := ⟨.none, none, (.func (fn (hT 82) (s "_law_square") (s "_law_square") 0 [] .none .none .none .none none .none .none 0)), #[]⟩
noncomputable def o700 (P : Params) : Obj := ⟨(.type "code"), none, (.fields #[(.str (s "_law_square") 1293), (.str (s "_law_square") 1294), (.str (s "/claim/cut.py") 1295), (.int (456) 0), (.int (1) 0), (.int (0) 0), (.int (0) 0), (.int (3) 0), (.ref 695), (.bool true), (.int (374) 0), (.ref 696), .none, (.ref 697), (.ref 698), (.ref 699), (.int (1301) 0), (.int (456) 0), (.str (s "/claim/cut.py") 1302)]), #[]⟩
noncomputable def o701 (P : Params) : Obj := ⟨(.type "function"), none, (.func (fn (hT 82) (s "_law_square") (s "_law_square") 3 [] .none .none .none (.str (s "law_likepanes_k29_whole_numbers_of_both_root") 1260) none (.ref 700) .none 0)), #[]⟩
noncomputable def o702 (P : Params) : Obj := ⟨(.type "tuple"), none, (.seq #[] 0), #[]⟩
noncomputable def o703 (P : Params) : Obj := ⟨.none, none, (.fields #[]), #[]⟩
noncomputable def o704 (P : Params) : Obj := ⟨.none, none, (.func (fn (hT 83) (s "_law_two_roots") (s "_law_two_roots") 0 [] .none .none .none .none none .none .none 0)), #[]⟩
noncomputable def o705 (P : Params) : Obj := ⟨(.type "code"), none, (.fields #[(.str (s "_law_two_roots") 1304), (.str (s "_law_two_roots") 1305), (.str (s "/claim/cut.py") 1306), (.int (464) 0), (.int (1) 0), (.int (0) 0), (.int (0) 0), (.int (3) 0), (.ref 702), (.bool true), (.int (374) 0), (.ref 703), .none, .none, .none, (.ref 704), (.int (1307) 0), (.int (464) 0), (.str (s "/claim/cut.py") 1308)]), #[]⟩
noncomputable def o706 (P : Params) : Obj := ⟨(.type "function"), none, (.func (fn (hT 83) (s "_law_two_roots") (s "_law_two_roots") 3 [] .none .none .none (.str (s "law_likepanes_k29_whole_numbers_of_both_root") 1260) none (.ref 705) .none 0)), #[]⟩
noncomputable def o707 (P : Params) : Obj := ⟨(.type "tuple"), none, (.seq #[] 0), #[]⟩
noncomputable def o708 (P : Params) : Obj := ⟨.none, none, (.fields #[]), #[]⟩
noncomputable def o709 (P : Params) : Obj := ⟨.none, none, (.func (fn (hT 84) (s "_law_one_root") (s "_law_one_root") 0 [] .none .none .none .none none .none .none 0)), #[]⟩
noncomputable def o710 (P : Params) : Obj := ⟨(.type "code"), none, (.fields #[(.str (s "_law_one_root") 1310), (.str (s "_law_one_root") 1311), (.str (s "/claim/cut.py") 1312), (.int (471) 0), (.int (1) 0), (.int (0) 0), (.int (0) 0), (.int (3) 0), (.ref 707), (.bool true), (.int (374) 0), (.ref 708), .none, .none, .none, (.ref 709), (.int (1313) 0), (.int (471) 0), (.str (s "/claim/cut.py") 1314)]), #[]⟩
noncomputable def o711 (P : Params) : Obj := ⟨(.type "function"), none, (.func (fn (hT 84) (s "_law_one_root") (s "_law_one_root") 3 [] .none .none .none (.str (s "law_likepanes_k29_whole_numbers_of_both_root") 1260) none (.ref 710) .none 0)), #[]⟩
noncomputable def o712 (P : Params) : Obj := ⟨(.type "tuple"), none, (.seq #[] 0), #[]⟩
noncomputable def o713 (P : Params) : Obj := ⟨.none, none, (.fields #[]), #[]⟩
noncomputable def o714 (P : Params) : Obj := ⟨(.type "tuple"), none, (.seq #[(.str (s "_law_rack_here") 1319), (.str (s "_law_way") 1320), (.str (s "_law_top") 1321), (.str (s "_law_bottom") 1322), (.str (s "_law_common_here") 1323)] 0), #[]⟩
noncomputable def o715 (P : Params) : Obj := ⟨(.type "tuple"), none, (.seq #[] 0), #[]⟩
noncomputable def o716 (P : Params) : Obj := ⟨.none, none, (.func (fn (hT 85) (s "_law_equation") (s "_law_equation") 0 [] .none .none .none .none none .none .none 0)), #[]⟩
noncomputable def o717 (P : Params) : Obj := ⟨(.type "code"), none, (.fields #[(.str (s "_law_equation") 1316), (.str (s "_law_equation") 1317), (.str (s "/claim/cut.py") 1318), (.int (483) 0), (.int (1) 0), (.int (0) 0), (.int (0) 0), (.int (3) 0), (.ref 712), (.bool true), (.int (374) 0), (.ref 713), .none, (.ref 714), (.ref 715), (.ref 716), (.int (1324) 0), (.int (483) 0), (.str (s "/claim/cut.py") 1325)]), #[]⟩
noncomputable def o718 (P : Params) : Obj := ⟨(.type "function"), none, (.func (fn (hT 85) (s "_law_equation") (s "_law_equation") 3 [] .none .none .none (.str (s "law_likepanes_k29_whole_numbers_of_both_root") 1260) none (.ref 717) .none 0)), #[]⟩
noncomputable def o719 (P : Params) : Obj := ⟨(.type "tuple"), none, (.seq #[] 0), #[]⟩
noncomputable def o720 (P : Params) : Obj := ⟨.none, none, (.fields #[]), #[]⟩
noncomputable def o721 (P : Params) : Obj := ⟨(.type "tuple"), none, (.seq #[(.str (s "_law_equation_here") 1330), (.str (s "_law_stretch") 1331)] 0), #[]⟩
noncomputable def o722 (P : Params) : Obj := ⟨(.type "tuple"), none, (.seq #[] 0), #[]⟩
noncomputable def o723 (P : Params) : Obj := ⟨.none, none, (.func (fn (hT 86) (s "_law_shape") (s "_law_shape") 0 [] .none .none .none .none none .none .none 0)), #[]⟩
noncomputable def o724 (P : Params) : Obj := ⟨(.type "code"), none, (.fields #[(.str (s "_law_shape") 1327), (.str (s "_law_shape") 1328), (.str (s "/claim/cut.py") 1329), (.int (490) 0), (.int (2) 0), (.int (0) 0), (.int (0) 0), (.int (3) 0), (.ref 719), (.bool true), (.int (374) 0), (.ref 720), .none, (.ref 721), (.ref 722), (.ref 723), (.int (1332) 0), (.int (490) 0), (.str (s "/claim/cut.py") 1333)]), #[]⟩
noncomputable def o725 (P : Params) : Obj := ⟨(.type "function"), none, (.func (fn (hT 86) (s "_law_shape") (s "_law_shape") 3 [] .none .none .none (.str (s "law_likepanes_k29_whole_numbers_of_both_root") 1260) none (.ref 724) .none 0)), #[]⟩
noncomputable def o726 (P : Params) : Obj := ⟨(.type "tuple"), none, (.seq #[] 0), #[]⟩
noncomputable def o727 (P : Params) : Obj := ⟨.none, none, (.fields #[]), #[]⟩
noncomputable def o728 (P : Params) : Obj := ⟨.none, none, (.func (fn (hT 87) (s "_law_number") (s "_law_number") 0 [] .none .none .none .none none .none .none 0)), #[]⟩
noncomputable def o729 (P : Params) : Obj := ⟨(.type "code"), none, (.fields #[(.str (s "_law_number") 1335), (.str (s "_law_number") 1336), (.str (s "/claim/cut.py") 1337), (.int (492) 0), (.int (2) 0), (.int (0) 0), (.int (0) 0), (.int (3) 0), (.ref 726), (.bool true), (.int (374) 0), (.ref 727), .none, .none, .none, (.ref 728), (.int (1338) 0), (.int (492) 0), (.str (s "/claim/cut.py") 1339)]), #[]⟩
noncomputable def o730 (P : Params) : Obj := ⟨(.type "function"), none, (.func (fn (hT 87) (s "_law_number") (s "_law_number") 3 [] .none .none .none (.str (s "law_likepanes_k29_whole_numbers_of_both_root") 1260) none (.ref 729) .none 0)), #[]⟩
noncomputable def o731 (P : Params) : Obj := ⟨(.type "tuple"), none, (.seq #[] 0), #[]⟩
noncomputable def o732 (P : Params) : Obj := ⟨.none, none, (.fields #[]), #[]⟩
noncomputable def o733 (P : Params) : Obj := ⟨(.type "tuple"), none, (.seq #[(.str (s "_law_equation_here") 1344), (.str (s "_law_number_here") 1345), (.str (s "_law_bottom") 1346), (.str (s "_law_a") 1347), (.str (s "_law_b") 1348)] 0), #[]⟩
noncomputable def o734 (P : Params) : Obj := ⟨(.type "tuple"), none, (.seq #[] 0), #[]⟩
noncomputable def o735 (P : Params) : Obj := ⟨.none, none, (.func (fn (hT 88) (s "_law_turned") (s "_law_turned") 0 [] .none .none .none .none none .none .none 0)), #[]⟩
noncomputable def o736 (P : Params) : Obj := ⟨(.type "code"), none, (.fields #[(.str (s "_law_turned") 1341), (.str (s "_law_turned") 1342), (.str (s "/claim/cut.py") 1343), (.int (498) 0), (.int (2) 0), (.int (0) 0), (.int (0) 0), (.int (3) 0), (.ref 731), (.bool true), (.int (374) 0), (.ref 732), .none, (.ref 733), (.ref 734), (.ref 735), (.int (1349) 0), (.int (498) 0), (.str (s "/claim/cut.py") 1350)]), #[]⟩
noncomputable def o737 (P : Params) : Obj := ⟨(.type "function"), none, (.func (fn (hT 88) (s "_law_turned") (s "_law_turned") 3 [] .none .none .none (.str (s "law_likepanes_k29_whole_numbers_of_both_root") 1260) none (.ref 736) .none 0)), #[]⟩
noncomputable def o738 (P : Params) : Obj := ⟨(.type "tuple"), none, (.seq #[] 0), #[]⟩
noncomputable def o739 (P : Params) : Obj := ⟨.none, none, (.fields #[]), #[]⟩
noncomputable def o740 (P : Params) : Obj := ⟨.none, none, (.func (fn (hT 89) (s "_law_right") (s "_law_right") 0 [] .none .none .none .none none .none .none 0)), #[]⟩
noncomputable def o741 (P : Params) : Obj := ⟨(.type "code"), none, (.fields #[(.str (s "_law_right") 1352), (.str (s "_law_right") 1353), (.str (s "/claim/cut.py") 1354), (.int (501) 0), (.int (1) 0), (.int (0) 0), (.int (0) 0), (.int (3) 0), (.ref 738), (.bool true), (.int (374) 0), (.ref 739), .none, .none, .none, (.ref 740), (.int (1355) 0), (.int (501) 0), (.str (s "/claim/cut.py") 1356)]), #[]⟩
noncomputable def o742 (P : Params) : Obj := ⟨(.type "function"), none, (.func (fn (hT 89) (s "_law_right") (s "_law_right") 3 [] .none .none .none (.str (s "law_likepanes_k29_whole_numbers_of_both_root") 1260) none (.ref 741) .none 0)), #[]⟩
noncomputable def o743 (P : Params) : Obj := ⟨(.type "tuple"), none, (.seq #[] 0), #[]⟩
noncomputable def o744 (P : Params) : Obj := ⟨.none, none, (.fields #[]), #[]⟩
noncomputable def o745 (P : Params) : Obj := ⟨.none, none, (.func (fn (hT 90) (s "law") (s "law") 0 [] .none .none .none .none none .none .none 0)), #[]⟩
noncomputable def o746 (P : Params) : Obj := ⟨(.type "code"), none, (.fields #[(.str (s "law") 1358), (.str (s "law") 1359), (.str (s "/claim/cut.py") 1360), (.int (524) 0), (.int (1) 0), (.int (0) 0), (.int (0) 0), (.int (3) 0), (.ref 743), (.bool true), (.int (374) 0), (.ref 744), .none, .none, .none, (.ref 745), (.int (1361) 0), (.int (524) 0), (.str (s "/claim/cut.py") 1362)]), #[]⟩
noncomputable def o747 (P : Params) : Obj := ⟨(.type "function"), none, (.func (fn (hT 90) (s "law") (s "law") 3 [] .none .none .none (.str (s "law_likepanes_k29_whole_numbers_of_both_root") 1260) none (.ref 746) .none 0)), #[]⟩
noncomputable def t6 (P : Params) : BT := (n (o0 P) (n (o1 P) (n (o3_6 P) (n (o7 P) (n (o15 P) (n (o31 P) (n (o63 P) (n (o127 P) (n (o255 P) (n (o511 P) z z) z) (n (o383 P) (n (o639 P) z z) z)) (n (o191 P) (n (o319 P) (n (o575 P) z z) z) (n (o447 P) (n (o703 P) z z) z))) (n (o95 P) (n (o159 P) (n (o287 P) (n (o543 P) z z) z) (n (o415 P) (n (o671 P) z z) z)) (n (o223 P) (n (o351 P) (n (o607 P) z z) z) (n (o479 P) (n (o735 P) z z) z)))) (n (o47 P) (n (o79 P) (n (o143 P) (n (o271 P) (n (o527 P) z z) z) (n (o399 P) (n (o655 P) z z) z)) (n (o207 P) (n (o335 P) (n (o591 P) z z) z) (n (o463 P) (n (o719 P) z z) z))) (n (o111 P) (n (o175 P) (n (o303 P) (n (o559 P) z z) z) (n (o431 P) (n (o687 P) z z) z)) (n (o239 P) (n (o367 P) (n (o623 P) z z) z) (n (o495 P) z z))))) (n (o23 P) (n (o39 P) (n (o71 P) (n (o135 P) (n (o263 P) (n (o519 P) z z) z) (n (o391 P) (n (o647 P) z z) z)) (n (o199 P) (n (o327 P) (n (o583 P) z z) z) (n (o455 P) (n (o711 P) z z) z))) (n (o103 P) (n (o167 P) (n (o295 P) (n (o551 P) z z) z) (n (o423 P) (n (o679 P) z z) z)) (n (o231 P) (n (o359 P) (n (o615 P) z z) z) (n (o487 P) (n (o743 P) z z) z)))) (n (o55 P) (n (o87 P) (n (o151 P) (n (o279 P) (n (o535 P) z z) z) (n (o407 P) (n (o663 P) z z) z)) (n (o215 P) (n (o343 P) (n (o599 P) z z) z) (n (o471 P) (n (o727 P) z z) z))) (n (o119 P) (n (o183 P) (n (o311 P) (n (o567 P) z z) z) (n (o439 P) (n (o695 P) z z) z)) (n (o247 P) (n (o375 P) (n (o631 P) z z) z) (n (o503 P) z z)))))) (n (o11 P) (n (o19 P) (n (o35 P) (n (o67 P) (n (o131 P) (n (o259 P) (n (o515 P) z z) z) (n (o387 P) (n (o643 P) z z) z)) (n (o195 P) (n (o323 P) (n (o579 P) z z) z) (n (o451 P) (n (o707 P) z z) z))) (n (o99 P) (n (o163 P) (n (o291 P) (n (o547 P) z z) z) (n (o419 P) (n (o675 P) z z) z)) (n (o227 P) (n (o355 P) (n (o611 P) z z) z) (n (o483 P) (n (o739 P) z z) z)))) (n (o51 P) (n (o83 P) (n (o147 P) (n (o275 P) (n (o531 P) z z) z) (n (o403 P) (n (o659 P) z z) z)) (n (o211 P) (n (o339 P) (n (o595 P) z z) z) (n (o467 P) (n (o723 P) z z) z))) (n (o115 P) (n (o179_3 P) (n (o307 P) (n (o563 P) z z) z) (n (o435 P) (n (o691 P) z z) z)) (n (o243 P) (n (o371 P) (n (o627 P) z z) z) (n (o499 P) z z))))) (n (o27 P) (n (o43 P) (n (o75 P) (n (o139 P) (n (o267 P) (n (o523 P) z z) z) (n (o395 P) (n (o651 P) z z) z)) (n (o203 P) (n (o331 P) (n (o587 P) z z) z) (n (o459 P) (n (o715 P) z z) z))) (n (o107 P) (n (o171 P) (n (o299 P) (n (o555 P) z z) z) (n (o427 P) (n (o683 P) z z) z)) (n (o235 P) (n (o363 P) (n (o619 P) z z) z) (n (o491 P) (n (o747 P) z z) z)))) (n (o59 P) (n (o91 P) (n (o155 P) (n (o283 P) (n (o539 P) z z) z) (n (o411 P) (n (o667 P) z z) z)) (n (o219 P) (n (o347 P) (n (o603 P) z z) z) (n (o475 P) (n (o731 P) z z) z))) (n (o123 P) (n (o187 P) (n (o315 P) (n (o571 P) z z) z) (n (o443 P) (n (o699 P) z z) z)) (n (o251 P) (n (o379 P) (n (o635 P) z z) z) (n (o507 P) z z))))))) (n (o5 P) (n (o9 P) (n (o17 P) (n (o33 P) (n (o65 P) (n (o129 P) (n (o257 P) (n (o513 P) z z) z) (n (o385 P) (n (o641 P) z z) z)) (n (o193 P) (n (o321 P) (n (o577 P) z z) z) (n (o449 P) (n (o705 P) z z) z))) (n (o97 P) (n (o161 P) (n (o289 P) (n (o545 P) z z) z) (n (o417 P) (n (o673 P) z z) z)) (n (o225 P) (n (o353 P) (n (o609 P) z z) z) (n (o481 P) (n (o737 P) z z) z)))) (n (o49 P) (n (o81 P) (n (o145 P) (n (o273 P) (n (o529 P) z z) z) (n (o401 P) (n (o657 P) z z) z)) (n (o209 P) (n (o337 P) (n (o593 P) z z) z) (n (o465 P) (n (o721 P) z z) z))) (n (o113 P) (n (o177 P) (n (o305 P) (n (o561 P) z z) z) (n (o433 P) (n (o689 P) z z) z)) (n (o241 P) (n (o369 P) (n (o625 P) z z) z) (n (o497 P) z z))))) (n (o25 P) (n (o41 P) (n (o73 P) (n (o137 P) (n (o265 P) (n (o521 P) z z) z) (n (o393 P) (n (o649 P) z z) z)) (n (o201 P) (n (o329 P) (n (o585 P) z z) z) (n (o457 P) (n (o713 P) z z) z))) (n (o105 P) (n (o169 P) (n (o297 P) (n (o553 P) z z) z) (n (o425 P) (n (o681 P) z z) z)) (n (o233 P) (n (o361 P) (n (o617 P) z z) z) (n (o489 P) (n (o745 P) z z) z)))) (n (o57 P) (n (o89 P) (n (o153 P) (n (o281 P) (n (o537 P) z z) z) (n (o409 P) (n (o665 P) z z) z)) (n (o217 P) (n (o345 P) (n (o601 P) z z) z) (n (o473 P) (n (o729 P) z z) z))) (n (o121 P) (n (o185 P) (n (o313 P) (n (o569 P) z z) z) (n (o441 P) (n (o697 P) z z) z)) (n (o249 P) (n (o377 P) (n (o633 P) z z) z) (n (o505 P) z z)))))) (n (o13 P) (n (o21 P) (n (o37 P) (n (o69 P) (n (o133 P) (n (o261 P) (n (o517 P) z z) z) (n (o389 P) (n (o645 P) z z) z)) (n (o197 P) (n (o325 P) (n (o581 P) z z) z) (n (o453 P) (n (o709 P) z z) z))) (n (o101 P) (n (o165 P) (n (o293 P) (n (o549 P) z z) z) (n (o421 P) (n (o677 P) z z) z)) (n (o229 P) (n (o357 P) (n (o613 P) z z) z) (n (o485 P) (n (o741 P) z z) z)))) (n (o53 P) (n (o85 P) (n (o149 P) (n (o277 P) (n (o533 P) z z) z) (n (o405 P) (n (o661 P) z z) z)) (n (o213 P) (n (o341 P) (n (o597 P) z z) z) (n (o469 P) (n (o725 P) z z) z))) (n (o117 P) (n (o181 P) (n (o309 P) (n (o565 P) z z) z) (n (o437 P) (n (o693 P) z z) z)) (n (o245 P) (n (o373 P) (n (o629 P) z z) z) (n (o501 P) z z))))) (n (o29 P) (n (o45 P) (n (o77 P) (n (o141 P) (n (o269 P) (n (o525 P) z z) z) (n (o397 P) (n (o653 P) z z) z)) (n (o205 P) (n (o333 P) (n (o589 P) z z) z) (n (o461 P) (n (o717 P) z z) z))) (n (o109 P) (n (o173 P) (n (o301 P) (n (o557 P) z z) z) (n (o429 P) (n (o685 P) z z) z)) (n (o237 P) (n (o365 P) (n (o621 P) z z) z) (n (o493 P) z z)))) (n (o61 P) (n (o93 P) (n (o157 P) (n (o285 P) (n (o541 P) z z) z) (n (o413 P) (n (o669 P) z z) z)) (n (o221 P) (n (o349 P) (n (o605 P) z z) z) (n (o477 P) (n (o733 P) z z) z))) (n (o125 P) (n (o189 P) (n (o317 P) (n (o573 P) z z) z) (n (o445 P) (n (o701 P) z z) z)) (n (o253 P) (n (o381 P) (n (o637 P) z z) z) (n (o509 P) z z)))))))) (n (o2_2 P) (n (o4 P) (n (o8 P) (n (o16 P) (n (o32 P) (n (o64 P) (n (o128 P) (n (o256 P) (n (o512 P) z z) z) (n (o384 P) (n (o640 P) z z) z)) (n (o192 P) (n (o320 P) (n (o576 P) z z) z) (n (o448 P) (n (o704 P) z z) z))) (n (o96 P) (n (o160 P) (n (o288 P) (n (o544 P) z z) z) (n (o416 P) (n (o672 P) z z) z)) (n (o224 P) (n (o352 P) (n (o608 P) z z) z) (n (o480 P) (n (o736 P) z z) z)))) (n (o48 P) (n (o80 P) (n (o144 P) (n (o272 P) (n (o528 P) z z) z) (n (o400 P) (n (o656 P) z z) z)) (n (o208 P) (n (o336 P) (n (o592 P) z z) z) (n (o464 P) (n (o720 P) z z) z))) (n (o112 P) (n (o176 P) (n (o304 P) (n (o560 P) z z) z) (n (o432 P) (n (o688 P) z z) z)) (n (o240 P) (n (o368 P) (n (o624 P) z z) z) (n (o496 P) z z))))) (n (o24 P) (n (o40_6 P) (n (o72 P) (n (o136 P) (n (o264 P) (n (o520 P) z z) z) (n (o392 P) (n (o648 P) z z) z)) (n (o200 P) (n (o328 P) (n (o584 P) z z) z) (n (o456 P) (n (o712 P) z z) z))) (n (o104 P) (n (o168 P) (n (o296 P) (n (o552 P) z z) z) (n (o424 P) (n (o680 P) z z) z)) (n (o232 P) (n (o360 P) (n (o616 P) z z) z) (n (o488 P) (n (o744 P) z z) z)))) (n (o56 P) (n (o88 P) (n (o152 P) (n (o280 P) (n (o536 P) z z) z) (n (o408 P) (n (o664 P) z z) z)) (n (o216 P) (n (o344 P) (n (o600 P) z z) z) (n (o472 P) (n (o728 P) z z) z))) (n (o120 P) (n (o184 P) (n (o312 P) (n (o568 P) z z) z) (n (o440 P) (n (o696 P) z z) z)) (n (o248 P) (n (o376 P) (n (o632 P) z z) z) (n (o504 P) z z)))))) (n (o12_0 P) (n (o20 P) (n (o36 P) (n (o68 P) (n (o132 P) (n (o260 P) (n (o516 P) z z) z) (n (o388 P) (n (o644 P) z z) z)) (n (o196 P) (n (o324 P) (n (o580 P) z z) z) (n (o452 P) (n (o708 P) z z) z))) (n (o100 P) (n (o164 P) (n (o292 P) (n (o548 P) z z) z) (n (o420 P) (n (o676 P) z z) z)) (n (o228 P) (n (o356 P) (n (o612 P) z z) z) (n (o484 P) (n (o740 P) z z) z)))) (n (o52_2 P) (n (o84 P) (n (o148 P) (n (o276 P) (n (o532 P) z z) z) (n (o404 P) (n (o660 P) z z) z)) (n (o212 P) (n (o340 P) (n (o596 P) z z) z) (n (o468 P) (n (o724 P) z z) z))) (n (o116 P) (n (o180 P) (n (o308 P) (n (o564 P) z z) z) (n (o436 P) (n (o692 P) z z) z)) (n (o244 P) (n (o372 P) (n (o628 P) z z) z) (n (o500 P) z z))))) (n (o28 P) (n (o44 P) (n (o76 P) (n (o140 P) (n (o268 P) (n (o524 P) z z) z) (n (o396 P) (n (o652 P) z z) z)) (n (o204 P) (n (o332 P) (n (o588 P) z z) z) (n (o460 P) (n (o716 P) z z) z))) (n (o108 P) (n (o172 P) (n (o300 P) (n (o556 P) z z) z) (n (o428 P) (n (o684 P) z z) z)) (n (o236 P) (n (o364 P) (n (o620 P) z z) z) (n (o492 P) z z)))) (n (o60 P) (n (o92 P) (n (o156 P) (n (o284 P) (n (o540 P) z z) z) (n (o412 P) (n (o668 P) z z) z)) (n (o220 P) (n (o348 P) (n (o604 P) z z) z) (n (o476 P) (n (o732 P) z z) z))) (n (o124 P) (n (o188 P) (n (o316 P) (n (o572 P) z z) z) (n (o444 P) (n (o700 P) z z) z)) (n (o252 P) (n (o380 P) (n (o636 P) z z) z) (n (o508 P) z z))))))) (n (o6 P) (n (o10 P) (n (o18 P) (n (o34 P) (n (o66 P) (n (o130 P) (n (o258 P) (n (o514 P) z z) z) (n (o386 P) (n (o642 P) z z) z)) (n (o194 P) (n (o322 P) (n (o578 P) z z) z) (n (o450 P) (n (o706 P) z z) z))) (n (o98 P) (n (o162 P) (n (o290 P) (n (o546 P) z z) z) (n (o418 P) (n (o674 P) z z) z)) (n (o226 P) (n (o354 P) (n (o610 P) z z) z) (n (o482 P) (n (o738 P) z z) z)))) (n (o50 P) (n (o82 P) (n (o146 P) (n (o274 P) (n (o530 P) z z) z) (n (o402 P) (n (o658 P) z z) z)) (n (o210 P) (n (o338 P) (n (o594 P) z z) z) (n (o466 P) (n (o722 P) z z) z))) (n (o114 P) (n (o178 P) (n (o306 P) (n (o562 P) z z) z) (n (o434 P) (n (o690 P) z z) z)) (n (o242 P) (n (o370 P) (n (o626 P) z z) z) (n (o498 P) z z))))) (n (o26 P) (n (o42 P) (n (o74 P) (n (o138 P) (n (o266 P) (n (o522 P) z z) z) (n (o394 P) (n (o650 P) z z) z)) (n (o202 P) (n (o330 P) (n (o586 P) z z) z) (n (o458 P) (n (o714 P) z z) z))) (n (o106 P) (n (o170 P) (n (o298 P) (n (o554 P) z z) z) (n (o426 P) (n (o682 P) z z) z)) (n (o234 P) (n (o362 P) (n (o618 P) z z) z) (n (o490 P) (n (o746 P) z z) z)))) (n (o58 P) (n (o90 P) (n (o154 P) (n (o282 P) (n (o538 P) z z) z) (n (o410 P) (n (o666 P) z z) z)) (n (o218 P) (n (o346 P) (n (o602 P) z z) z) (n (o474 P) (n (o730 P) z z) z))) (n (o122 P) (n (o186 P) (n (o314 P) (n (o570 P) z z) z) (n (o442 P) (n (o698 P) z z) z)) (n (o250 P) (n (o378 P) (n (o634 P) z z) z) (n (o506 P) z z)))))) (n (o14 P) (n (o22 P) (n (o38 P) (n (o70 P) (n (o134 P) (n (o262 P) (n (o518 P) z z) z) (n (o390 P) (n (o646 P) z z) z)) (n (o198 P) (n (o326 P) (n (o582 P) z z) z) (n (o454 P) (n (o710 P) z z) z))) (n (o102 P) (n (o166 P) (n (o294 P) (n (o550 P) z z) z) (n (o422 P) (n (o678 P) z z) z)) (n (o230 P) (n (o358 P) (n (o614 P) z z) z) (n (o486 P) (n (o742 P) z z) z)))) (n (o54 P) (n (o86 P) (n (o150 P) (n (o278 P) (n (o534 P) z z) z) (n (o406 P) (n (o662 P) z z) z)) (n (o214 P) (n (o342 P) (n (o598 P) z z) z) (n (o470 P) (n (o726 P) z z) z))) (n (o118 P) (n (o182 P) (n (o310 P) (n (o566 P) z z) z) (n (o438 P) (n (o694 P) z z) z)) (n (o246 P) (n (o374 P) (n (o630 P) z z) z) (n (o502 P) z z))))) (n (o30 P) (n (o46 P) (n (o78 P) (n (o142 P) (n (o270 P) (n (o526 P) z z) z) (n (o398 P) (n (o654 P) z z) z)) (n (o206 P) (n (o334 P) (n (o590 P) z z) z) (n (o462 P) (n (o718 P) z z) z))) (n (o110 P) (n (o174 P) (n (o302 P) (n (o558 P) z z) z) (n (o430 P) (n (o686 P) z z) z)) (n (o238 P) (n (o366 P) (n (o622 P) z z) z) (n (o494 P) z z)))) (n (o62 P) (n (o94 P) (n (o158 P) (n (o286 P) (n (o542 P) z z) z) (n (o414 P) (n (o670 P) z z) z)) (n (o222 P) (n (o350 P) (n (o606 P) z z) z) (n (o478 P) (n (o734 P) z z) z))) (n (o126 P) (n (o190 P) (n (o318 P) (n (o574 P) z z) z) (n (o446 P) (n (o702 P) z z) z)) (n (o254 P) (n (o382 P) (n (o638 P) z z) z) (n (o510 P) z z)))))))))
noncomputable def X6 (w : World) (os : OsState) : SharedT := ⟨t6 w.params, 748, {}, #[], {}, 1364, os⟩
noncomputable def tf (P : Params) : BT := (n (o0 P) (n (o1 P) (n (o3_6 P) (n (o7 P) (n (o15 P) (n (o31 P) (n (o63 P) (n (o127 P) (n (o255 P) (n (o511 P) z z) z) (n (o383 P) (n (o639 P) z z) z)) (n (o191 P) (n (o319 P) (n (o575 P) z z) z) (n (o447 P) (n (o703 P) z z) z))) (n (o95 P) (n (o159 P) (n (o287 P) (n (o543 P) z z) z) (n (o415 P) (n (o671 P) z z) z)) (n (o223 P) (n (o351 P) (n (o607 P) z z) z) (n (o479 P) (n (o735 P) z z) z)))) (n (o47 P) (n (o79 P) (n (o143 P) (n (o271 P) (n (o527 P) z z) z) (n (o399 P) (n (o655 P) z z) z)) (n (o207 P) (n (o335 P) (n (o591 P) z z) z) (n (o463 P) (n (o719 P) z z) z))) (n (o111 P) (n (o175 P) (n (o303 P) (n (o559 P) z z) z) (n (o431 P) (n (o687 P) z z) z)) (n (o239 P) (n (o367 P) (n (o623 P) z z) z) (n (o495 P) z z))))) (n (o23 P) (n (o39 P) (n (o71 P) (n (o135 P) (n (o263 P) (n (o519 P) z z) z) (n (o391 P) (n (o647 P) z z) z)) (n (o199 P) (n (o327 P) (n (o583 P) z z) z) (n (o455 P) (n (o711 P) z z) z))) (n (o103 P) (n (o167 P) (n (o295 P) (n (o551 P) z z) z) (n (o423 P) (n (o679 P) z z) z)) (n (o231 P) (n (o359 P) (n (o615 P) z z) z) (n (o487 P) (n (o743 P) z z) z)))) (n (o55 P) (n (o87 P) (n (o151 P) (n (o279 P) (n (o535 P) z z) z) (n (o407 P) (n (o663 P) z z) z)) (n (o215 P) (n (o343 P) (n (o599 P) z z) z) (n (o471 P) (n (o727 P) z z) z))) (n (o119 P) (n (o183 P) (n (o311 P) (n (o567 P) z z) z) (n (o439 P) (n (o695 P) z z) z)) (n (o247 P) (n (o375 P) (n (o631 P) z z) z) (n (o503 P) z z)))))) (n (o11 P) (n (o19 P) (n (o35 P) (n (o67 P) (n (o131 P) (n (o259 P) (n (o515 P) z z) z) (n (o387 P) (n (o643 P) z z) z)) (n (o195 P) (n (o323 P) (n (o579 P) z z) z) (n (o451 P) (n (o707 P) z z) z))) (n (o99 P) (n (o163 P) (n (o291 P) (n (o547 P) z z) z) (n (o419 P) (n (o675 P) z z) z)) (n (o227 P) (n (o355 P) (n (o611 P) z z) z) (n (o483 P) (n (o739 P) z z) z)))) (n (o51 P) (n (o83 P) (n (o147 P) (n (o275 P) (n (o531 P) z z) z) (n (o403 P) (n (o659 P) z z) z)) (n (o211 P) (n (o339 P) (n (o595 P) z z) z) (n (o467 P) (n (o723 P) z z) z))) (n (o115 P) (n (o179_3 P) (n (o307 P) (n (o563 P) z z) z) (n (o435 P) (n (o691 P) z z) z)) (n (o243 P) (n (o371 P) (n (o627 P) z z) z) (n (o499 P) z z))))) (n (o27 P) (n (o43 P) (n (o75 P) (n (o139 P) (n (o267 P) (n (o523 P) z z) z) (n (o395 P) (n (o651 P) z z) z)) (n (o203 P) (n (o331 P) (n (o587 P) z z) z) (n (o459 P) (n (o715 P) z z) z))) (n (o107 P) (n (o171 P) (n (o299 P) (n (o555 P) z z) z) (n (o427 P) (n (o683 P) z z) z)) (n (o235 P) (n (o363 P) (n (o619 P) z z) z) (n (o491 P) (n (o747 P) z z) z)))) (n (o59 P) (n (o91 P) (n (o155 P) (n (o283 P) (n (o539 P) z z) z) (n (o411 P) (n (o667 P) z z) z)) (n (o219 P) (n (o347 P) (n (o603 P) z z) z) (n (o475 P) (n (o731 P) z z) z))) (n (o123 P) (n (o187 P) (n (o315 P) (n (o571 P) z z) z) (n (o443 P) (n (o699 P) z z) z)) (n (o251 P) (n (o379 P) (n (o635 P) z z) z) (n (o507 P) z z))))))) (n (o5 P) (n (o9 P) (n (o17 P) (n (o33 P) (n (o65 P) (n (o129 P) (n (o257 P) (n (o513 P) z z) z) (n (o385 P) (n (o641 P) z z) z)) (n (o193 P) (n (o321 P) (n (o577 P) z z) z) (n (o449 P) (n (o705 P) z z) z))) (n (o97 P) (n (o161 P) (n (o289 P) (n (o545 P) z z) z) (n (o417 P) (n (o673 P) z z) z)) (n (o225 P) (n (o353 P) (n (o609 P) z z) z) (n (o481 P) (n (o737 P) z z) z)))) (n (o49 P) (n (o81 P) (n (o145 P) (n (o273 P) (n (o529 P) z z) z) (n (o401 P) (n (o657 P) z z) z)) (n (o209 P) (n (o337 P) (n (o593 P) z z) z) (n (o465 P) (n (o721 P) z z) z))) (n (o113 P) (n (o177 P) (n (o305 P) (n (o561 P) z z) z) (n (o433 P) (n (o689 P) z z) z)) (n (o241 P) (n (o369 P) (n (o625 P) z z) z) (n (o497 P) z z))))) (n (o25 P) (n (o41 P) (n (o73 P) (n (o137 P) (n (o265 P) (n (o521 P) z z) z) (n (o393 P) (n (o649 P) z z) z)) (n (o201 P) (n (o329 P) (n (o585 P) z z) z) (n (o457 P) (n (o713 P) z z) z))) (n (o105 P) (n (o169 P) (n (o297 P) (n (o553 P) z z) z) (n (o425 P) (n (o681 P) z z) z)) (n (o233 P) (n (o361 P) (n (o617 P) z z) z) (n (o489 P) (n (o745 P) z z) z)))) (n (o57 P) (n (o89 P) (n (o153 P) (n (o281 P) (n (o537 P) z z) z) (n (o409 P) (n (o665 P) z z) z)) (n (o217 P) (n (o345 P) (n (o601 P) z z) z) (n (o473 P) (n (o729 P) z z) z))) (n (o121 P) (n (o185 P) (n (o313 P) (n (o569 P) z z) z) (n (o441 P) (n (o697 P) z z) z)) (n (o249 P) (n (o377 P) (n (o633 P) z z) z) (n (o505 P) z z)))))) (n (o13 P) (n (o21 P) (n (o37 P) (n (o69 P) (n (o133 P) (n (o261 P) (n (o517 P) z z) z) (n (o389 P) (n (o645 P) z z) z)) (n (o197 P) (n (o325 P) (n (o581 P) z z) z) (n (o453 P) (n (o709 P) z z) z))) (n (o101 P) (n (o165 P) (n (o293 P) (n (o549 P) z z) z) (n (o421 P) (n (o677 P) z z) z)) (n (o229 P) (n (o357 P) (n (o613 P) z z) z) (n (o485 P) (n (o741 P) z z) z)))) (n (o53 P) (n (o85 P) (n (o149 P) (n (o277 P) (n (o533 P) z z) z) (n (o405 P) (n (o661 P) z z) z)) (n (o213 P) (n (o341 P) (n (o597 P) z z) z) (n (o469 P) (n (o725 P) z z) z))) (n (o117 P) (n (o181 P) (n (o309 P) (n (o565 P) z z) z) (n (o437 P) (n (o693 P) z z) z)) (n (o245 P) (n (o373 P) (n (o629 P) z z) z) (n (o501 P) z z))))) (n (o29 P) (n (o45 P) (n (o77 P) (n (o141 P) (n (o269 P) (n (o525 P) z z) z) (n (o397 P) (n (o653 P) z z) z)) (n (o205 P) (n (o333 P) (n (o589 P) z z) z) (n (o461 P) (n (o717 P) z z) z))) (n (o109 P) (n (o173 P) (n (o301 P) (n (o557 P) z z) z) (n (o429 P) (n (o685 P) z z) z)) (n (o237 P) (n (o365 P) (n (o621 P) z z) z) (n (o493 P) z z)))) (n (o61 P) (n (o93 P) (n (o157 P) (n (o285 P) (n (o541 P) z z) z) (n (o413 P) (n (o669 P) z z) z)) (n (o221 P) (n (o349 P) (n (o605 P) z z) z) (n (o477 P) (n (o733 P) z z) z))) (n (o125 P) (n (o189 P) (n (o317 P) (n (o573 P) z z) z) (n (o445 P) (n (o701 P) z z) z)) (n (o253 P) (n (o381 P) (n (o637 P) z z) z) (n (o509 P) z z)))))))) (n (o2_2 P) (n (o4 P) (n (o8 P) (n (o16 P) (n (o32 P) (n (o64 P) (n (o128 P) (n (o256 P) (n (o512 P) z z) z) (n (o384 P) (n (o640 P) z z) z)) (n (o192 P) (n (o320 P) (n (o576 P) z z) z) (n (o448 P) (n (o704 P) z z) z))) (n (o96 P) (n (o160 P) (n (o288 P) (n (o544 P) z z) z) (n (o416 P) (n (o672 P) z z) z)) (n (o224 P) (n (o352 P) (n (o608 P) z z) z) (n (o480 P) (n (o736 P) z z) z)))) (n (o48 P) (n (o80 P) (n (o144 P) (n (o272 P) (n (o528 P) z z) z) (n (o400 P) (n (o656 P) z z) z)) (n (o208 P) (n (o336 P) (n (o592 P) z z) z) (n (o464 P) (n (o720 P) z z) z))) (n (o112 P) (n (o176 P) (n (o304 P) (n (o560 P) z z) z) (n (o432 P) (n (o688 P) z z) z)) (n (o240 P) (n (o368 P) (n (o624 P) z z) z) (n (o496 P) z z))))) (n (o24 P) (n (o40_6 P) (n (o72 P) (n (o136 P) (n (o264 P) (n (o520 P) z z) z) (n (o392 P) (n (o648 P) z z) z)) (n (o200 P) (n (o328 P) (n (o584 P) z z) z) (n (o456 P) (n (o712 P) z z) z))) (n (o104 P) (n (o168 P) (n (o296 P) (n (o552 P) z z) z) (n (o424 P) (n (o680 P) z z) z)) (n (o232 P) (n (o360 P) (n (o616 P) z z) z) (n (o488 P) (n (o744 P) z z) z)))) (n (o56 P) (n (o88 P) (n (o152 P) (n (o280 P) (n (o536 P) z z) z) (n (o408 P) (n (o664 P) z z) z)) (n (o216 P) (n (o344 P) (n (o600 P) z z) z) (n (o472 P) (n (o728 P) z z) z))) (n (o120 P) (n (o184 P) (n (o312 P) (n (o568 P) z z) z) (n (o440 P) (n (o696 P) z z) z)) (n (o248 P) (n (o376 P) (n (o632 P) z z) z) (n (o504 P) z z)))))) (n (o12_0 P) (n (o20 P) (n (o36 P) (n (o68 P) (n (o132 P) (n (o260 P) (n (o516 P) z z) z) (n (o388 P) (n (o644 P) z z) z)) (n (o196 P) (n (o324 P) (n (o580 P) z z) z) (n (o452 P) (n (o708 P) z z) z))) (n (o100 P) (n (o164 P) (n (o292 P) (n (o548 P) z z) z) (n (o420 P) (n (o676 P) z z) z)) (n (o228 P) (n (o356 P) (n (o612 P) z z) z) (n (o484 P) (n (o740 P) z z) z)))) (n (o52_2 P) (n (o84 P) (n (o148 P) (n (o276 P) (n (o532 P) z z) z) (n (o404 P) (n (o660 P) z z) z)) (n (o212 P) (n (o340 P) (n (o596 P) z z) z) (n (o468 P) (n (o724 P) z z) z))) (n (o116 P) (n (o180 P) (n (o308 P) (n (o564 P) z z) z) (n (o436 P) (n (o692 P) z z) z)) (n (o244 P) (n (o372 P) (n (o628 P) z z) z) (n (o500 P) z z))))) (n (o28 P) (n (o44 P) (n (o76 P) (n (o140 P) (n (o268 P) (n (o524 P) z z) z) (n (o396 P) (n (o652 P) z z) z)) (n (o204 P) (n (o332 P) (n (o588 P) z z) z) (n (o460 P) (n (o716 P) z z) z))) (n (o108 P) (n (o172 P) (n (o300 P) (n (o556 P) z z) z) (n (o428 P) (n (o684 P) z z) z)) (n (o236 P) (n (o364 P) (n (o620 P) z z) z) (n (o492 P) z z)))) (n (o60 P) (n (o92 P) (n (o156 P) (n (o284 P) (n (o540 P) z z) z) (n (o412 P) (n (o668 P) z z) z)) (n (o220 P) (n (o348 P) (n (o604 P) z z) z) (n (o476 P) (n (o732 P) z z) z))) (n (o124 P) (n (o188 P) (n (o316 P) (n (o572 P) z z) z) (n (o444 P) (n (o700 P) z z) z)) (n (o252 P) (n (o380 P) (n (o636 P) z z) z) (n (o508 P) z z))))))) (n (o6 P) (n (o10 P) (n (o18 P) (n (o34 P) (n (o66 P) (n (o130 P) (n (o258 P) (n (o514 P) z z) z) (n (o386 P) (n (o642 P) z z) z)) (n (o194 P) (n (o322 P) (n (o578 P) z z) z) (n (o450 P) (n (o706 P) z z) z))) (n (o98 P) (n (o162 P) (n (o290 P) (n (o546 P) z z) z) (n (o418 P) (n (o674 P) z z) z)) (n (o226 P) (n (o354 P) (n (o610 P) z z) z) (n (o482 P) (n (o738 P) z z) z)))) (n (o50 P) (n (o82 P) (n (o146 P) (n (o274 P) (n (o530 P) z z) z) (n (o402 P) (n (o658 P) z z) z)) (n (o210 P) (n (o338 P) (n (o594 P) z z) z) (n (o466 P) (n (o722 P) z z) z))) (n (o114 P) (n (o178 P) (n (o306 P) (n (o562 P) z z) z) (n (o434 P) (n (o690 P) z z) z)) (n (o242 P) (n (o370 P) (n (o626 P) z z) z) (n (o498 P) z z))))) (n (o26 P) (n (o42 P) (n (o74 P) (n (o138 P) (n (o266 P) (n (o522 P) z z) z) (n (o394 P) (n (o650 P) z z) z)) (n (o202 P) (n (o330 P) (n (o586 P) z z) z) (n (o458 P) (n (o714 P) z z) z))) (n (o106 P) (n (o170 P) (n (o298 P) (n (o554 P) z z) z) (n (o426 P) (n (o682 P) z z) z)) (n (o234 P) (n (o362 P) (n (o618 P) z z) z) (n (o490 P) (n (o746 P) z z) z)))) (n (o58 P) (n (o90 P) (n (o154 P) (n (o282 P) (n (o538 P) z z) z) (n (o410 P) (n (o666 P) z z) z)) (n (o218 P) (n (o346 P) (n (o602 P) z z) z) (n (o474 P) (n (o730 P) z z) z))) (n (o122 P) (n (o186 P) (n (o314 P) (n (o570 P) z z) z) (n (o442 P) (n (o698 P) z z) z)) (n (o250 P) (n (o378 P) (n (o634 P) z z) z) (n (o506 P) z z)))))) (n (o14 P) (n (o22 P) (n (o38 P) (n (o70 P) (n (o134 P) (n (o262 P) (n (o518 P) z z) z) (n (o390 P) (n (o646 P) z z) z)) (n (o198 P) (n (o326 P) (n (o582 P) z z) z) (n (o454 P) (n (o710 P) z z) z))) (n (o102 P) (n (o166 P) (n (o294 P) (n (o550 P) z z) z) (n (o422 P) (n (o678 P) z z) z)) (n (o230 P) (n (o358 P) (n (o614 P) z z) z) (n (o486 P) (n (o742 P) z z) z)))) (n (o54 P) (n (o86 P) (n (o150 P) (n (o278 P) (n (o534 P) z z) z) (n (o406 P) (n (o662 P) z z) z)) (n (o214 P) (n (o342 P) (n (o598 P) z z) z) (n (o470 P) (n (o726 P) z z) z))) (n (o118 P) (n (o182 P) (n (o310 P) (n (o566 P) z z) z) (n (o438 P) (n (o694 P) z z) z)) (n (o246 P) (n (o374 P) (n (o630 P) z z) z) (n (o502 P) z z))))) (n (o30 P) (n (o46 P) (n (o78 P) (n (o142 P) (n (o270 P) (n (o526 P) z z) z) (n (o398 P) (n (o654 P) z z) z)) (n (o206 P) (n (o334 P) (n (o590 P) z z) z) (n (o462 P) (n (o718 P) z z) z))) (n (o110 P) (n (o174 P) (n (o302 P) (n (o558 P) z z) z) (n (o430 P) (n (o686 P) z z) z)) (n (o238 P) (n (o366 P) (n (o622 P) z z) z) (n (o494 P) z z)))) (n (o62 P) (n (o94 P) (n (o158 P) (n (o286 P) (n (o542 P) z z) z) (n (o414 P) (n (o670 P) z z) z)) (n (o222 P) (n (o350 P) (n (o606 P) z z) z) (n (o478 P) (n (o734 P) z z) z))) (n (o126 P) (n (o190 P) (n (o318 P) (n (o574 P) z z) z) (n (o446 P) (n (o702 P) z z) z)) (n (o254 P) (n (o382 P) (n (o638 P) z z) z) (n (o510 P) z z)))))))))
noncomputable def Xf (w : World) (os : OsState) : SharedT := ⟨tf w.params, 748, {}, #[], {}, 1364, os⟩
noncomputable def lf (P : Params) : List Obj := [o0 P, o1 P, o2_2 P, o3_6 P, o4 P, o5 P, o6 P, o7 P, o8 P, o9 P, o10 P, o11 P, o12_0 P, o13 P, o14 P, o15 P, o16 P, o17 P, o18 P, o19 P, o20 P, o21 P, o22 P, o23 P, o24 P, o25 P, o26 P, o27 P, o28 P, o29 P, o30 P, o31 P, o32 P, o33 P, o34 P, o35 P, o36 P, o37 P, o38 P, o39 P, o40_6 P, o41 P, o42 P, o43 P, o44 P, o45 P, o46 P, o47 P, o48 P, o49 P, o50 P, o51 P, o52_2 P, o53 P, o54 P, o55 P, o56 P, o57 P, o58 P, o59 P, o60 P, o61 P, o62 P, o63 P, o64 P, o65 P, o66 P, o67 P, o68 P, o69 P, o70 P, o71 P, o72 P, o73 P, o74 P, o75 P, o76 P, o77 P, o78 P, o79 P, o80 P, o81 P, o82 P, o83 P, o84 P, o85 P, o86 P, o87 P, o88 P, o89 P, o90 P, o91 P, o92 P, o93 P, o94 P, o95 P, o96 P, o97 P, o98 P, o99 P, o100 P, o101 P, o102 P, o103 P, o104 P, o105 P, o106 P, o107 P, o108 P, o109 P, o110 P, o111 P, o112 P, o113 P, o114 P, o115 P, o116 P, o117 P, o118 P, o119 P, o120 P, o121 P, o122 P, o123 P, o124 P, o125 P, o126 P, o127 P, o128 P, o129 P, o130 P, o131 P, o132 P, o133 P, o134 P, o135 P, o136 P, o137 P, o138 P, o139 P, o140 P, o141 P, o142 P, o143 P, o144 P, o145 P, o146 P, o147 P, o148 P, o149 P, o150 P, o151 P, o152 P, o153 P, o154 P, o155 P, o156 P, o157 P, o158 P, o159 P, o160 P, o161 P, o162 P, o163 P, o164 P, o165 P, o166 P, o167 P, o168 P, o169 P, o170 P, o171 P, o172 P, o173 P, o174 P, o175 P, o176 P, o177 P, o178 P, o179_3 P, o180 P, o181 P, o182 P, o183 P, o184 P, o185 P, o186 P, o187 P, o188 P, o189 P, o190 P, o191 P, o192 P, o193 P, o194 P, o195 P, o196 P, o197 P, o198 P, o199 P, o200 P, o201 P, o202 P, o203 P, o204 P, o205 P, o206 P, o207 P, o208 P, o209 P, o210 P, o211 P, o212 P, o213 P, o214 P, o215 P, o216 P, o217 P, o218 P, o219 P, o220 P, o221 P, o222 P, o223 P, o224 P, o225 P, o226 P, o227 P, o228 P, o229 P, o230 P, o231 P, o232 P, o233 P, o234 P, o235 P, o236 P, o237 P, o238 P, o239 P, o240 P, o241 P, o242 P, o243 P, o244 P, o245 P, o246 P, o247 P, o248 P, o249 P, o250 P, o251 P, o252 P, o253 P, o254 P, o255 P, o256 P, o257 P, o258 P, o259 P, o260 P, o261 P, o262 P, o263 P, o264 P, o265 P, o266 P, o267 P, o268 P, o269 P, o270 P, o271 P, o272 P, o273 P, o274 P, o275 P, o276 P, o277 P, o278 P, o279 P, o280 P, o281 P, o282 P, o283 P, o284 P, o285 P, o286 P, o287 P, o288 P, o289 P, o290 P, o291 P, o292 P, o293 P, o294 P, o295 P, o296 P, o297 P, o298 P, o299 P, o300 P, o301 P, o302 P, o303 P, o304 P, o305 P, o306 P, o307 P, o308 P, o309 P, o310 P, o311 P, o312 P, o313 P, o314 P, o315 P, o316 P, o317 P, o318 P, o319 P, o320 P, o321 P, o322 P, o323 P, o324 P, o325 P, o326 P, o327 P, o328 P, o329 P, o330 P, o331 P, o332 P, o333 P, o334 P, o335 P, o336 P, o337 P, o338 P, o339 P, o340 P, o341 P, o342 P, o343 P, o344 P, o345 P, o346 P, o347 P, o348 P, o349 P, o350 P, o351 P, o352 P, o353 P, o354 P, o355 P, o356 P, o357 P, o358 P, o359 P, o360 P, o361 P, o362 P, o363 P, o364 P, o365 P, o366 P, o367 P, o368 P, o369 P, o370 P, o371 P, o372 P, o373 P, o374 P, o375 P, o376 P, o377 P, o378 P, o379 P, o380 P, o381 P, o382 P, o383 P, o384 P, o385 P, o386 P, o387 P, o388 P, o389 P, o390 P, o391 P, o392 P, o393 P, o394 P, o395 P, o396 P, o397 P, o398 P, o399 P, o400 P, o401 P, o402 P, o403 P, o404 P, o405 P, o406 P, o407 P, o408 P, o409 P, o410 P, o411 P, o412 P, o413 P, o414 P, o415 P, o416 P, o417 P, o418 P, o419 P, o420 P, o421 P, o422 P, o423 P, o424 P, o425 P, o426 P, o427 P, o428 P, o429 P, o430 P, o431 P, o432 P, o433 P, o434 P, o435 P, o436 P, o437 P, o438 P, o439 P, o440 P, o441 P, o442 P, o443 P, o444 P, o445 P, o446 P, o447 P, o448 P, o449 P, o450 P, o451 P, o452 P, o453 P, o454 P, o455 P, o456 P, o457 P, o458 P, o459 P, o460 P, o461 P, o462 P, o463 P, o464 P, o465 P, o466 P, o467 P, o468 P, o469 P, o470 P, o471 P, o472 P, o473 P, o474 P, o475 P, o476 P, o477 P, o478 P, o479 P, o480 P, o481 P, o482 P, o483 P, o484 P, o485 P, o486 P, o487 P, o488 P, o489 P, o490 P, o491 P, o492 P, o493 P, o494 P, o495 P, o496 P, o497 P, o498 P, o499 P, o500 P, o501 P, o502 P, o503 P, o504 P, o505 P, o506 P, o507 P, o508 P, o509 P, o510 P, o511 P, o512 P, o513 P, o514 P, o515 P, o516 P, o517 P, o518 P, o519 P, o520 P, o521 P, o522 P, o523 P, o524 P, o525 P, o526 P, o527 P, o528 P, o529 P, o530 P, o531 P, o532 P, o533 P, o534 P, o535 P, o536 P, o537 P, o538 P, o539 P, o540 P, o541 P, o542 P, o543 P, o544 P, o545 P, o546 P, o547 P, o548 P, o549 P, o550 P, o551 P, o552 P, o553 P, o554 P, o555 P, o556 P, o557 P, o558 P, o559 P, o560 P, o561 P, o562 P, o563 P, o564 P, o565 P, o566 P, o567 P, o568 P, o569 P, o570 P, o571 P, o572 P, o573 P, o574 P, o575 P, o576 P, o577 P, o578 P, o579 P, o580 P, o581 P, o582 P, o583 P, o584 P, o585 P, o586 P, o587 P, o588 P, o589 P, o590 P, o591 P, o592 P, o593 P, o594 P, o595 P, o596 P, o597 P, o598 P, o599 P, o600 P, o601 P, o602 P, o603 P, o604 P, o605 P, o606 P, o607 P, o608 P, o609 P, o610 P, o611 P, o612 P, o613 P, o614 P, o615 P, o616 P, o617 P, o618 P, o619 P, o620 P, o621 P, o622 P, o623 P, o624 P, o625 P, o626 P, o627 P, o628 P, o629 P, o630 P, o631 P, o632 P, o633 P, o634 P, o635 P, o636 P, o637 P, o638 P, o639 P, o640 P, o641 P, o642 P, o643 P, o644 P, o645 P, o646 P, o647 P, o648 P, o649 P, o650 P, o651 P, o652 P, o653 P, o654 P, o655 P, o656 P, o657 P, o658 P, o659 P, o660 P, o661 P, o662 P, o663 P, o664 P, o665 P, o666 P, o667 P, o668 P, o669 P, o670 P, o671 P, o672 P, o673 P, o674 P, o675 P, o676 P, o677 P, o678 P, o679 P, o680 P, o681 P, o682 P, o683 P, o684 P, o685 P, o686 P, o687 P, o688 P, o689 P, o690 P, o691 P, o692 P, o693 P, o694 P, o695 P, o696 P, o697 P, o698 P, o699 P, o700 P, o701 P, o702 P, o703 P, o704 P, o705 P, o706 P, o707 P, o708 P, o709 P, o710 P, o711 P, o712 P, o713 P, o714 P, o715 P, o716 P, o717 P, o718 P, o719 P, o720 P, o721 P, o722 P, o723 P, o724 P, o725 P, o726 P, o727 P, o728 P, o729 P, o730 P, o731 P, o732 P, o733 P, o734 P, o735 P, o736 P, o737 P, o738 P, o739 P, o740 P, o741 P, o742 P, o743 P, o744 P, o745 P, o746 P, o747 P]
noncomputable def Yf (w : World) (os : OsState) : Shared := ⟨⟨⟨lf w.params⟩, {}⟩, #[], {}, 1364, os⟩
noncomputable def K (P : Params) : Frag := [(2, o2_2 P), (3, o3_6 P), (43, o43 P), (50, o50 P), (51, o51 P), (52, o52_2 P), (53, o53 P), (56, o56 P), (63, o63 P), (65, o65 P), (66, o66 P), (68, o68 P), (69, o69 P), (70, o70 P), (71, o71 P), (72, o72 P), (75, o75 P), (82, o82 P), (84, o84 P), (85, o85 P), (87, o87 P), (88, o88 P), (89, o89 P), (90, o90 P), (91, o91 P), (94, o94 P), (101, o101 P), (103, o103 P), (104, o104 P), (106, o106 P), (107, o107 P), (108, o108 P), (109, o109 P), (110, o110 P), (113, o113 P), (120, o120 P), (122, o122 P), (123, o123 P), (125, o125 P), (126, o126 P), (127, o127 P), (128, o128 P), (129, o129 P), (132, o132 P), (139, o139 P), (141, o141 P), (142, o142 P), (144, o144 P), (145, o145 P), (146, o146 P), (147, o147 P), (148, o148 P), (151, o151 P), (158, o158 P), (160, o160 P), (161, o161 P), (163, o163 P), (164, o164 P), (165, o165 P), (166, o166 P), (167, o167 P), (170, o170 P), (177, o177 P), (178, o178 P), (179, o179_3 P), (180, o180 P), (183, o183 P), (190, o190 P), (192, o192 P), (193, o193 P), (195, o195 P), (196, o196 P), (197, o197 P), (198, o198 P), (199, o199 P), (202, o202 P), (209, o209 P), (211, o211 P), (212, o212 P), (214, o214 P), (215, o215 P), (216, o216 P), (217, o217 P), (218, o218 P), (221, o221 P), (228, o228 P), (230, o230 P), (231, o231 P), (233, o233 P), (234, o234 P), (235, o235 P), (236, o236 P), (237, o237 P), (240, o240 P), (242, o242 P), (243, o243 P), (245, o245 P), (246, o246 P), (247, o247 P), (250, o250 P), (251, o251 P), (252, o252 P), (254, o254 P), (255, o255 P), (257, o257 P), (258, o258 P), (259, o259 P), (261, o261 P), (262, o262 P), (264, o264 P), (265, o265 P), (266, o266 P), (268, o268 P), (269, o269 P), (271, o271 P), (272, o272 P), (273, o273 P), (275, o275 P), (276, o276 P), (278, o278 P), (279, o279 P), (280, o280 P), (282, o282 P), (283, o283 P), (285, o285 P), (286, o286 P), (287, o287 P), (289, o289 P), (290, o290 P), (292, o292 P), (293, o293 P), (294, o294 P), (297, o297 P), (298, o298 P), (299, o299 P), (302, o302 P), (303, o303 P), (304, o304 P), (307, o307 P), (308, o308 P), (309, o309 P), (311, o311 P), (312, o312 P), (314, o314 P), (315, o315 P), (316, o316 P), (318, o318 P), (319, o319 P), (321, o321 P), (322, o322 P), (323, o323 P), (325, o325 P), (326, o326 P), (328, o328 P), (329, o329 P), (330, o330 P), (332, o332 P), (333, o333 P), (335, o335 P), (336, o336 P), (337, o337 P), (339, o339 P), (340, o340 P), (342, o342 P), (343, o343 P), (344, o344 P), (346, o346 P), (347, o347 P), (349, o349 P), (350, o350 P), (351, o351 P), (354, o354 P), (355, o355 P), (356, o356 P), (359, o359 P), (360, o360 P), (361, o361 P), (363, o363 P), (364, o364 P), (366, o366 P), (367, o367 P), (368, o368 P), (370, o370 P), (371, o371 P), (373, o373 P), (374, o374 P), (375, o375 P), (377, o377 P), (378, o378 P), (380, o380 P), (381, o381 P), (382, o382 P), (384, o384 P), (385, o385 P), (387, o387 P), (388, o388 P), (389, o389 P), (391, o391 P), (392, o392 P), (394, o394 P), (395, o395 P), (396, o396 P), (398, o398 P), (399, o399 P), (401, o401 P), (402, o402 P), (403, o403 P), (405, o405 P), (406, o406 P), (408, o408 P), (409, o409 P), (410, o410 P), (412, o412 P), (413, o413 P), (415, o415 P), (416, o416 P), (417, o417 P), (419, o419 P), (420, o420 P), (422, o422 P), (423, o423 P), (424, o424 P), (426, o426 P), (427, o427 P), (429, o429 P), (430, o430 P), (431, o431 P), (433, o433 P), (434, o434 P), (436, o436 P), (437, o437 P), (438, o438 P), (441, o441 P), (442, o442 P), (443, o443 P), (445, o445 P), (446, o446 P), (448, o448 P), (449, o449 P), (450, o450 P), (452, o452 P), (453, o453 P), (455, o455 P), (456, o456 P), (457, o457 P), (459, o459 P), (460, o460 P), (462, o462 P), (463, o463 P), (464, o464 P), (467, o467 P), (468, o468 P), (476, o476 P), (478, o478 P), (479, o479 P), (481, o481 P), (482, o482 P), (483, o483 P), (486, o486 P), (487, o487 P), (488, o488 P), (489, o489 P), (490, o490 P), (491, o491 P), (493, o493 P), (494, o494 P), (496, o496 P), (497, o497 P), (498, o498 P), (499, o499 P), (501, o501 P), (502, o502 P), (504, o504 P), (505, o505 P), (506, o506 P), (507, o507 P), (509, o509 P), (510, o510 P), (512, o512 P), (513, o513 P), (514, o514 P), (515, o515 P), (517, o517 P), (518, o518 P), (520, o520 P), (521, o521 P), (522, o522 P), (523, o523 P), (525, o525 P), (526, o526 P), (528, o528 P), (529, o529 P), (530, o530 P), (532, o532 P), (533, o533 P), (535, o535 P), (536, o536 P), (537, o537 P), (539, o539 P), (540, o540 P), (542, o542 P), (543, o543 P), (544, o544 P), (545, o545 P), (546, o546 P), (547, o547 P), (548, o548 P), (551, o551 P), (553, o553 P), (554, o554 P), (556, o556 P), (557, o557 P), (558, o558 P), (560, o560 P), (561, o561 P), (563, o563 P), (564, o564 P), (565, o565 P), (567, o567 P), (568, o568 P), (570, o570 P), (571, o571 P), (572, o572 P), (574, o574 P), (575, o575 P), (577, o577 P), (578, o578 P), (579, o579 P), (582, o582 P), (583, o583 P), (584, o584 P), (586, o586 P), (587, o587 P), (589, o589 P), (590, o590 P), (591, o591 P), (594, o594 P), (595, o595 P), (596, o596 P), (598, o598 P), (599, o599 P), (601, o601 P), (602, o602 P), (603, o603 P), (605, o605 P), (606, o606 P), (608, o608 P), (609, o609 P), (610, o610 P), (612, o612 P), (613, o613 P), (615, o615 P), (616, o616 P), (617, o617 P), (619, o619 P), (620, o620 P), (622, o622 P), (623, o623 P), (624, o624 P), (626, o626 P), (627, o627 P), (629, o629 P), (630, o630 P), (631, o631 P), (633, o633 P), (634, o634 P), (636, o636 P), (637, o637 P), (638, o638 P), (640, o640 P), (641, o641 P), (643, o643 P), (644, o644 P), (645, o645 P), (647, o647 P), (648, o648 P), (650, o650 P), (651, o651 P), (652, o652 P), (655, o655 P), (656, o656 P), (657, o657 P), (659, o659 P), (660, o660 P), (662, o662 P), (663, o663 P), (664, o664 P), (667, o667 P), (668, o668 P), (669, o669 P), (672, o672 P), (673, o673 P), (674, o674 P), (676, o676 P), (677, o677 P), (679, o679 P), (680, o680 P), (681, o681 P), (683, o683 P), (684, o684 P), (686, o686 P), (687, o687 P), (688, o688 P), (690, o690 P), (691, o691 P), (693, o693 P), (694, o694 P), (695, o695 P), (697, o697 P), (698, o698 P), (700, o700 P), (701, o701 P), (702, o702 P), (705, o705 P), (706, o706 P), (726, o726 P), (729, o729 P), (730, o730 P), (731, o731 P), (733, o733 P), (734, o734 P), (736, o736 P), (737, o737 P), (738, o738 P), (741, o741 P), (742, o742 P), (743, o743 P), (746, o746 P), (747, o747 P)]
noncomputable def as : List Addr := [2, 3, 43, 50, 51, 52, 53, 56, 63, 65, 66, 68, 69, 70, 71, 72, 75, 82, 84, 85, 87, 88, 89, 90, 91, 94, 101, 103, 104, 106, 107, 108, 109, 110, 113, 120, 122, 123, 125, 126, 127, 128, 129, 132, 139, 141, 142, 144, 145, 146, 147, 148, 151, 158, 160, 161, 163, 164, 165, 166, 167, 170, 177, 178, 179, 180, 183, 190, 192, 193, 195, 196, 197, 198, 199, 202, 209, 211, 212, 214, 215, 216, 217, 218, 221, 228, 230, 231, 233, 234, 235, 236, 237, 240, 242, 243, 245, 246, 247, 250, 251, 252, 254, 255, 257, 258, 259, 261, 262, 264, 265, 266, 268, 269, 271, 272, 273, 275, 276, 278, 279, 280, 282, 283, 285, 286, 287, 289, 290, 292, 293, 294, 297, 298, 299, 302, 303, 304, 307, 308, 309, 311, 312, 314, 315, 316, 318, 319, 321, 322, 323, 325, 326, 328, 329, 330, 332, 333, 335, 336, 337, 339, 340, 342, 343, 344, 346, 347, 349, 350, 351, 354, 355, 356, 359, 360, 361, 363, 364, 366, 367, 368, 370, 371, 373, 374, 375, 377, 378, 380, 381, 382, 384, 385, 387, 388, 389, 391, 392, 394, 395, 396, 398, 399, 401, 402, 403, 405, 406, 408, 409, 410, 412, 413, 415, 416, 417, 419, 420, 422, 423, 424, 426, 427, 429, 430, 431, 433, 434, 436, 437, 438, 441, 442, 443, 445, 446, 448, 449, 450, 452, 453, 455, 456, 457, 459, 460, 462, 463, 464, 467, 468, 476, 478, 479, 481, 482, 483, 486, 487, 488, 489, 490, 491, 493, 494, 496, 497, 498, 499, 501, 502, 504, 505, 506, 507, 509, 510, 512, 513, 514, 515, 517, 518, 520, 521, 522, 523, 525, 526, 528, 529, 530, 532, 533, 535, 536, 537, 539, 540, 542, 543, 544, 545, 546, 547, 548, 551, 553, 554, 556, 557, 558, 560, 561, 563, 564, 565, 567, 568, 570, 571, 572, 574, 575, 577, 578, 579, 582, 583, 584, 586, 587, 589, 590, 591, 594, 595, 596, 598, 599, 601, 602, 603, 605, 606, 608, 609, 610, 612, 613, 615, 616, 617, 619, 620, 622, 623, 624, 626, 627, 629, 630, 631, 633, 634, 636, 637, 638, 640, 641, 643, 644, 645, 647, 648, 650, 651, 652, 655, 656, 657, 659, 660, 662, 663, 664, 667, 668, 669, 672, 673, 674, 676, 677, 679, 680, 681, 683, 684, 686, 687, 688, 690, 691, 693, 694, 695, 697, 698, 700, 701, 702, 705, 706, 726, 729, 730, 731, 733, 734, 736, 737, 738, 741, 742, 743, 746, 747]

/-! ### the run -/
noncomputable def q : Program := view T ([0, 2, 3, 4, 5, 6, 7, 8, 9, 10, 11, 12, 13, 14, 15, 17, 18, 19, 20, 21, 22, 24, 25, 26, 27, 28, 29, 30, 31, 32, 33, 35, 36, 37, 38, 39, 40, 41, 42, 43] ++ [44, 45, 46, 48, 49, 50, 51, 52, 53, 54, 55, 57, 58, 59, 60, 61, 62, 63, 64, 66, 67, 68, 69, 70, 71, 72, 73, 74, 75, 76, 77, 79, 80, 81, 82, 83, 84, 85, 86, 87] ++ [88, 89, 90])
noncomputable def loose : List PySem.Str := [s "MOST_SCALE", s "Shape"]
theorem ek : ∀ P, as = (K P).map (·.1) := fun _ => by kernel_rfl
noncomputable abbrev hk : Hook := kHook K as ek
noncomputable def ob (s : SharedT) : hk.α := as.map (HeadRun.getT s)
theorem ob_eq (s : SharedT) : ob s = hk.obs s.abs := List.map_congr_left fun a _ => HeadRun.getT_eq s a
noncomputable def ann : Option Value := (some (.ref 6))
noncomputable def B : List Stmt := behindTheImports T
noncomputable def E : Env := { scope := T.main.scope, locals := mainNs, globals := mainNs, cells := [], code := (.ref 41), frame := some 42 }
noncomputable abbrev C : Code := .body B E
noncomputable abbrev F : List Frame := [topFrame ⟨0, 0, 0, 0⟩]
noncomputable def os0 : OsState := (start (opening T)).1.os
noncomputable abbrev Xt (s : Shared) : Bool := xlAt q [] s && recOk R.toRowW.records s
theorem e_imp (w : World) : HeadRun.impF (stQ (opening T) w) 1121 (HeadRun.startT (opening T)) (start (opening T)).2 = some (Xi w os0) := by kernel_rfl
theorem a_i (w : World) (os : OsState) : (Xi w os).abs = Yi w os := by kernel_rfl
theorem a_0 (w : World) (os : OsState) : (X0 w os).abs = Y0 w os := by kernel_rfl
theorem e_fence (w : World) : HeadRun.fenceQ T (Yi w os0) = some (Y0 w os0) := by kernel_rfl
theorem e_ns (w : World) (os : OsState) : ((Y0 w os).heap.isNs mainGlobals && (Y0 w os).gens.size == 0) = true := by kernel_rfl
theorem e_ann (w : World) (os : OsState) : (Y0 w os).heap.nsMap mainGlobals "__annotations__" = ann := by kernel_rfl
theorem e_pre (w : World) (os : OsState) : goK (stQ T w) (okQ 39 ann) 12 (X0 w os) (topStub T) = some (Xa w os, ⟨HeadRun.denQ HeadRun.tabQ C, C, ⟨0, 0, 0, 0⟩, F⟩) := by kernel_rfl
theorem e_block (w : World) (os : OsState) : segF (stQ T w) (okQ 39 ann) 1 (Xa w os) ⟨(blockQ B E).wrap (fun _ => doneF .next) deadEnd id id, C, ⟨0, 0, 0, 0⟩, F⟩ = some (.next, Xb w os, C, ⟨0, 0, 0, 0⟩) := by kernel_rfl
noncomputable def L1 : List Stmt := [hT 1, hT 2, hT 3, hT 4, hT 5]
noncomputable abbrev S1 (w : World) (os : OsState) : Prop := segF (stQ T w) (okQ 39 ann) 931 (Xb w os) ⟨(execsQ L1 E).wrap doneF deadEnd id id, C, ⟨0, 0, 0, 0⟩, F⟩ = some (.next, X1 w os, C, ⟨15, 0, 19, 26⟩)
theorem e1 (w : World) (os : OsState) : S1 w os := by kernel_rfl
noncomputable def L2 : List Stmt := [hT 6, hT 7, hT 8, hT 9]
noncomputable abbrev S2 (w : World) (os : OsState) : Prop := segF (stQ T w) (okQ 39 ann) 932 (X1 w os) ⟨(execsQ L2 E).wrap doneF deadEnd id id, C, ⟨15, 0, 19, 26⟩, F⟩ = some (.next, X2 w os, C, ⟨35, 0, 36, 8⟩)
theorem e2 (w : World) (os : OsState) : S2 w os := by kernel_rfl
noncomputable def L3 : List Stmt := [hT 10, hT 11, hT 12, hT 13, hT 14, hT 15, hT 16, hT 17, hT 18, hT 19, hT 20, hT 21, hT 22, hT 23, hT 24]
noncomputable abbrev S3 (w : World) (os : OsState) : Prop := segF (stQ T w) (okQ 39 ann) 990 (X2 w os) ⟨(execsQ L3 E).wrap doneF deadEnd id id, C, ⟨35, 0, 36, 8⟩, F⟩ = some (.next, X3 w os, C, ⟨74, 0, 78, 30⟩)
theorem e3 (w : World) (os : OsState) : S3 w os := by kernel_rfl
noncomputable def L4 : List Stmt := [hT 25, hT 26, hT 27, hT 28, hT 29, hT 30, hT 31, hT 32, hT 33, hT 34, hT 35, hT 36, hT 37, hT 38, hT 39, hT 40, hT 41, hT 42, hT 43, hT 44, hT 45, hT 46, hT 47, hT 48, hT 49, hT 50, hT 51, hT 52, hT 53, hT 54, hT 55, hT 56]
noncomputable abbrev S4 (w : World) (os : OsState) : Prop := segF (stQ T w) (okQ 39 ann) 910 (X3 w os) ⟨(execsQ L4 E).wrap doneF deadEnd id id, C, ⟨74, 0, 78, 30⟩, F⟩ = some (.next, X4 w os, C, ⟨259, 0, 259, 8⟩)
theorem e4 (w : World) (os : OsState) : S4 w os := by kernel_rfl
noncomputable def L5 : List Stmt := [hT 57, hT 58, hT 59, hT 60, hT 61, hT 62]
noncomputable abbrev S5 (w : World) (os : OsState) : Prop := segF (stQ T w) (okQ 39 ann) 995 (X4 w os) ⟨(execsQ L5 E).wrap doneF deadEnd id id, C, ⟨259, 0, 259, 8⟩, F⟩ = some (.next, X5 w os, C, ⟨328, 0, 338, 27⟩)
theorem e5 (w : World) (os : OsState) : S5 w os := by kernel_rfl
noncomputable def L6 : List Stmt := [hT 63, hT 64, hT 65, hT 66, hT 67, hT 68, hT 69, hT 70, hT 71, hT 72, hT 73, hT 74, hT 75, hT 76, hT 77, hT 78, hT 79, hT 80, hT 81, hT 82, hT 83, hT 84, hT 85, hT 86, hT 87, hT 88, hT 89, hT 90]
noncomputable abbrev S6 (w : World) (os : OsState) : Prop := segF (stQ T w) (okQ 39 ann) 796 (X5 w os) ⟨(execsQ L6 E).wrap doneF deadEnd id id, C, ⟨328, 0, 338, 27⟩, F⟩ = some (.next, X6 w os, C, ⟨524, 0, 525, 114⟩)
theorem e6 (w : World) (os : OsState) : S6 w os := by kernel_rfl
theorem e_fin (w : World) (os : OsState) : HeadRun.goF (stQ T w) 39 ann 2 (X6 w os) ⟨doneF .next, C, ⟨524, 0, 525, 114⟩, F⟩ = some (Xf w os) := by kernel_rfl
theorem e_body : B = (L1 ++ (L2 ++ (L3 ++ (L4 ++ (L5 ++ (L6 ++ [])))))) := by kernel_rfl
theorem a_f (w : World) (os : OsState) : (Xf w os).abs = Yf w os := by kernel_rfl
theorem l_stat (w : World) (os : OsState) : staticsQ (importedModules T.main.body) (Y0 w os).heap (Yf w os).heap = true := by kernel_rfl
theorem l_names (w : World) (os : OsState) : namesQ T (Yf w os).heap = true := by kernel_rfl
theorem l_gens (w : World) (os : OsState) : gensDone (Yf w os) = true := by kernel_rfl
theorem l_laid (w : World) (os : OsState) : laidQ (Y0 w os).heap (Yf w os).heap = true := by kernel_rfl
theorem c1 (w : World) (os : OsState) : seen ((recsOf q).map (·.name)) (ownsOf q) [] { (Yf w os) with gens := #[] } = expectedOf q := by
  rw [PySem.W.Fast.te5160383126252970620, PySem.W.Fast.te3399658132070893891, PySem.W.Fast.te5991557255702980513, PySem.W.Fast.te17202137643295693207]
  kernel_rfl
theorem c2 (w : World) (os : OsState) : (Yf w os).heap.bltView = bltViewBooted := by
  rw [PySem.W.Fast.te3886120067097387239]
  kernel_rfl
theorem c3 (w : World) (os : OsState) : (Yf w os).heap.keysOk (looseW q loose) ((recsOf q).map (·.name)) ((litsOf q).map (·.1)) ((clssOf q (looseW q loose)).map (·.name)) = true := by
  rw [PySem.W.Fast.te10880121769531294198, PySem.W.Fast.te821141287760084731, PySem.W.Fast.te3399658132070893891, PySem.W.Fast.te7409074990110511671, PySem.W.Fast.te13664370479719496447]
  kernel_rfl
theorem c4 (w : World) (os : OsState) : (Yf w os).heap.accountedOkI (importedModules T.main.body) = true := by
  rw [PySem.W.Fast.te14722251495701143533]
  kernel_rfl
theorem c5 (w : World) (os : OsState) : tablesOk q (Yf w os).heap = true := by
  rw [PySem.W.Fast.te10994771534591457954]
  kernel_rfl
theorem c6 (w : World) (os : OsState) : Xt (Yf w os) = true := by kernel_rfl
theorem c7 (w : World) (os : OsState) : tabsOk q (Yf w os) = true := by
  rw [PySem.W.Fast.te479339242167458305]
  kernel_rfl
theorem c8 (w : World) (os : OsState) : pinSeenD q (drecsOf q) (Yf w os) = pinGoodD (drecsOf q) := by
  rw [PySem.W.Fast.te16090120013241838585, PySem.W.Fast.te3247288618530077131, PySem.W.Fast.te15722437165473765228]
  kernel_rfl
theorem c9 (w : World) (os : OsState) : plainSeenE q (looseW q loose) (Yf w os) = plainGoodE q (looseW q loose) := by
  rw [PySem.W.Fast.te2386780881361962483, PySem.W.Fast.te821141287760084731, PySem.W.Fast.te11434641657110253636]
  kernel_rfl
theorem c10 (w : World) (os : OsState) : plainSeenD q loose (Yf w os) = plainGoodD q loose := by
  rw [PySem.W.Fast.te11698064438423848299, PySem.W.Fast.te6545441873122501937]
  kernel_rfl
theorem c11 (w : World) (os : OsState) : wideSeen q (Yf w os) = wideGood q := by
  rw [PySem.W.Fast.te7317090234206586261, PySem.W.Fast.te9017663842625078692]
  kernel_rfl
theorem c12 (w : World) (os : OsState) : clsSeenW q loose (Yf w os) = clsGoodW q loose := by
  rw [PySem.W.Fast.te7369524293546568484, PySem.W.Fast.te17432349009858465958]
  kernel_rfl
theorem c13 (w : World) (os : OsState) : ((Yf w os).heap.isNs mainGlobals && (Yf w os).heap.isNs builtinsNs) = true := by kernel_rfl
theorem l_seen (w : World) (os : OsState) : openSeen q loose (importedModules T.main.body) Xt true (Yf w os) = openGood q loose := seen_ok (c1 w os) (c2 w os) (c3 w os) (c4 w os) (c5 w os) (c6 w os) (c7 w os) (c8 w os) (c9 w os) (c10 w os) (c11 w os) (c12 w os) (c13 w os) rfl
theorem l_ob (w : World) (os : OsState) : ob (Xf w os) = hk.val w := by kernel_rfl
theorem r_fin (w : World) (os : OsState) : topRun treeTable T w 39 ann 2 (X6 w os).abs (restOf [] E C ⟨524, 0, 525, 114⟩ F) = some (Xf w os).abs := fin_ok (e_fin w os)
theorem r6 (w : World) (os : OsState) : topRun treeTable T w 39 ann (796 + 2) (X5 w os).abs (restOf (L6 ++ []) E C ⟨328, 0, 338, 27⟩ F) = some (Xf w os).abs := some_ok (rest := []) (e6 w os) (r_fin w os)
theorem r5 (w : World) (os : OsState) : topRun treeTable T w 39 ann (995 + 798) (X4 w os).abs (restOf (L5 ++ (L6 ++ [])) E C ⟨259, 0, 259, 8⟩ F) = some (Xf w os).abs := some_ok (rest := (L6 ++ [])) (e5 w os) (r6 w os)
theorem r4 (w : World) (os : OsState) : topRun treeTable T w 39 ann (910 + 1793) (X3 w os).abs (restOf (L4 ++ (L5 ++ (L6 ++ []))) E C ⟨74, 0, 78, 30⟩ F) = some (Xf w os).abs := some_ok (rest := (L5 ++ (L6 ++ []))) (e4 w os) (r5 w os)
theorem r3 (w : World) (os : OsState) : topRun treeTable T w 39 ann (990 + 2703) (X2 w os).abs (restOf (L3 ++ (L4 ++ (L5 ++ (L6 ++ [])))) E C ⟨35, 0, 36, 8⟩ F) = some (Xf w os).abs := some_ok (rest := (L4 ++ (L5 ++ (L6 ++ [])))) (e3 w os) (r4 w os)
theorem r2 (w : World) (os : OsState) : topRun treeTable T w 39 ann (932 + 3693) (X1 w os).abs (restOf (L2 ++ (L3 ++ (L4 ++ (L5 ++ (L6 ++ []))))) E C ⟨15, 0, 19, 26⟩ F) = some (Xf w os).abs := some_ok (rest := (L3 ++ (L4 ++ (L5 ++ (L6 ++ []))))) (e2 w os) (r3 w os)
theorem r1 (w : World) (os : OsState) : topRun treeTable T w 39 ann (931 + 4625) (Xb w os).abs (restOf (L1 ++ (L2 ++ (L3 ++ (L4 ++ (L5 ++ (L6 ++ [])))))) E C ⟨0, 0, 0, 0⟩ F) = some (Xf w os).abs := some_ok (rest := (L2 ++ (L3 ++ (L4 ++ (L5 ++ (L6 ++ [])))))) (e1 w os) (r2 w os)
theorem r_block (w : World) (os : OsState) : topRun treeTable T w 39 ann (1 + 5556) (Xa w os).abs ⟨denote treeTable (.body B E), C, ⟨0, 0, 0, 0⟩, F⟩ = some (Xf w os).abs := block_ok (e_block w os) (by rw [show restOf B E C ⟨0, 0, 0, 0⟩ F = restOf (L1 ++ (L2 ++ (L3 ++ (L4 ++ (L5 ++ (L6 ++ [])))))) E C ⟨0, 0, 0, 0⟩ F from congrArg (fun b => restOf b E C ⟨0, 0, 0, 0⟩ F) e_body]; exact r1 w os)
theorem r_all (w : World) (os : OsState) : topRun treeTable T w 39 ann (12 + 5557) (X0 w os).abs (topStub T) = some (Xf w os).abs := pre_ok (e_pre w os) (r_block w os)
theorem left_T : LeftO T q loose Xt hk.obs hk.val 11922 true := left_cut fun w => ⟨X0 w os0, Y0 w os0, Yf w os0, ann, open_ok (imp_mono 10801 _ _ _ _ (e_imp w)) (a_i w os0) (e_fence w) (a_0 w os0), a_0 w os0, e_ns w os0, e_ann w os0,
  (topRun_mono 6353 _ _ _ _ (r_all w os0)).trans (congrArg some (a_f w os0)), l_stat w os0, l_names w os0, l_gens w os0, l_laid w os0, l_seen w os0, by rw [← a_f w os0]; exact (ob_eq _).symm.trans (l_ob w os0)⟩
theorem left : LeftO R.prog q loose Xt hk.obs hk.val 11922 true := by
  rw [pT]
  exact left_T
noncomputable abbrev d : DefRec := HeadRun.topDef R.prog 90
theorem hd (said : R.wellSaid = true) (hw : R.toRowW.promised) (hc : WalkO q loose (XL q []) hk.says R.toRowW d [] (fun f vs => PySem.call f vs)) : R.Holds :=
  holds_open (r := R) (q := q) (loose := loose) (XP := XL q []) (YP := hk.says) (d := d) (kwd := []) left hk.of hk.keeps (fun s z => xl_of s (Bool.and_eq_true_iff.mp z).1) XL.keeps (by kernel_rfl) (by kernel_rfl) (by rfl) (fun s z => recFacts_of (Bool.and_eq_true_iff.mp z).2) (by rfl) said (by decide +kernel) ⟨rfl, rfl, rfl, rfl, rfl, by decide +kernel⟩ hw hc
end Hd

/-! repr of data; lists whose place is told; defs run where no repr is under way. -/
namespace Xk
open PySem PySem.Spec PyProof.Rows L2
section
variable {X : Cx} {pins : List (Addr × Obj)} {σ : L2.St} {H : Hp} {s : Shared} {es : List Expr} {t : TA} {pos : Pos}
theorem past1 (I : Inv X pins σ H s) : ∀ p, s.heap.objs.size ≤ p → p ≠ sysModules := fun p hp e => by
  have h1 : mainGlobals < X.base.objs.size := I.ok.mod.glob.lt
  have h2 := I.ok.bsz
  have h3 := I.sz
  have e1 : p = (1 : Nat) := e
  have h4 : (3 : Nat) < X.base.objs.size := h1
  omega
/-- [e, ..], its place -/
def tLstN (t : TA) : TE := fun σ H Q => t σ H fun xs H1 => xs.length ≤ sizeLine ∧ ∀ p, H1 p = none → p ≠ sysModules → Q (.ref p) (upd H1 p (.lst xs))
theorem pe_lstN (h : PA X es t) : PE X (.List es pos) (tLstN t) := by
  refine ⟨fun pins s σ H Q I hq => ?_⟩
  refine wpAny_List_spliced (thn (h.run pos pins s σ H _ I hq) fun us s1 hh => ?_)
  obtain ⟨xs, H1, I1, r, z, q⟩ := hh
  refine ⟨by rw [← r.length]; exact z, ?_⟩
  have hf : H1 s1.heap.objs.size = none := I1.hok.fresh (Nat.le_refl _)
  refine ⟨.ref s1.heap.objs.size, upd H1 s1.heap.objs.size (.lst xs),
    I1.laid (t' := s1.toks) (fun b u e => Heap.get?_push_of_some _ e) (Nat.le_refl _) ?_, rfl, q _ hf (past1 I1 _ (Nat.le_refl _))⟩
  exact ⟨z, us, 0, r, Heap.get?_push_size _ rfl⟩
/-- xs * k, its place -/
def rRepN : R2 := fun x y H Q => ∃ l k xs, x = .ref l ∧ y = .int k ∧ H l = some (.lst xs) ∧ -(2 ^ 63) ≤ k ∧ k < 2 ^ 63 ∧ xs.length * k.toNat ≤ sizeLine ∧
  ∀ p, H p = none → p ≠ sysModules → Q (.ref p) (upd H p (.lst (List.replicate k.toNat xs).flatten))
theorem op_repN : OpR X (binaryOp .Mult) rRepN := by
  intro pins s σ H x y v u Q I rx ry h
  obtain ⟨l, k, xs, rfl, rfl, hH, h1, h2, hz, q⟩ := h
  cases rx
  obtain ⟨t, rfl⟩ := ry
  obtain ⟨z, its, n, r, hl, e⟩ := I.lstM hH
  have a1 : its.toArray.size * k.toNat ≤ sizeLine := by
    rw [List.size_toArray, ← hl]
    exact hz
  have a2 : ¬ its.toArray.size * k.toNat > (2 ^ 63 - 1) / 8 := by
    have h8 : (sizeLine : Nat) ≤ (2 ^ 63 - 1) / 8 := by decide
    omega
  have a3 : ¬ (!Builtin.List.listFitsIndex k) = true := by
    rw [fitsIndex_both h1 h2]; exact Bool.false_ne_true
  have a4 : ¬ Builtin.List.listTooLong (its.toArray.size * k.toNat) = true := by
    rw [notLongL a1]; exact Bool.false_ne_true
  have a5 : List.foldl (fun x1 x2 => x1 ++ x2) #[] (List.replicate (if its.toArray.isEmpty = true then 0 else k.toNat) its.toArray) =
      (List.replicate k.toNat its).flatten.toArray := by
    have f0 : ∀ m : Nat, List.foldl (fun x1 x2 => x1 ++ x2) #[] (List.replicate m its.toArray) = (List.replicate m its).flatten.toArray := fun m => by
      have := foldl_rep its m []
      rw [List.nil_append] at this; exact this
    rw [f0]
    cases its with
    | nil => simp
    | cons a r' => rw [if_neg (by simp)]
  refine wpAny_binaryOp_repeat_ref (T := "list") (U := "int") (by decide) ⟨_, e, rfl⟩ (fun s' => typeIs_int s' k t) noFill_list_mul F.fills_int_mul
    F.slot_int_rmul repeat_list F.slot_int_index.lookup
    (call_meets F.slot_int_rmul (typeIs_int s k t) F.entry_int_rmul (F.args_int_rmul_2 _ _) (int___rmul___int_list k t l its.toArray n)
      ⟨e, rfl, ⟨_, e, rfl⟩, call_meets F.slot_list_mul ⟨_, e, rfl⟩ F.entry_list_mul (F.args_list_mul_2 _ _)
        (AutoListH.list___mul___list_int_3 l its.toArray n k t a3 a2 a4) ⟨e, ?_⟩⟩)
  rw [a5]
  exact ⟨.ref _, _, I.lnew (t' := s.toks) (r.rep k.toNat) (by rw [PyProof.Rows.lm_len_rep_flat, Nat.mul_comm]; exact hz), rfl,
    q _ I.fresh (past1 I _ (Nat.le_refl _))⟩
end

/-! ### data -/
mutual
inductive Sh (H : Hp) : V → PyData → Prop
  | non : Sh H .non .none
  | bl (b : Bool) : Sh H (.bl b) (.bool b)
  | int (i : Int) : Sh H (.int i) (.int i)
  | str (x : Str) : Sh H (.str x) (.str x)
  | lst {a : Addr} {xs : List V} {ds : List PyData} : H a = some (.lst xs) → a ≠ sysModules → ShA H xs ds → Sh H (.ref a) (.list ds)
  | tup {a : Addr} {xs : List V} {ds : List PyData} : H a = some (.tup xs) → ShA H xs ds → Sh H (.ref a) (.tuple ds)
  | dct {a : Addr} {kvs : List (Int × Int)} : H a = some (.dK (kvs.map fun p => (Sum.inl p.1, V.int p.2))) →
      Sh H (.ref a) (.dict (kvs.map fun p => (PyData.int p.1, PyData.int p.2)))
inductive ShA (H : Hp) : List V → List PyData → Prop
  | nil : ShA H [] []
  | cons {v : V} {vs : List V} {d : PyData} {ds : List PyData} : Sh H v d → ShA H vs ds → ShA H (v :: vs) (d :: ds)
end
section
variable {H H' : Hp}
mutual
theorem Sh.same (k : Same H H') : ∀ (d : PyData) (v : V), Sh H v d → Sh H' v d
  | .none, _, h => by cases h; exact .non
  | .bool b, _, h => by cases h; exact .bl b
  | .int i, _, h => by cases h; exact .int i
  | .str x, _, h => by cases h; exact .str x
  | .list ds, _, h => by
    cases h with
    | lst e n a => exact .lst (k _ _ e) n (ShA.same k ds _ a)
  | .tuple ds, _, h => by
    cases h with
    | tup e a => exact .tup (k _ _ e) (ShA.same k ds _ a)
  | .dict _, _, h => by
    cases h with
    | dct e => exact .dct (k _ _ e)
theorem ShA.same (k : Same H H') : ∀ (ds : List PyData) (vs : List V), ShA H vs ds → ShA H' vs ds
  | [], _, h => by cases h; exact .nil
  | d :: ds, _, h => by
    cases h with
    | cons a b => exact .cons (Sh.same k d _ a) (ShA.same k ds _ b)
end
end
section
variable {X : Cx} {pins : List (Addr × Obj)} {σ : L2.St} {H : Hp} {s : Shared}
theorem ints_reads {h : Heap} : ∀ (l : List Int) (us : List Value), Vals (l.map V.int) us → ReadsAll h us (l.map PyData.int) []
  | [], _, r => by cases r; exact .nil
  | i :: l, _, r => by
    cases r with
    | cons r1 r2 =>
      obtain ⟨t, rfl⟩ := r1
      exact ReadsAll.cons (Reads.int i t) (ints_reads l _ r2)
theorem kv_reads {P : Program} {w : World} {h : Heap} : ∀ (kvs : List (Int × Int)) (es : List DictEntry) (vs : List (Key × Value)),
    KV (kvs.map fun p => ((Sum.inl p.1 : Key), V.int p.2)) vs → PySem.Pairs (mixKind P w) es vs →
    ReadsAll h (es.map (·.key)) (kvs.map fun p => PyData.int p.1) [] ∧ ReadsAll h (es.map (·.val)) (kvs.map fun p => PyData.int p.2) []
  | [], _, _, r, q => by
    cases r; cases q
    exact ⟨.nil, .nil⟩
  | (i, j) :: l, _, _, r, q => by
    cases r with
    | cons r1 r2 =>
      cases q with
      | cons q1 q2 q3 =>
        obtain ⟨h1, h2⟩ := kv_reads l _ _ r2 q3
        obtain ⟨e1, t, e2⟩ := r1
        rw [← e1] at q1
        obtain ⟨t2, e3⟩ := Value.isInt_shape (show Value.isInt i _ = true from q1)
        refine ⟨?_, ?_⟩
        · rw [List.map_cons, List.map_cons, e3]
          exact ReadsAll.cons (Reads.int i t2) h1
        · rw [List.map_cons, List.map_cons, q2, e2]
          exact ReadsAll.cons (Reads.int j t) h2
mutual
theorem Sh.reads (I : Inv X pins σ H s) : ∀ (d : PyData) (v : V) (u : Value), Sh H v d → RelV v u → ∃ as, Reads s.heap u d as ∧ sysModules ∉ as
  | .none, _, _, h, r => by
    cases h; cases r
    exact ⟨_, Reads.none, nofun⟩
  | .bool b, _, _, h, r => by
    cases h; cases r
    exact ⟨_, Reads.bool b, nofun⟩
  | .int i, _, _, h, r => by
    cases h
    obtain ⟨t, rfl⟩ := r
    exact ⟨_, Reads.int i t, nofun⟩
  | .str x, _, _, h, r => by
    cases h
    obtain ⟨t, rfl⟩ := r
    exact ⟨_, Reads.str x t, nofun⟩
  | .list ds, _, _, h, r => by
    cases h with
    | @lst a xs _ e n ha =>
      cases r
      obtain ⟨_, its, m, rv, ho⟩ := (show ObjOk X.prog X.w H s.heap a (.lst xs) from I.hok a _ e)
      obtain ⟨as, hr, hn⟩ := ShA.reads I ds _ its ha rv
      refine ⟨a :: as, Reads.list ho rfl rfl hr, fun hm => ?_⟩
      rcases List.mem_cons.mp hm with q | q
      · exact n q.symm
      · exact hn q
  | .tuple ds, _, _, h, r => by
    cases h with
    | @tup a xs _ e ha =>
      cases r
      obtain ⟨_, its, rv, o, ho, hc, n, hd⟩ := (show ObjOk X.prog X.w H s.heap a (.tup xs) from I.hok a _ e)
      obtain ⟨as, hr, hn⟩ := ShA.reads I ds _ its ha rv
      exact ⟨as, Reads.tuple ho hc hd hr, hn⟩
  | .dict _, _, _, h, r => by
    cases h with
    | @dct a kvs e =>
      cases r
      obtain ⟨_, hs, vs, rv, o, es, ep, ho, hc, hd, _, hpr, _⟩ := (show ObjOk X.prog X.w H s.heap a (.dK _) from I.hok a _ e)
      obtain ⟨h1, h2⟩ := kv_reads (h := s.heap) kvs _ _ rv hpr
      refine ⟨_, Reads.dict (as := []) (bs := []) ho hc.1 hd ?_ ?_, fun hm => ?_⟩
      · rw [List.map_map]; exact h1
      · rw [List.map_map]; exact h2
      · have q : sysModules = a := by simpa using hm
        rw [← q] at hs
        exact absurd hs (by decide)
theorem ShA.reads (I : Inv X pins σ H s) : ∀ (ds : List PyData) (vs : List V) (us : List Value), ShA H vs ds → Vals vs us → ∃ as, ReadsAll s.heap us ds as ∧ sysModules ∉ as
  | [], _, _, h, r => by
    cases h; cases r
    exact ⟨_, ReadsAll.nil, nofun⟩
  | d :: ds, _, _, h, r => by
    cases h with
    | cons h1 h2 =>
      cases r with
      | cons r1 r2 =>
        obtain ⟨as, q1, n1⟩ := Sh.reads I d _ _ h1 r1
        obtain ⟨bs, q2, n2⟩ := ShA.reads I ds _ _ h2 r2
        exact ⟨_, ReadsAll.cons q1 q2, fun hm => (List.mem_append.mp hm).elim n1 n2⟩
end
/-- repr(v), v an object -/
def rRepr : List V → Hp → VK → Prop := fun xs H Q => ∃ (a : Addr) (d : PyData), xs = [.ref a] ∧ Sh H (.ref a) d ∧ d.showable = true ∧ d.depth ≤ 20 ∧
  d.shown.length ≤ sizeLine ∧ Q (.str d.shown) H
theorem call_repr (hG : X.A.guards = some []) (hu : X.A.units + 21 < cLine) : CallR X (.builtin "repr") rRepr := by
  intro pins s σ H xs us Q I r h
  obtain ⟨a, d, rfl, hd, h1, h2, h3, q⟩ := h
  cases r with
  | cons rx rr =>
    cases rr
    obtain ⟨as, hr, hn⟩ := Sh.reads I d _ _ hd rx
    cases rx
    refine repr_of_reads' hr h1 (fun _ => hn) hG (by omega) (fun _ _ e => e) (fun h' u tk k => ?_) h3
    exact ⟨.str d.shown, H, I.kept k, ⟨u, rfl⟩, q⟩
end

/-! ### defs where no repr is under way -/
/-- the def at f keeps the promise sp wherever no guarded built-in runs -/
structure FnG (P : Program) (w : World) (K : PySem.W.Frag) (mg : Str → Option Value) (base : Heap) (k : Nat) (f : Addr) (fd : FuncData) (ps : List Str) (sp : Sp) : Prop where
  len : ∀ vs H Q E, sp vs H Q E → vs.length = ps.length
  run : ∀ (A : Around) (outer : List Env) (s : Shared) (H : Hp) (args : Args) (us : List Value) (vs : List V) (Q : VK) (E : XK), Room k A → A.guards = some [] →
    Env0 P w K mg base A outer s H → BindsTo s fd args (ps.zip us) → Vals vs us → sp vs H Q E → codeAny (model P w) A (.call (.ref f) args) (CR CX0 outer P w H s Q E) s
theorem fn_g {P : Program} {w : World} {K : PySem.W.Frag} {mg : Str → Option Value} {base : Heap} {k : Nat} {x qual : Str} {st : Stmt} {f : Addr} {fd : FuncData} {N ps : List Str} {sp : Sp}
    (F : Fun K x qual st f fd) (S : FnScope N ps (defScope st)) (len : ∀ vs H Q E, sp vs H Q E → vs.length = ps.length)
    (hbody : ∀ (cdv : Value) (A : Around) (outer : List Env) (s : Shared) (H : Hp) (vs : List V) (Q : VK) (E : XK),
      Room k (A.deeper (envOfC qual (defScope st) s.heap.objs.size f cdv)) → A.guards = some [] → sp vs H Q E →
      ∃ t, PSs (cxOf CX0 P w K mg base N qual (defScope st) f cdv A outer s H E).nox (defBody st) t ∧ t { nx := fun _ H' => Q .non H', rt := Q } (start N vs) H) :
    FnG P w K mg base (k + 1) f fd ps sp := by
  obtain ⟨oc, od, kV, doc, pm, an, cdv, ct, osl, rfl, lk, hcd⟩ := F.ex
  refine ⟨len, fun A outer s H args us vs Q E hr hG e0 hb r hsp => ?_⟩
  have hl := len _ _ _ _ hsp
  have KX : K.In s.heap := e0.mod.kin.keeps fun b o e => (e0.bs b o e).1
  have lim : s.heap.NoLimit := e0.mod.nolimit.keeps fun b o e => (e0.bs b o e).1
  have hkind : ∀ y ∈ ps.zip us, (defScope st).names.lookup y.1 = some .local ∨
      ((defScope st).names.lookup y.1 = some .cell ∧ ((cellsFrom (s.heap.objs.size + 1) (defScope st).names []).lookup y.1).isSome = true) := fun ⟨n, v⟩ hy => by
    rcases S.par n (List.of_mem_zip hy).1 with q | q
    · exact .inl q
    · exact .inr ⟨q, PySem.W.cellsFrom_some _ _ _ (.inl q)⟩
  refine codeAny_call_function hr.depth (KX _ _ lk) rfl S.co S.gen rfl (PySem.W.codeRec_of KX hcd) (hb _ _ _ _ ?_)
  refine wpAny_newFunctionEnv_cells S.kind hkind fun env he s1 x => ?_
  subst he
  refine ⟨lim.keeps x.toInCall.keep, codeAny_func ?_⟩
  obtain ⟨t, ht, hq⟩ := hbody cdv A outer s H vs Q E (hr.deeper _) hG hsp
  have I : Inv (cxOf CX0 P w K mg base N qual (defScope st) f cdv A outer s H E) [] (start N vs) H s1 := inv_start S hr.hd e0 hl r x
  refine wpAny_mono (ht.nox.run [] s1 (start N vs) H _ I hq) (fun fl s' hs => ?_) fun e s' hs => hs
  have fin : ∀ {σ' : L2.St} {H' : Hp} {v : V} {u : Value}, Inv (cxOf CX0 P w K mg base N qual (defScope st) f cdv A outer s H E) [] σ' H' s' → RelV v u → Q v H' → CE outer P w H s Q u s' :=
    fun {σ' H' v u} J rv q => ⟨v, H', J.os, J.bare, J.base, J.hok, rv, q⟩
  cases fl with
  | ret u =>
    obtain ⟨v, σ', H', J, rv, q⟩ := hs
    exact fin J rv q
  | next =>
    obtain ⟨σ', H', J, q⟩ := hs
    exact fin (v := V.non) (u := Value.none) J rfl q
  | brk =>
    obtain ⟨_, _, _, q⟩ := hs
    exact False.elim q
  | cont =>
    obtain ⟨_, _, _, q⟩ := hs
    exact False.elim q
section
variable {X : Cx} {k : Nat} {f : Addr} {fd : FuncData} {ps : List Str} {sp : Sp} {x : Str} {p pos : Pos} {e : Expr} {es : List Expr} {t : TA}
theorem pe_callg (F : FnG X.prog X.w X.K X.mg X.base k f fd ps sp) (hr : Room k X.A) (hG : X.A.guards = some []) (hg : Gl X x) (hm : X.mg x = some (.ref f)) (hk : PySem.W.keepIn X.K (.ref f) = true)
    (hb : Binds X.K fd ps []) (ha : PA X (e :: es) t) (hdb : (x == ("__debug__" : Str)) = false := by decide)
    (he : starEach (e :: es) X.env = (false, eval e X.env) :: starEach es X.env := by rfl) (hpl : (backTo pos (starEach es X.env)).any (·.1) = false := by rfl) :
    PE X (.Call (.Name x p) (e :: es) [] pos) (tCall sp [] E0 t) := by
  refine ⟨fun pins s σ H Q I h => ?_⟩
  refine wpAny_Call_Name_kw (ld_glob I hg hm ?_ hdb)
  refine PySem.W.callWith_K (h₀ := X.base) I.ok.mod.kin hk (thn (ha.run pos pins s σ H _ I h) fun us s1 ⟨vs, H1, I1, r, q⟩ => ⟨I1.kIn, ?_⟩) he hpl
  have q0 : sp (vs ++ []) H1 Q E0 := q
  rw [List.append_nil] at q0
  have hl : us.length = ps.length := by
    rw [← r.length]; exact F.len _ _ _ _ q0
  refine wpAny_call (codeAny_mono (F.run X.A X.stack s1 H1 ⟨us, []⟩ us vs Q E0 hr hG I1.env0 ?_ r q0) fun r s' hq => ?_)
  · have z := hb s1 us I1.kIn (by rw [List.append_nil]; exact hl)
    rw [List.append_nil] at z
    exact z
  · cases r with
    | error e => exact hq.elim
    | ok fl =>
      cases fl with
      | ret u => exact I1.after hq
      | next => exact False.elim hq
      | brk => exact False.elim hq
      | cont => exact False.elim hq
end
end Xk

/-! Rules of its own: // of any sign, a bool less a bool, a list's item read ahead of +=, enumerate of a tuple, a tuple backwards; loops over few items, turn by turn. -/
namespace Xq
open PySem PySem.Spec PyProof.Rows L2
section
variable {X : Cx}
def CDivX (_ j : Int) : Prop := j ≠ 0 ∧ j.natAbs.log2 < 9000
theorem op_fdivX : OpR X (binaryOp .FloorDiv) (rI CDivX fun i j => .int (i.fdiv j)) := opI fun i j _ _ _ _ _ hc q => floordiv_int hc.1 q (.inl (PyProof.noPylong_of_log2 hc.2))
/-- o[i], a list, by values -/
theorem get_list : PGet X (rIxL X.K) := by
  intro pins s σ H x y v u Q I rx ry h
  obtain ⟨p, xs, i, z, rfl, rfl, hq, he, q⟩ := h
  cases rx
  obtain ⟨t, rfl⟩ := ry
  obtain ⟨its, r, pl, hz⟩ := I.list hq
  obtain ⟨j, h1, h2, h3, h4, h5⟩ := atI_get he
  obtain ⟨w, ew, rw'⟩ := r.get h2
  have hl := r.length
  have hn := line63
  have fin : EP X pins σ Q w s := ⟨z, H, I, rw', q⟩
  by_cases h0 : 0 ≤ i
  · have hj : i.toNat = j := by
      rw [seqIndex_of h0 h5] at h1
      exact Option.some.inj h1
    exact wpAny_getItem_list pl.isList h0 (by omega) (by rw [hj]; simpa using ew) fin
  · have hj : (i + (its.toArray.size : Int)).toNat = j := by
      rw [seqIndex_neg (by omega) h4] at h1
      rw [List.size_toArray, ← hl]
      exact Option.some.inj h1
    exact wpAny_getItem_list_neg pl.isList (by omega) (by rw [List.size_toArray] <;> omega) (by omega) (by rw [hj]; simpa using ew) fin
/-- a bool less a bool -/
def rSubB : R2 := fun x y H Q => ∃ a b : Bool, x = .bl a ∧ y = .bl b ∧ Q (.int (b2i a - b2i b)) H
theorem op_subB : OpR X (binaryOp .Sub) rSubB := by
  intro pins s σ H x y v u Q I rx ry h
  obtain ⟨a, b, rfl, rfl, q⟩ := h
  cases rx
  cases ry
  exact sub_bool ⟨.int _, H, I.tok _, ⟨_, rfl⟩, q⟩
end

/-! ### enumerate(tuple) -/
theorem draws_tup {prog : Program} {w : World} {A : Around} (hh : A.handled = none) (it l : Addr) (hne : l ≠ it) (items : Array Value) :
    Draws prog w A it [it, l] items.size (fun i v => items[i]? = some v) (fun i h => h.IsTupleIter it l i ∧ h.IsTuple l items) where
  live := fun _ _ st => let ⟨o, ho, _⟩ := st.1; ⟨o, ho⟩
  frame := fun _ _ _ st hk => ⟨let ⟨o, ho, r⟩ := st.1; ⟨o, hk it (by simp) o ho, r⟩, let ⟨o, ho, r⟩ := st.2; ⟨o, hk l (by simp) o ho, r⟩⟩
  item := fun i s Q E hi st hQ => by
    refine RZ.nextOf_tuple_item st.1 st.2 (x := items[i]) (by simp [hi]) fun h' hit' hs' => ?_
    exact hQ _ h' s.toks (by simp [hi]) ⟨hit', st.2.extBut hs'.extBut hne⟩ hs'
  done := fun s Q E st hE => RZ.nextOf_tuple_end hh st.1 st.2 (by simp) hE
theorem meets_enumerate_newT (l : Addr) (items : Array Value) (n : Nat) (dct : Option Addr) (sl : Array (Option Value)) :
    Meets (Builtin.«enumerate.__new__» ⟨[.type "enumerate", .ref l], []⟩) (fun _ R s => s.heap.get? l = some { cls := .type "tuple", dict := dct, data := .seq items n, slots := sl } ∧
      R (.ok (.ret (.ref (s.heap.push { cls := .type "tuple_iterator", data := .fields #[.ref l, .int 0 0] }).objs.size)))
        { s with heap := (s.heap.push { cls := .type "tuple_iterator", data := .fields #[.ref l, .int 0 0] }).push { cls := .type "enumerate", data := .fields #[.none, .bool false, .ref s.heap.objs.size, rawInt 0, .none, .none] } }) :=
  .of_wp fun prog w A R s h => by
    obtain ⟨hp, g, d, tk, os⟩ := s; obtain ⟨hl, h⟩ := h
    have hsub := sub_enumerate
    have hL : Heap.IsTuple (Shared.heap ⟨hp, g, d, tk, os⟩) l items := ⟨_, hl, rfl, n, rfl⟩
    wp_walk using AutoSeq1.wpAny_loadPart' hl
    refine wpAny_stack_any fun st => wpAny_pure ?_
    split
    · rename_i c _ _ _ _ _
      cases (c == Value.type "enumerate")
      · wp_walk using AutoSeq1.wpAny_loadPart' hl, wpAny_pyIter_tuple hL
        exact ⟨_, rfl, h⟩
      · wp_walk using AutoSeq1.wpAny_loadPart' hl, wpAny_pyIter_tuple hL
        exact ⟨_, rfl, h⟩
    · wp_walk using AutoSeq1.wpAny_loadPart' hl, wpAny_pyIter_tuple hL
      exact ⟨_, rfl, h⟩
theorem call_enumerate_tuple {prog : Program} {w : World} {A : Around} {E : Value → Shared → Prop} {s : Shared} {l : Addr} {items : Array Value} {Q : Value → Shared → Prop} (hL : s.heap.IsTuple l items)
    (h : ∀ h', IsEnum h' (s.heap.objs.size + 1) s.heap.objs.size 0 .none → h'.IsTupleIter s.heap.objs.size l 0 → h'.objs.size = s.heap.objs.size + 2 →
      (∀ b o, s.heap.get? b = some o → h'.get? b = some o) → Q (.ref (s.heap.objs.size + 1)) { s with heap := h' }) :
    wpAny (model prog w) A (call (.type "enumerate") [.ref l]) Q E s := by
  obtain ⟨⟨c, dct, dt, sl⟩, hl, hc, n, hd⟩ := hL
  replace hc : c = .type "tuple" := hc
  replace hd : dt = .seq items n := hd
  subst hc hd
  refine callType_new F.called_enumerate (by decide) (F.typeCall_enumerate_1 _) (F.newCall_enumerate_1 _) (fun obj => F.args_object_init_2 obj _) F.entry_enumerate_new
    (meets_enumerate_newT l items n dct sl) ⟨hl, ?_⟩
  have hz : (s.heap.push { cls := .type "tuple_iterator", data := .fields #[.ref l, .int 0 0] }).objs.size = s.heap.objs.size + 1 := Heap.size_push ..
  show _ ∧ _
  rw [hz]
  have he : IsEnum ((s.heap.push { cls := .type "tuple_iterator", data := .fields #[.ref l, .int 0 0] }).push
      { cls := .type "enumerate", data := .fields #[.none, .bool false, .ref s.heap.objs.size, rawInt 0, .none, .none] }) (s.heap.objs.size + 1) s.heap.objs.size 0 .none := by
    have := Heap.get?_push_size (s.heap.push { cls := .type "tuple_iterator", data := .fields #[.ref l, .int 0 0] })
      (o := { cls := .type "enumerate", data := .fields #[.none, .bool false, .ref s.heap.objs.size, rawInt 0, .none, .none] }) rfl
    rw [hz] at this; exact this
  refine ⟨⟨_, he, rfl⟩, h _ he ⟨_, Heap.get?_push_of_some _ (Heap.get?_push_size _ rfl), rfl, rfl⟩ (by rw [Heap.size_push, hz]) fun b o x => Heap.get?_push_of_some _ (Heap.get?_push_of_some _ x)⟩
/-- the tuple at a, each item in a new pair -/
def IteT (K : PySem.W.Frag) (a : Addr) : It :=
  ⟨fun i H => ∃ (xs : List V) (x : V), SqT K H a xs ∧ xs[i]? = some x, fun i H v H' => ∃ T x, v = .ref T ∧ H T = none ∧ H' = upd H T (.tup [.int (i : Nat), x]) ∧ ∀ xs, SqT K H a xs → xs[i]? = some x, fun i H => ∃ xs : List V, SqT K H a xs ∧ xs.length ≤ i⟩
theorem isEnum_out {h : Heap} {e it : Addr} {i : Int} {x : Value} {T : Addr} (he : IsEnumOut h e it i x T) : IsEnumOut h e it i x T := he
theorem turn_enumT {P : Program} {w : World} {K : PySem.W.Frag} {elts : List Expr} {kk : Nat} {tpos : Pos} (a e it : Addr) :
    Turn P w K (.Tuple elts kk tpos) (IteT K a) [e, it] e (fun i h => (∃ old, IsEnum h e it ((i : Nat) : Int) old) ∧ h.IsTupleIter it a i ∧ e ≠ it ∧ a ≠ it ∧ a ≠ e) where
  mem := by simp
  obj := fun i h st b hb => by
    obtain ⟨⟨old, he⟩, ⟨o, ho, hc, hd⟩, _⟩ := st
    have e' : b = e ∨ b = it := by simpa using hb
    rcases e' with z | z
    · rw [z]; exact ⟨_, he, fun v q => nomatch q⟩
    · rw [z]; exact ⟨o, ho, fun v q => by rw [hd] at q; cases q⟩
  keep := fun i h h' st k => let ⟨⟨old, he⟩, ⟨o, ho, r⟩, hne⟩ := st; ⟨⟨old, k e (by simp) _ he⟩, ⟨o, k it (by simp) o ho, r⟩, hne⟩
  item := by
    intro X hP hw hK hc i pins s σ H E I hf st hg
    subst hP hw hK
    obtain ⟨⟨old, he⟩, hit, hne, hai, hae⟩ := st
    obtain ⟨xs, x, hq, hx⟩ := hg
    obtain ⟨its, rv, p, hz⟩ := I.tuple hq
    obtain ⟨u, hu, ru⟩ := rv.get hx
    have hel : e < s.heap.objs.size := Heap.lt_size he
    have hil : it < s.heap.objs.size := by obtain ⟨_, q, _⟩ := hit; exact Heap.lt_size q
    have hlt : i < its.toArray.size := by
      have q := List.getElem?_eq_some_iff.mp hu
      rw [List.size_toArray]
      exact q.1
    refine wpAny_pyNext_enum_itemD (draws_tup (prog := X.prog) (w := X.w) (A := X.A.in1) (I.ok.hd hc) it a hai its.toArray) he ⟨hit, (show s.heap.IsTuple a its.toArray from p)⟩ hlt hne (by simp [hne, Ne.symm hae]) fun y h' tk hP ho hit' hT hsz hk => ?_
    have ey : y = u := by
      have q : its.toArray[i]? = some u := by simpa using hu
      rw [q] at hP
      exact (Option.some.inj hP).symm
    subst ey
    refine ⟨_, rfl, wpAny_letOwnedTupleGo_enum (s := { s with heap := h', toks := tk + 1 }) ho fun h'' he' sb => ?_⟩
    have hT2 : h''.get? s.heap.objs.size = some { cls := .type "tuple", data := .seq #[.int i tk, y] } := (sb.2 _ (Nat.ne_of_gt hel)).trans hT
    have new : ObjOk X.prog X.w (upd H s.heap.objs.size (.tup [.int (i : Nat), x])) h'' s.heap.objs.size (.tup [.int (i : Nat), x]) :=
      ⟨by show 2 ≤ sizeLine; decide, [.int i tk, y], .cons ⟨_, rfl⟩ (.cons ru .nil), ⟨_, hT2, rfl, _, rfl⟩⟩
    have I1 : Inv X pins σ (upd H s.heap.objs.size (.tup [.int (i : Nat), x])) { s with heap := h'', toks := tk + 1 } :=
      I.turnedNew (ch := [e, it]) (fun b ob hb q => (sb.2 b (fun z => hb (by simp [z]))).trans (hk b ob (fun z => hb (by simp [z])) (fun z => hb (by simp [z])) q)) hf (Nat.le_refl _) new
    refine ⟨.ref s.heap.objs.size, _, I1, rfl, ⟨_, x, rfl, I.hok.fresh (Nat.le_refl _), rfl, fun ys hy => by rw [I.tuple_inj hy hq]; exact hx⟩, ⟨⟨y, ?_⟩, ?_, hne, hai, hae⟩, fun b hb => ?_⟩
    · have e1 : ((i + 1 : Nat) : Int) = (i : Int) + 1 := by omega
      rw [e1]; exact he'
    · obtain ⟨⟨o, ho2, r2⟩, _⟩ := hit'
      exact ⟨o, (sb.2 it (Ne.symm hne)).trans ho2, r2⟩
    · have hb' : b < s.heap.objs.size := by
        have e' : b = e ∨ b = it := by simpa using hb
        rcases e' with z | z
        · rw [z]; exact hel
        · rw [z]; exact hil
      rw [upd_ne (Nat.ne_of_lt hb')]
      exact (hf b hb).1
  done := by
    intro X hP hw hK hc i pins s σ H E I hf st hg
    subst hP hw hK
    obtain ⟨⟨old, he⟩, hit, hne, hai, hae⟩ := st
    obtain ⟨xs, hq, hx⟩ := hg
    obtain ⟨its, rv, p, hz⟩ := I.tuple hq
    obtain ⟨f0, f1, f2, f3, f4, f5⟩ := hf it (by simp)
    have hl := rv.length
    have hT : s.TypeIs (.ref e) "enumerate" := ⟨_, he, rfl⟩
    unfold pyNext
    refine wpAny_bind (wpAny_attempt (wpAny_callSpecial?_slot (name := Str.ofString "__next__") hT F.slot_enumerate_next
      (wpAny_call_entry F.slot_enumerate_next hT F.entry_enumerate_next ?_ (F.args_enumerate_next_1 _))))
    show wpAny _ _ (field (.ref e) 2 >>= _) _ _ _
    refine wpAny_bind (wpAny_field he rfl (x := .ref it) rfl ?_)
    refine wpAny_bind (RZ.nextOf_tuple_end (A := X.A.in1) (I.ok.hd hc) hit (show s.heap.IsTuple a its.toArray from p) (by simp; omega) fun h' x he' hx' => ?_)
    obtain ⟨o, ho, hc'⟩ := hx'
    refine wpAny_bind (wpAny_isInstance (T := "StopIteration") (b := true) ⟨o, ho, hc'⟩ isSubtype_stop ?_)
    exact wpAny_pure ⟨rfl, I.turned (t' := s.toks) (fun b o hb q => he' b o hb q) f0 f1 f3 f4 f5⟩
  self := fun A i s Q E st h => let ⟨⟨_, he⟩, _⟩ := st; wpAny_pyIter_enum he h
def iEnumT (K : PySem.W.Frag) (ta : TA) : TI := fun σ H R => ta σ H fun vs H1 => ∃ a xs, vs = [.ref a] ∧ SqT K H1 a xs ∧ R (IteT K a) H1
theorem pi_enumT {X : Cx} {e : Expr} {ta : TA} {p pos tpos : Pos} {elts : List Expr} {kk : Nat} (hg : Gl X "enumerate") (hm : X.mg "enumerate" = none) (ha : PA X [e] ta) (hs : starEach [e] X.env = [(false, eval e X.env)] := by rfl) :
    PI X (.Tuple elts kk tpos) (.Call (.Name "enumerate" p) [e] [] pos) (iEnumT X.K ta) := by
  refine ⟨fun pins s σ H R I h => ?_⟩
  refine Call_ (ld_blt I hg hm boot_enumerate (PyProof.Rows.callWith_type1 (thn (ha.run pos pins s σ H _ I h) fun us s1 ⟨vs, H1, I1, r1, q1⟩ => ?_) hs rfl))
  obtain ⟨a, xs, ex, hq, q⟩ := q1
  subst ex
  cases r1 with
  | cons r rr =>
    cases rr
    cases r
    obtain ⟨its, rv, p', hz⟩ := I1.tuple hq
    have hlt : a < s1.heap.objs.size := by
      obtain ⟨o, ho, _⟩ := id p'
      exact Heap.lt_size ho
    refine call_enumerate_tuple (show s1.heap.IsTuple a its.toArray from p') fun h' he hit hsz hk => wpAny_pyIter_enum he ?_
    have I2 : Inv X pins σ H1 { s1 with heap := h' } := I1.kept (t' := s1.toks) hk
    refine ⟨s1.heap.objs.size + 1, [s1.heap.objs.size + 1, s1.heap.objs.size], _, _, H1, rfl, I2, turn_enumT a (s1.heap.objs.size + 1) s1.heap.objs.size, ⟨⟨.none, he⟩, hit, Nat.succ_ne_self _, Nat.ne_of_lt hlt, Nat.ne_of_lt (Nat.lt_succ_of_lt hlt)⟩, fun b hb => ?_, q⟩
    have e' : b = s1.heap.objs.size + 1 ∨ b = s1.heap.objs.size := by simpa using hb
    have hle : s1.heap.objs.size ≤ b := by
      rcases e' with z | z
      · rw [z]; exact Nat.le_add_right _ _
      · rw [z]; exact Nat.le_refl _
    exact I1.fpOk hle (I1.hok.fresh hle)
end Xq

/-! A tuple of one or two backwards; loops turn by turn. -/
namespace Xq
open PySem PySem.Spec PyProof.Rows L2
section
variable {prog : Program} {w : World} {A : Around} {E : Value → Shared → Prop} {s : Shared}
theorem rev_places (n : Nat) (hn : n = 1 ∨ n = 2) : Builtin.Slice.sliceAdjust none none (-1) (n : Int) = ((n : Int) - 1, -1) ∧ Builtin.Slice.slicePlaces ((n : Int) - 1) (-1) (-1) = n := by
  rcases hn with rfl | rfl
  · exact ⟨rfl, rfl⟩
  · exact ⟨rfl, rfl⟩
theorem sliceApplied_rev {sl : Addr} {vl vu vs : Value} {n : Nat} {Q : Int × Int × Nat → Shared → Prop} (hn : n = 1 ∨ n = 2) (hs : s.heap.IsSliceOf sl vl vu vs) (pl : IsPart vl none) (pu : IsPart vu none) (ps : IsPart vs (some (-1)))
    (h : Q ((n : Int) - 1, -1, n) s) : wpAny (model prog w) A (Builtin.Slice.sliceApplied (.ref sl) (pure (n : Int))) Q E s := by
  obtain ⟨os, hos, hcs, hds⟩ := id hs
  unfold Builtin.Slice.sliceApplied Builtin.Slice.sliceFields
  refine wpAny_bind (wpAny_bind (wpAny_field hos hds (x := vl) rfl (wpAny_bind (wpAny_field hos hds (x := vu) rfl (wpAny_bind (wpAny_field hos hds (x := vs) rfl (wpAny_pure ?_)))))))
  refine wpAny_bind (HT.slicePart_ ps ?_)
  show wpAny _ _ (if ((-1 : Int) == 0) = true then _ else _) _ _ s
  rw [if_neg (by decide)]
  refine wpAny_bind (HT.slicePart_ pl (wpAny_bind (HT.slicePart_ pu (wpAny_bind (wpAny_pure ?_)))))
  show wpAny _ _ (match Builtin.Slice.sliceAdjust none none (-1) (n : Int) with | (lo, hi) => pure (lo, (-1 : Int), Builtin.Slice.slicePlaces lo hi (-1))) _ _ s
  rw [(rev_places n hn).1]
  show wpAny _ _ (pure ((n : Int) - 1, (-1 : Int), Builtin.Slice.slicePlaces ((n : Int) - 1) (-1) (-1))) _ _ s
  rw [(rev_places n hn).2]
  exact wpAny_pure h
theorem getItem_tuple_rev {t sl : Addr} {l : List Value} {vl vu vs : Value} {Q : Value → Shared → Prop} (hn : l.length = 1 ∨ l.length = 2) (ht : IsTup s.heap t l.toArray) (hs : s.heap.IsSliceOf sl vl vu vs) (pl : IsPart vl none) (pu : IsPart vu none) (ps : IsPart vs (some (-1)))
    (h : Q (.ref s.heap.objs.size) { s with heap := s.heap.push { cls := .type "tuple", data := .seq l.reverse.toArray } }) : wpAny (model prog w) A (getItem (.ref t) (.ref sl)) Q E s := by
  have htake : sizeOk (.seq l.reverse.toArray) := by
    show l.reverse.toArray.size ≤ sizeLine
    rw [List.size_toArray, List.length_reverse]
    have : 2 ≤ sizeLine := by decide
    omega
  obtain ⟨os, hos, hcs, hds⟩ := id hs
  have hTs : s.TypeIs (.ref sl) "slice" := ⟨os, hos, hcs⟩
  unfold getItem
  try with_reducible refine wpAny_holding ?_
  first | refine wpAny_bind (wpAny_pure ?_) | skip
  refine wpAny_bind (wpAny_sequenceKey ht.typeIs (by decide) ?_)
  refine wpAny_bind (wpAny_callSpecial?_slot (name := Str.ofString "__getitem__") ht.typeIs PyProof.Rows.slot_tuple_getitem
    (wpAny_call_entry PyProof.Rows.slot_tuple_getitem ht.typeIs entry_tuple_getitem ?_ (args_tuple_getitem _ _)))
  show wpAny _ _ (Builtin.Tuple.tupleItemsOf (.ref t) >>= _) _ _ s
  refine wpAny_bind (tupleItemsOf_ ht ?_)
  refine wpAny_bind (wpAny_typeOf hTs ?_)
  rw [if_pos (by decide)]
  refine wpAny_bind (sliceApplied_rev (n := l.toArray.size) (by rw [List.size_toArray]; exact hn) hs pl pu ps ?_)
  have hno : ¬ ((((l.toArray.size : Nat) : Int) - 1 == 0 && (-1 : Int) == 1 && l.toArray.size == l.toArray.size) = true) := by
    intro q
    rw [Bool.and_eq_true, Bool.and_eq_true] at q
    exact absurd q.1.2 (by decide)
  show wpAny _ _ (if (((l.toArray.size : Nat) : Int) - 1 == 0 && (-1 : Int) == 1 && l.toArray.size == l.toArray.size) = true then _ else _) _ _ s
  rw [if_neg hno]
  have pick : ((List.range l.toArray.size).filterMap fun (m : Nat) => l.toArray[((((l.toArray.size : Nat) : Int) - 1) + (m : Int) * (-1)).toNat]?).toArray = l.reverse.toArray := by
    rcases hn with e | e
    · match l, e with
      | [a], _ => rfl
    · match l, e with
      | [a, b], _ => rfl
  rw [pick]
  first
    | exact wpAny_bind (m := Builtin.Tuple.tupleExact _) (wpAny_newObj_type (wpAny_pure ⟨_, rfl, wpAny_pure h⟩) htake)
    | exact wpAny_bind (m := Builtin.Tuple.tupleExact _) (wpAny_newObj_type (wpAny_bind (wpAny_pure (wpAny_pure ⟨_, rfl, wpAny_pure h⟩))) htake)
    | exact wpAny_bind (wpAny_bind (m := Builtin.Tuple.tupleExact _) (wpAny_newObj_type (wpAny_pure (wpAny_pure ⟨_, rfl, wpAny_pure h⟩)) htake))
    | exact wpAny_bind (wpAny_bind (m := Builtin.Tuple.tupleExact _) (wpAny_newObj_type (wpAny_pure ⟨_, rfl, wpAny_pure h⟩) htake))
end
/-- t[::-1], t of one or two -/
def tRevT (K : PySem.W.Frag) (te : TE) : TE := fun σ H Q => te σ H fun x H1 => ∃ a xs, x = .ref a ∧ SqT K H1 a xs ∧ (xs.length = 1 ∨ xs.length = 2) ∧ ∀ p, H1 p = none → Q (.ref p) (upd H1 p (.tup xs.reverse))
theorem pe_revT {X : Cx} {e : Expr} {te : TE} {k : Nat} {p1 p2 p3 pos : Pos} (he : PE X e te) : PE X (.Subscript e (.Slice none none (some (.UnaryOp .USub (.Constant (.int 1) k p1) p2)) p3) pos) (tRevT X.K te) := by
  refine ⟨fun pins s σ H Q I h => ?_⟩
  refine Subscript_ (thn (he.run pins s σ H _ I h) fun v s1 ⟨x, H1, I1, r1, q1⟩ => ?_)
  obtain ⟨a, xs, ex, hx, hl, q⟩ := q1
  subst ex
  cases r1
  have hst : PO X (some (.UnaryOp .USub (.Constant (.int 1) k p1) p2)) (tPart (tUn (rU fun i => .int (-i)) (tC (.int 1)))) := po_some (pe_un un_neg pe_int)
  refine wpAny_Slice (thn (po_none.run pins s1 σ H1 (fun o H2 => o = none ∧ H2 = H1) I1 ⟨rfl, rfl⟩) fun vl s2 ⟨l, H2, I2, pl, el, e2⟩ => ?_)
  subst el e2
  refine thn (po_none.run pins s2 σ H2 (fun o H3 => o = none ∧ H3 = H2) I2 ⟨rfl, rfl⟩) fun vu s3 ⟨u, H3, I3, pu, eu, e3⟩ => ?_
  subst eu e3
  refine thn (hst.run pins s3 σ H3 (fun o H4 => o = some (-1) ∧ H4 = H3) I3 ⟨1, rfl, -1, rfl, rfl, rfl⟩) fun vs s4 ⟨o, H4, I4, ps, eo, e4⟩ => ?_
  subst eo e4
  have I5 : Inv X pins σ H4 { s4 with heap := s4.heap.push { cls := .type "slice", data := .fields #[vl, vu, vs] } } := I4.kept (t' := s4.toks) fun b ob q => Heap.get?_push_of_some _ q
  obtain ⟨its, r, ht, hz⟩ := I5.tuple hx
  have hlen := r.length
  show wpAny (model X.prog X.w) X.A (subscriptTail e (.Slice none none (some (.UnaryOp .USub (.Constant (.int 1) k p1) p2)) p3) (.ref a) (.ref s4.heap.objs.size)) (EP X pins σ Q) X.xe { s4 with heap := s4.heap.push { cls := .type "slice", data := .fields #[vl, vu, vs] } }
  refine tail_any (ops := [.ref a, .ref s4.heap.objs.size]) ht.typeIs (PyProof.Rows.slot_tuple_getitem.lookup) ?_ (by with_unfolding_all rfl)
  refine getItem_tuple_rev (by rw [← hlen]; exact hl) ht (Heap.IsSliceOf.new _ vl vu vs) pl pu ps ?_
  refine ⟨.ref _, _, I5.laid (t' := s4.toks) (o := .tup xs.reverse) (fun b ob q => Heap.get?_push_of_some _ q) (Nat.le_refl _) ?_, rfl, q _ (I5.hok.fresh (Nat.le_refl _))⟩
  exact ⟨by rw [List.length_reverse]; exact hz, _, r.reverse, IsTup.new _ _⟩

/-! ### turn by turn -/
section
variable {J : It} {n : Nat} {G : Hp → Prop} {g : TG} {tb : TS} {D : Ends}
/-- the turns of a for over xs -/
def unr (G : Hp → Prop) (g : TG) (tb : TS) (D : Ends) : List V → L2.St → Hp → Prop
  | [], σ, H => G H ∧ D.nx σ H
  | x :: r, σ, H => G H ∧ g x σ H fun σ2 H2 => tb { D with nx := unr G g tb D r, ct := unr G g tb D r, bk := D.nx } σ2 H2
theorem for_unr {xs : List V} (w : Walk J xs.length G (YAt xs)) {σ : L2.St} {H : Hp} (h : unr G g tb D xs σ H) :
    ∃ W : Nat → Nat → L2.St → Hp → Prop, (∃ m, W 0 m σ H) ∧ ∀ i m σ H, W i m σ H →
      (J.stop i H ∧ D.nx σ H) ∨ (J.go i H ∧ ∃ N : L2.St → Hp → Prop, (∀ σ' H', N σ' H' → ∃ m', m' < m ∧ W (i + 1) m' σ' H') ∧ ∀ x H', J.yld i H x H' → g x σ H' fun σ2 H2 => tb { D with nx := N, ct := N, bk := D.nx } σ2 H2) := by
  refine ⟨fun i m σ H => m = xs.length - i ∧ i ≤ xs.length ∧ unr G g tb D (xs.drop i) σ H, ⟨xs.length, by simp, Nat.zero_le _, h⟩, ?_⟩
  rintro i m σ H ⟨rfl, hi, p⟩
  by_cases hlt : i < xs.length
  · rw [List.drop_eq_getElem_cons hlt] at p
    obtain ⟨gg, p⟩ := p
    refine .inr ⟨w.goes i H hlt gg, unr G g tb D (xs.drop (i + 1)), fun σ' H' p' => ⟨xs.length - (i + 1), by omega, rfl, hlt, p'⟩, fun x H' y => ?_⟩
    obtain ⟨e, y2⟩ := w.yields i H x H' hlt gg y
    subst e
    rw [List.getElem?_eq_getElem hlt] at y2
    cases y2
    exact p
  · have e : i = xs.length := by omega
    subst e
    rw [List.drop_length] at p
    exact .inl ⟨w.stops H p.1, p.2⟩
/-- the turns of a for over enumerate -/
def unrE (G : Hp → Prop) (g : TG) (tb : TS) (D : Ends) : Nat → List V → L2.St → Hp → Prop
  | _, [], σ, H => G H ∧ D.nx σ H
  | i, x :: r, σ, H => G H ∧ ∀ T, H T = none → g (.ref T) σ (upd H T (.tup [.int (i : Nat), x])) fun σ2 H2 => tb { D with nx := unrE G g tb D (i + 1) r, ct := unrE G g tb D (i + 1) r, bk := D.nx } σ2 H2
theorem for_unrE {K : PySem.W.Frag} {a : Addr} {xs : List V} {σ : L2.St} {H : Hp} (h : unrE (fun H => SqT K H a xs) g tb D 0 xs σ H) :
    ∃ W : Nat → Nat → L2.St → Hp → Prop, (∃ m, W 0 m σ H) ∧ ∀ i m σ H, W i m σ H →
      ((IteT K a).stop i H ∧ D.nx σ H) ∨ ((IteT K a).go i H ∧ ∃ N : L2.St → Hp → Prop, (∀ σ' H', N σ' H' → ∃ m', m' < m ∧ W (i + 1) m' σ' H') ∧ ∀ x H', (IteT K a).yld i H x H' → g x σ H' fun σ2 H2 => tb { D with nx := N, ct := N, bk := D.nx } σ2 H2) := by
  refine ⟨fun i m σ H => m = xs.length - i ∧ i ≤ xs.length ∧ unrE (fun H => SqT K H a xs) g tb D i (xs.drop i) σ H, ⟨xs.length, by simp, Nat.zero_le _, h⟩, ?_⟩
  rintro i m σ H ⟨rfl, hi, p⟩
  by_cases hlt : i < xs.length
  · rw [List.drop_eq_getElem_cons hlt] at p
    obtain ⟨gg, p⟩ := p
    refine .inr ⟨⟨xs, xs[i], gg, by simp [hlt]⟩, unrE (fun H => SqT K H a xs) g tb D (i + 1) (xs.drop (i + 1)), fun σ' H' p' => ⟨xs.length - (i + 1), by omega, rfl, hlt, p'⟩, fun x H' y => ?_⟩
    obtain ⟨T, z, rfl, hT, rfl, y⟩ := y
    have y2 := y xs gg
    rw [List.getElem?_eq_getElem hlt] at y2
    cases y2
    exact p T hT
  · have e : i = xs.length := by omega
    subst e
    rw [List.drop_length] at p
    exact .inl ⟨⟨xs, p.1, Nat.le_refl _⟩, p.2⟩
/-- the turns of a comprehension over xs -/
def unrC (G : Hp → Prop) (g : TG) (tt : TT) (te : TE) (D : Addr) (vs : List Nat) (σ : L2.St) (Qd : Hp → Prop) : List V → Hp → Prop
  | [], H => G H ∧ Qd H
  | x :: r, H => G H ∧ g x (wipe σ vs) H fun σ2 H2 => wipe σ2 vs = wipe σ vs ∧ tt σ2 H2 fun b H3 =>
    if b = true then te σ2 H3 fun y H4 => ∃ acc, H4 D = some (.lst acc) ∧ acc.length < sizeLine ∧ unrC G g tt te D vs σ Qd r (upd H4 D (.lst (acc ++ [y]))) else unrC G g tt te D vs σ Qd r H3
theorem lc_unr {xs : List V} (w : Walk J xs.length G (YAt xs)) {tt : TT} {te : TE} {vs : List Nat} {σ : L2.St} {H1 : Hp} {D : Addr} {Qd : Hp → Prop} (h : unrC G g tt te D vs σ Qd xs (upd H1 D (.lst []))) :
    ∃ W : Nat → Nat → Hp → Prop, (∃ m, W 0 m (upd H1 D (.lst []))) ∧ ∀ i m H, W i m H →
      (J.stop i H ∧ Qd H) ∨ (J.go i H ∧ ∃ Nx : Hp → Prop, (∀ H', Nx H' → ∃ m', m' < m ∧ W (i + 1) m' H') ∧ ∀ x H', J.yld i H x H' → g x (wipe σ vs) H' fun σ2 H2 => wipe σ2 vs = wipe σ vs ∧ tt σ2 H2 fun b H3 =>
        if b = true then te σ2 H3 fun y H4 => ∃ acc, H4 D = some (.lst acc) ∧ acc.length < sizeLine ∧ Nx (upd H4 D (.lst (acc ++ [y]))) else Nx H3) := by
  refine ⟨fun i m H => m = xs.length - i ∧ i ≤ xs.length ∧ unrC G g tt te D vs σ Qd (xs.drop i) H, ⟨xs.length, by simp, Nat.zero_le _, h⟩, ?_⟩
  rintro i m H ⟨rfl, hi, p⟩
  by_cases hlt : i < xs.length
  · rw [List.drop_eq_getElem_cons hlt] at p
    obtain ⟨gg, p⟩ := p
    refine .inr ⟨w.goes i H hlt gg, unrC G g tt te D vs σ Qd (xs.drop (i + 1)), fun H' p' => ⟨xs.length - (i + 1), by omega, rfl, hlt, p'⟩, fun x H' y => ?_⟩
    obtain ⟨e, y2⟩ := w.yields i H x H' hlt gg y
    subst e
    rw [List.getElem?_eq_getElem hlt] at y2
    cases y2
    exact p
  · have e : i = xs.length := by omega
    subst e
    rw [List.drop_length] at p
    exact .inl ⟨w.stops H p.1, p.2⟩
/-- .. without a test -/
def unrY (G : Hp → Prop) (g : TG) (te : TE) (D : Addr) (vs : List Nat) (σ : L2.St) (Qd : Hp → Prop) : List V → Hp → Prop
  | [], H => G H ∧ Qd H
  | x :: r, H => G H ∧ g x (wipe σ vs) H fun σ2 H2 => wipe σ2 vs = wipe σ vs ∧ te σ2 H2 fun y H4 => ∃ acc, H4 D = some (.lst acc) ∧ acc.length < sizeLine ∧ unrY G g te D vs σ Qd r (upd H4 D (.lst (acc ++ [y])))
theorem unrY_eq {te : TE} {D : Addr} {vs : List Nat} {σ : L2.St} {Qd : Hp → Prop} : ∀ xs : List V, unrC G g tYes te D vs σ Qd xs = unrY G g te D vs σ Qd xs
  | [] => rfl
  | x :: r => by
    funext H
    unfold unrC unrY
    rw [unrY_eq r]
    simp only [tYes, if_true]
theorem lc_yes {xs : List V} (w : Walk J xs.length G (YAt xs)) {te : TE} {vs : List Nat} {σ : L2.St} {H1 : Hp} {D : Addr} {Qd : Hp → Prop} (h : unrY G g te D vs σ Qd xs (upd H1 D (.lst []))) :
    ∃ W : Nat → Nat → Hp → Prop, (∃ m, W 0 m (upd H1 D (.lst []))) ∧ ∀ i m H, W i m H →
      (J.stop i H ∧ Qd H) ∨ (J.go i H ∧ ∃ Nx : Hp → Prop, (∀ H', Nx H' → ∃ m', m' < m ∧ W (i + 1) m' H') ∧ ∀ x H', J.yld i H x H' → g x (wipe σ vs) H' fun σ2 H2 => wipe σ2 vs = wipe σ vs ∧ tYes σ2 H2 fun b H3 =>
        if b = true then te σ2 H3 fun y H4 => ∃ acc, H4 D = some (.lst acc) ∧ acc.length < sizeLine ∧ Nx (upd H4 D (.lst (acc ++ [y]))) else Nx H3) :=
  lc_unr w (by rw [unrY_eq]; exact h)
/-- the turns of a comprehension over a zip of two lists -/
def unrZ (G : Hp → Prop) (g : TG) (tt : TT) (te : TE) (D : Addr) (vs : List Nat) (σ : L2.St) (Qd : Hp → Prop) : List (V × V) → Hp → Prop
  | [], H => G H ∧ Qd H
  | x :: r, H => G H ∧ ∀ T, H T = none → g (.ref T) (wipe σ vs) (upd H T (.tup [x.1, x.2])) fun σ2 H2 => wipe σ2 vs = wipe σ vs ∧ tt σ2 H2 fun b H3 =>
    if b = true then te σ2 H3 fun y H4 => ∃ acc, H4 D = some (.lst acc) ∧ acc.length < sizeLine ∧ unrZ G g tt te D vs σ Qd r (upd H4 D (.lst (acc ++ [y]))) else unrZ G g tt te D vs σ Qd r H3
theorem lc_unrZ {K : PySem.W.Frag} {a b : Addr} {xs ys : List V} {tt : TT} {te : TE} {vs : List Nat} {σ : L2.St} {H1 : Hp} {D : Addr} {Qd : Hp → Prop}
    (h : unrZ (fun H => SqL K H a xs ∧ SqL K H b ys) g tt te D vs σ Qd (xs.zip ys) (upd H1 D (.lst []))) :
    ∃ W : Nat → Nat → Hp → Prop, (∃ m, W 0 m (upd H1 D (.lst []))) ∧ ∀ i m H, W i m H →
      ((Itz K a b).stop i H ∧ Qd H) ∨ ((Itz K a b).go i H ∧ ∃ Nx : Hp → Prop, (∀ H', Nx H' → ∃ m', m' < m ∧ W (i + 1) m' H') ∧ ∀ x H', (Itz K a b).yld i H x H' → g x (wipe σ vs) H' fun σ2 H2 => wipe σ2 vs = wipe σ vs ∧ tt σ2 H2 fun b H3 =>
        if b = true then te σ2 H3 fun y H4 => ∃ acc, H4 D = some (.lst acc) ∧ acc.length < sizeLine ∧ Nx (upd H4 D (.lst (acc ++ [y]))) else Nx H3) := by
  refine ⟨fun i m H => m = (xs.zip ys).length - i ∧ i ≤ (xs.zip ys).length ∧ unrZ (fun H => SqL K H a xs ∧ SqL K H b ys) g tt te D vs σ Qd ((xs.zip ys).drop i) H, ⟨(xs.zip ys).length, by simp, Nat.zero_le _, h⟩, ?_⟩
  rintro i m H ⟨rfl, hi, p⟩
  by_cases hlt : i < (xs.zip ys).length
  · rw [List.drop_eq_getElem_cons hlt] at p
    obtain ⟨⟨gx, gy⟩, p⟩ := p
    have hl := hlt
    rw [List.length_zip] at hl
    have h1 : i < xs.length := by omega
    have h2 : i < ys.length := by omega
    refine .inr ⟨⟨xs, ys, xs[i], ys[i], gx, gy, List.getElem?_eq_getElem h1, List.getElem?_eq_getElem h2⟩, unrZ (fun H => SqL K H a xs ∧ SqL K H b ys) g tt te D vs σ Qd ((xs.zip ys).drop (i + 1)), fun H' p' => ⟨(xs.zip ys).length - (i + 1), by omega, rfl, hlt, p'⟩, fun x H' y => ?_⟩
    obtain ⟨T, u, v, rfl, hT, rfl, y1, y2⟩ := y
    have e1 := y1 xs gx
    have e2 := y2 ys gy
    rw [List.getElem?_eq_getElem h1] at e1
    rw [List.getElem?_eq_getElem h2] at e2
    cases e1
    cases e2
    have p2 := p T hT
    rw [List.getElem_zip] at p2
    exact p2
  · have e : i = (xs.zip ys).length := by omega
    subst e
    rw [List.drop_length] at p
    refine .inl ⟨⟨xs, ys, p.1.1, p.1.2, ?_⟩, p.2⟩
    rw [List.length_zip]
    omega
/-- a while of at most k turns -/
def unrW (c : TT) (tb : TS) (D : Ends) : Nat → L2.St → Hp → Prop
  | 0, σ, H => c σ H fun b H1 => b = false ∧ D.nx σ H1
  | k + 1, σ, H => c σ H fun b H1 => if b = true then tb { D with nx := unrW c tb D k, ct := unrW c tb D k, bk := D.nx } σ H1 else D.nx σ H1
end
/-- a test's reading that may be weakened -/
def tMnT (t : TT) : TT := fun σ H Q => ∃ Q0 : Bool → Hp → Prop, t σ H Q0 ∧ ∀ b H1, Q0 b H1 → Q b H1
theorem pt_mn {X : Cx} {c : Expr} {t : TT} (h : PT X c t) : PT X c (tMnT t) := by
  refine ⟨fun pins s σ H Q I hq => ?_⟩
  obtain ⟨Q0, q0, im⟩ := hq
  exact thn (h.run pins s σ H Q0 I q0) fun b s1 ⟨H1, I1, q⟩ => ⟨H1, I1, im b H1 q⟩
def tWhU (t : TT) (tb : TS) : TS := fun D σ H => ∃ k, unrW t tb D k σ H
/-- while, a known number of turns at most -/
theorem ps_whU {X : Cx} {c : Expr} {body : List Stmt} {tc : TT} {tb : TS} {pos : Pos} (hp : PassesOwn (model X.prog X.w) X.A X.env X.xe) (hc : PT X c tc) (hb : PSs X body tb) : PS X (.While c body [] pos) (tWhU tc tb) := by
  have h := ps_while (pos := pos) hp (pt_mn hc) hb
  refine ⟨fun pins s σ H D I hq => h.run pins s σ H D I ?_⟩
  obtain ⟨k, hq⟩ := hq
  refine ⟨fun m σ H => unrW tc tb D m σ H, ⟨k, hq⟩, ?_⟩
  intro m σ H p
  cases m with
  | zero =>
    refine ⟨_, p, fun b H1 q => ?_⟩
    obtain ⟨rfl, q⟩ := q
    exact q
  | succ m =>
    refine ⟨_, p, fun b H1 q => ?_⟩
    cases b with
    | true => exact ⟨unrW tc tb D m, fun σ' H' p' => ⟨m, Nat.lt_succ_self m, p'⟩, q⟩
    | false => exact q
def tWhB (t : TT) (tb : TS) : TS := fun D σ H => ∃ (Pv : L2.St → Hp → Prop) (μ : L2.St → Hp → Nat), Pv σ H ∧ ∀ σ H, Pv σ H → t σ H fun b H1 =>
  if b = true then tb { D with nx := fun σ' H' => Pv σ' H' ∧ μ σ' H' < μ σ H, ct := fun σ' H' => Pv σ' H' ∧ μ σ' H' < μ σ H, bk := D.nx } σ H1 else D.nx σ H1
/-- while, by a word and a measure of the state -/
theorem ps_whB {X : Cx} {c : Expr} {body : List Stmt} {tc : TT} {tb : TS} {pos : Pos} (hp : PassesOwn (model X.prog X.w) X.A X.env X.xe) (hc : PT X c tc) (hb : PSs X body tb) : PS X (.While c body [] pos) (tWhB tc tb) := by
  have h := ps_while (pos := pos) hp (pt_mn hc) hb
  refine ⟨fun pins s σ H D I hq => h.run pins s σ H D I ?_⟩
  obtain ⟨Pv, μ, h0, hs⟩ := hq
  refine ⟨fun m σ H => m = μ σ H ∧ Pv σ H, ⟨_, rfl, h0⟩, ?_⟩
  rintro m σ H ⟨rfl, p⟩
  refine ⟨_, hs σ H p, fun b H1 q => ?_⟩
  cases b with
  | true => exact ⟨_, fun σ' H' ⟨p', l⟩ => ⟨_, l, rfl, p'⟩, q⟩
  | false => exact q
/-! ### what is never asked -/
theorem pe_nv {X : Cx} {e : Expr} : PE X e (fun _ _ _ => False) := ⟨fun _ _ _ _ _ _ h => False.elim h⟩
theorem ps_nv {X : Cx} {e : Stmt} : PS X e (fun _ _ _ => False) := ⟨fun _ _ _ _ _ _ h => False.elim h⟩
theorem pss_nv {X : Cx} {e : List Stmt} : PSs X e (fun _ _ _ => False) := ⟨fun _ _ _ _ _ _ h => False.elim h⟩
/-! ### heaps -/
theorem Same.put {H0 H1 : Hp} {p : Addr} {o : HO} (s : Same H0 H1) (h : H0 p = none) : Same H0 (upd H1 p o) := fun b u e => by
  rw [upd_ne (ne_of_none e h)]
  exact s b u e
theorem same_new {H : Hp} {p : Addr} {o : HO} (hp : H p = none) : Same H (upd H p o) := fun b u e => by
  rw [upd_ne (ne_of_none e hp)]
  exact e
theorem Same.new {H0 H1 : Hp} {p : Addr} {o : HO} (s : Same H0 H1) (h : H1 p = none) : Same H0 (upd H1 p o) := s.trans (same_new h)
theorem new_of {H0 H1 : Hp} {p : Addr} (s : Same H0 H1) (h : H1 p = none) : H0 p = none := by
  cases e : H0 p with
  | none => rfl
  | some u =>
    rw [s _ _ e] at h
    cases h
end Xq

/-! The defs' promises in one form; integers, fractions, terms. -/
namespace Xq
open PySem PySem.Spec PyProof.Rows L2
def top (i : Nat) : Stmt := PySem.Challenge.pw_likepanes_k29_whole_numbers_of_both_root.main.body.getD i (.Pass ⟨0, 0, 0, 0⟩)
/-- called with args a where pre holds, it gives a value of which post holds; what was tracked is as it was -/
def Prm {α : Type} (args : α → List V) (pre : α → Hp → Prop) (post : α → Hp → V → Hp → Prop) : Sp := fun vs H Q _ => ∃ a, vs = args a ∧ pre a H ∧ ∀ v H', Same H H' → post a H v H' → Q v H'
/-- a def of the module that keeps a promise, as it is called by its name -/
structure Cal (P : Program) (w : World) (K : PySem.W.Frag) (mg : Str → Option Value) (base : Heap) (k : Nat) (x : Str) (ps : List Str) (sp : Sp) : Prop where
  ex : ∃ f fd, FnOk P w K mg base CX0 k f fd ps sp ∧ Binds K fd ps [] ∧ mg x = some (.ref f) ∧ PySem.W.keepIn K (.ref f) = true ∧ ∃ oc od osl, K.lookup f = some ⟨oc, od, .func fd, osl⟩
/-- the def st stands under its name -/
structure Df (K : PySem.W.Frag) (mg : Str → Option Value) (x : Str) (st : Stmt) : Prop where
  ex : ∃ f fd, Fun K x x st f fd ∧ mg x = some (.ref f)
section
variable {X : Cx} {k j : Nat} {ps : List Str} {sp : Sp} {x : Str} {p pos : Pos} {e : Expr} {es : List Expr} {t : TA}
theorem pe_cl (C : Cal X.prog X.w X.K X.mg X.base k x ps sp) (hr : Room j X.A) (ha : PA X (e :: es) t) (hkj : k ≤ j := by decide) (hg : Gl X x := by rfl) (hdb : (x == ("__debug__" : Str)) = false := by decide)
    (he : starEach (e :: es) X.env = (false, eval e X.env) :: starEach es X.env := by rfl) (hpl : (backTo pos (starEach es X.env)).any (·.1) = false := by rfl) :
    PE X (.Call (.Name x p) (e :: es) [] pos) (tCall sp [] E0 t) := by
  obtain ⟨f, fd, F, b, m, kp, _⟩ := C.ex
  exact pe_call F (hr.mono hkj) hg m kp b .nil pass0 ha hdb he hpl
end
theorem mkC {P : Program} {w : World} {K : PySem.W.Frag} {mg : Str → Option Value} {base : Heap} {α : Type} {args : α → List V} {pre : α → Hp → Prop} {post : α → Hp → V → Hp → Prop} {N ps : List Str} {x : Str} {st : Stmt} {k : Nat}
    (D : Df K mg x st) (S : FnScope N ps (defScope st))
    (hb : ∀ (kV doc pm : Value) (an : Option Addr) (cdv ct : Value) (us : List Value), us.length = ps.length → bindArgs (PySem.W.fnOf x x (defArgs st) (defBody st) (defScope st) .none kV doc pm an cdv ct) ⟨us, []⟩ = pure (ps.zip us))
    (hl : ∀ a : α, (args a).length = ps.length)
    (h : ∀ (f : Addr) (cdv : Value) (A : Around) (outer : List Env) (s : Shared) (H : Hp) (a : α) (Q : VK) (E : XK), Room k (A.deeper (envOfC x (defScope st) s.heap.objs.size f cdv)) → pre a H →
      (∀ v H', Same H H' → post a H v H' → Q v H') →
      ∃ t, PSs (cxOf CX0 P w K mg base N x (defScope st) f cdv A outer s H E).nox (defBody st) t ∧ t { nx := fun _ H' => Q .non H', rt := Q } (L2.start N (args a)) H) :
    Cal P w K mg base (k + 1) x ps (Prm args pre post) := by
  obtain ⟨f, fd, F, m⟩ := D.ex
  have lk : ∃ oc od osl, K.lookup f = some ⟨oc, od, .func fd, osl⟩ := by
    obtain ⟨oc, od, kV, doc, pm, an, cdv, ct, osl, _, lk, _⟩ := F.ex
    exact ⟨oc, od, osl, lk⟩
  refine ⟨f, fd, F.ok S (fun vs H Q E h => ?_) (fun cdv A outer s H vs Q E hr hp => ?_), F.binds hb, m, F.kp, lk⟩
  · obtain ⟨a, rfl, _⟩ := h
    exact hl a
  · obtain ⟨a, rfl, hpre, hk⟩ := hp
    exact h f cdv A outer s H a Q E hr hpre hk
/-- of two promises either -/
def OrS (a b : Sp) : Sp := fun vs H Q E => a vs H Q E ∨ b vs H Q E
theorem Cal.or {P : Program} {w : World} {K : PySem.W.Frag} {mg : Str → Option Value} {base : Heap} {k : Nat} {x : Str} {ps : List Str} {a b : Sp} (C : Cal P w K mg base k x ps a) (C' : Cal P w K mg base k x ps b) : Cal P w K mg base k x ps (OrS a b) := by
  obtain ⟨f, fd, F, bb, m, kp, oc, od, osl, lk⟩ := C.ex
  obtain ⟨f', fd', F', _, m', _, oc', od', osl', lk'⟩ := C'.ex
  rw [m] at m'
  cases m'
  rw [lk] at lk'
  cases lk'
  refine ⟨f, fd, ⟨fun vs H Q E h => h.elim (F.len vs H Q E) (F'.len vs H Q E), ?_⟩, bb, m, kp, oc, od, osl, lk⟩
  intro A outer s H args us vs Q E hr e0 hbd r h
  rcases h with h | h
  · exact F.run A outer s H args us vs Q E hr e0 hbd r h
  · exact F'.run A outer s H args us vs Q E hr e0 hbd r h
/-- the built-ins' names are free -/
structure Bl (mg : Str → Option Value) : Prop where
  isinstance_ : mg "isinstance" = none
  int_ : mg "int" = none
  bool_ : mg "bool" = none
  tuple_ : mg "tuple" = none
  str_ : mg "str" = none
  len_ : mg "len" = none
  all_ : mg "all" = none
  range_ : mg "range" = none
  max_ : mg "max" = none
  min_ : mg "min" = none
  abs_ : mg "abs" = none
  enumerate_ : mg "enumerate" = none
  zip_ : mg "zip" = none
  divmod_ : mg "divmod" = none
  repr_ : mg "repr" = none
  gcd_ : mg "gcd" = some (.builtin "math.gcd")
  deg_ : ∃ t, mg "MOST_DEGREE" = some (.int 5 t)
  term_ : ∃ t, mg "MOST_TERM" = some (.int 1000 t)
  bits_ : ∃ t, mg "FIRST_BITS" = some (.int 64 t)
theorem gn {i : Nat} {v : V} {σ : L2.St} {H : Hp} {Q : L2.St → Hp → Prop} : gName i v σ H Q = Q (σ.set i (some v)) H := rfl
/-- a tuple of ints -/
def TI (H : Hp) (p : Addr) (xs : List Int) : Prop := H p = some (.tup (xs.map V.int))
def LI (H : Hp) (p : Addr) (xs : List Int) : Prop := H p = some (.lst (xs.map V.int))
theorem TI.same {H H' : Hp} {p : Addr} {xs : List Int} (s : Same H H') (h : TI H p xs) : TI H' p xs := s _ _ h
section
variable {P : Program} {w : World} {K : PySem.W.Frag} {mg : Str → Option Value} {base : Heap}
theorem pe_isi {X : Cx} {e : Expr} {te : TE} {p p2 pos : Pos} {x : Str} {v : V} {u : Value} (hg : Gl X "isinstance") (hm : X.mg "isinstance" = none) (he : PE X e te) (hg2 : Gl X x) (hm2 : X.mg x = none) (hv : bootBuiltins x = some u) (r : RelV v u)
    (hst : starEach [e, .Name x p2] X.env = (false, eval e X.env) :: starEach [.Name x p2] X.env := by rfl)
    (hn : x ≠ "__name__" := by decide) (hd : (x == ("__debug__" : Str)) = false := by decide) :
    PE X (.Call (.Name "isinstance" p) [e, .Name x p2] [] pos) (tCB (rIsi X.K) (tCons te (tCons (tC v) tNil))) :=
  pe_callB call_isi hg hm (by decide +kernel) (pa_cons he (pa_cons (pe_bltn hg2 hm2 hv r hn hd) pa_nil) hst) (by decide) (by decide) hst
abbrev spIsInt : Sp := Prm (α := Int) (fun i => [.int i]) (fun _ _ => True) (fun _ H v H' => v = .bl true ∧ H' = H)
theorem c_isint (D : Df K mg "is_integer" (top 17)) (B : Bl mg) : Cal P w K mg base 1 "is_integer" ["value"] spIsInt := by
  refine mkC D (N := ["value"]) (⟨rfl, rfl, rfl, by decide +kernel, rfl, by decide +kernel, by decide +kernel⟩) (fun _ _ _ _ _ _ us hl => match us, hl with | [_], _ => rfl) (fun _ => rfl) (fun f cdv A outer s H a Q E hr _ k => ?_)
  refine ⟨_, pss_one (ps_ret (pe_and (pe_isi (v := .ty "int") (by rfl) B.isinstance_ (pv 0) (by rfl) B.int_ PyProof.Rows.boot_int rfl) (pe_one (pe_not (pe_isi (v := .ty "bool") (by rfl) B.isinstance_ (pv 0) (by rfl) B.bool_ PyProof.Rows.boot_bool rfl))))), ?_⟩
  refine ⟨_, rfl, _, _, _, _, true, rfl, .ty _, .base (.int _), kit_ty (by decide +kernel), _, rfl, iteT ?_⟩
  refine ⟨_, rfl, _, _, _, _, false, rfl, .ty _, .base (.int _), kit_ty (by decide +kernel), _, rfl, k _ _ (Same.refl _) ⟨rfl, rfl⟩⟩
end
end Xq

namespace Xq
open PySem PySem.Spec PyProof.Rows L2
section
variable {P : Program} {w : World} {K : PySem.W.Frag} {mg : Str → Option Value} {base : Heap}
theorem s18 : FnScope ["values", "value"] ["values"] (defScope (top 18)) := (⟨rfl, rfl, rfl, by decide +kernel, rfl, by decide +kernel, by decide +kernel⟩)
/-- a tuple of two ints -/
abbrev pre2 : Addr × Int × Int → Hp → Prop := fun a H => TI H a.1 [a.2.1, a.2.2]
abbrev spAreInts : Sp := Prm (α := Addr × Int × Int) (fun a => [.ref a.1]) pre2 (fun _ H v H' => v = .bl true)
theorem c_areints (D : Df K mg "are_integers" (top 18)) (B : Bl mg) (C : Cal P w K mg base 1 "is_integer" ["value"] spIsInt) : Cal P w K mg base 2 "are_integers" ["values"] spAreInts := by
  refine mkC D s18 (fun _ _ _ _ _ _ us hl => match us, hl with | [_], _ => rfl) (fun _ => rfl) (fun f cdv A outer s H a Q E hr h k => ?_)
  obtain ⟨p, x, y⟩ := a
  refine ⟨_, pss_one (ps_ret (pe_callB (cr_all rfl) (by rfl) B.all_ PyProof.Rows.boot_all (pa_cons
    (pe_lc (own := [("value", 1)]) (g := gName 1) (tt := tYes) (te := tCall spIsInt [] E0 (tCons (tVar 1) tNil)) rfl s18.nd (pi_tup (pv 0))
      (blkOk_by (N := ["values", "value"]) (sc := defScope (top 18)) (by decide +kernel)) (fun _ _ _ _ _ => (pg_name (i := 1) (FnScope.nd s18) rfl (Or.inl rfl))) (fun _ _ _ _ _ => pts_nil)
      (fun _ _ _ _ _ => pe_cl C hr (pa_cons (pv 1) pa_nil))) pa_nil))), ?_⟩
  have h0 : H p = some (.tup [.int x, .int y]) := h
  refine ⟨_, rfl, p, rfl, ⟨_, SqT.of h0⟩, fun D hD => lc_yes (G := fun H => SqT K H p [.int x, .int y]) (xs := [.int x, .int y]) walk_tup ?_⟩
  have s1 := same_new (o := .lst []) hD
  refine ⟨SqT.of (s1 _ _ h0), rfl, _, rfl, x, rfl, trivial, ?_⟩
  rintro _ _ - ⟨rfl, rfl⟩
  refine ⟨_, upd_same, by decide, ?_⟩
  rw [upd_upd]
  have s2 := same_new (o := .lst [.bl true]) hD
  refine ⟨SqT.of (s2 _ _ h0), rfl, _, rfl, y, rfl, trivial, ?_⟩
  rintro _ _ - ⟨rfl, rfl⟩
  refine ⟨_, upd_same, by decide, ?_⟩
  rw [upd_upd]
  have s3 := same_new (o := .lst [.bl true, .bl true]) hD
  refine ⟨SqT.of (s3 _ _ h0), D, [true, true], rfl, SqL.of upd_same, k _ _ s3 rfl⟩
theorem s19 : FnScope ["value", "top", "bottom"] ["value"] (defScope (top 19)) := (⟨rfl, rfl, rfl, by decide +kernel, rfl, by decide +kernel, by decide +kernel⟩)
abbrev spIsFrac : Sp := Prm (α := Addr × Int × Int) (fun a => [.ref a.1]) (fun a H => pre2 a H ∧ 1 ≤ a.2.2 ∧ Nat.gcd a.2.1.natAbs a.2.2.natAbs = 1) (fun _ H v H' => v = .bl true)
theorem c_isfrac (D : Df K mg "is_fraction" (top 19)) (B : Bl mg) (C : Cal P w K mg base 2 "are_integers" ["values"] spAreInts) : Cal P w K mg base 3 "is_fraction" ["value"] spIsFrac := by
  refine mkC D s19 (fun _ _ _ _ _ _ us hl => match us, hl with | [_], _ => rfl) (fun _ => rfl) (fun f cdv A outer s H a Q E hr h k => ?_)
  obtain ⟨p, x, y⟩ := a
  obtain ⟨h, hy, hg⟩ := h
  refine ⟨_, pss_cons (ps_if (PW.pt (pw_or (pt_not (pt_val (pe_isi (v := .ty "tuple") (by rfl) B.isinstance_ (pv 0) (by rfl) B.tuple_ PyProof.Rows.boot_tuple rfl)))
      (pw_or ((pt_cmpR op_ne ((pe_callB call_len_seq (by rfl) (Bl.len_ B) PySem.boot_len (pa_cons (pv 0) pa_nil))) pe_int (nomark _))) (pw_or1 (pt_not (pt_val (pe_cl C hr (pa_cons (pv 0) pa_nil)))))))) pss_nv pss_nil)
    (pss_cons (ps_asg (pv 0) (pg_tup rfl (pgs_cons ((pg_name (i := 1) (FnScope.nd s19) rfl (Or.inl rfl))) (pgs_cons ((pg_name (i := 2) (FnScope.nd s19) rfl (Or.inl rfl))) pgs_nil))))
    (pss_one (ps_ret (pe_and (pe_cmpR op_ge (pv 2) pe_int (nomark _)) (pe_one (pe_cmpR op_eq (pe_callBfun cr_gcd (by rfl) B.gcd_ (pa_cons (pv 1) (pa_cons (pv 2) pa_nil))) pe_int (nomark _))))))), ?_⟩
  have h0 : H p = some (.tup [.int x, .int y]) := h
  refine ⟨_, rfl, _, _, _, _, true, rfl, .ty _, .base (.tup h0), kit_ty (by decide +kernel), _, rfl, iteF ?_⟩
  refine ⟨_, rfl, p, _, rfl, .inr (SqT.of h0), rfl, _, rfl, iteF ?_⟩
  refine ⟨_, rfl, (p, x, y), rfl, h, ?_⟩
  rintro _ H1 s1 rfl
  refine ⟨_, rfl, iteF ?_⟩
  refine ⟨_, rfl, p, _, rfl, SqT.of (s1 _ _ h0), rfl, _, _, rfl, _, _, rfl, rfl, ?_⟩
  refine ⟨_, rfl, _, _, rfl, rfl, _, rfl, ?_⟩
  rw [decide_eq_true (show y ≥ 1 from hy)]
  refine iteT ⟨_, rfl, _, rfl, x, y, rfl, rfl, ?_⟩
  refine k _ _ s1 ?_
  rw [hg]
  rfl
theorem s21 : FnScope ["value"] ["value"] (defScope (top 21)) := (⟨rfl, rfl, rfl, by decide +kernel, rfl, by decide +kernel, by decide +kernel⟩)
abbrev spIsTerm : Sp := Prm (α := Int) (fun i => [.int i]) (fun i _ => -1000 ≤ i ∧ i ≤ 1000) (fun _ H v H' => v = .bl true ∧ H' = H)
theorem c_isterm (D : Df K mg "is_term" (top 21)) (B : Bl mg) (C : Cal P w K mg base 1 "is_integer" ["value"] spIsInt) : Cal P w K mg base 2 "is_term" ["value"] spIsTerm := by
  refine mkC D s21 (fun _ _ _ _ _ _ us hl => match us, hl with | [_], _ => rfl) (fun _ => rfl) (fun f cdv A outer s H i Q E hr h k => ?_)
  obtain ⟨t, ht⟩ := B.term_
  refine ⟨_, pss_one (ps_ret (pe_and (pe_cl C hr (pa_cons (pv 0) pa_nil)) (pe_one (pe_chain op_le op_le (pe_un un_neg (pe_glob (v := .int 1000) (by rfl) ht ⟨_, rfl⟩)) (pv 0) (pe_glob (v := .int 1000) (by rfl) ht ⟨_, rfl⟩))))), ?_⟩
  refine ⟨_, rfl, i, rfl, trivial, ?_⟩
  rintro _ _ - ⟨rfl, rfl⟩
  refine ⟨_, rfl, iteT ?_⟩
  refine ⟨_, rfl, _, rfl, _, _, rfl, rfl, _, rfl, ?_⟩
  rw [decide_eq_true (show -1000 ≤ i from h.1)]
  refine iteT ⟨_, _, rfl, rfl, k _ _ (Same.refl _) ⟨?_, rfl⟩⟩
  show V.bl (decide (i ≤ 1000)) = _
  rw [decide_eq_true h.2]
theorem s22 : FnScope ["equation", "at", "term", "last"] ["equation"] (defScope (top 22)) := (⟨rfl, rfl, rfl, by decide +kernel, rfl, by decide +kernel, by decide +kernel⟩)
abbrev spWrong : Sp := Prm (α := Addr × Int × Int) (fun a => [.ref a.1]) (fun a H => pre2 a H ∧ (-1000 ≤ a.2.1 ∧ a.2.1 ≤ 1000) ∧ (-1000 ≤ a.2.2 ∧ a.2.2 ≤ 1000) ∧ a.2.2 ≠ 0) (fun _ H v H' => v = .non)
theorem c_wrong (D : Df K mg "wrong_term" (top 22)) (B : Bl mg) (C : Cal P w K mg base 2 "is_term" ["value"] spIsTerm) : Cal P w K mg base 3 "wrong_term" ["equation"] spWrong := by
  refine mkC D s22 (fun _ _ _ _ _ _ us hl => match us, hl with | [_], _ => rfl) (fun _ => rfl) (fun f cdv A outer s H a Q E hr h k => ?_)
  obtain ⟨p, x, y⟩ := a
  obtain ⟨h, hx, hy, hz⟩ := h
  obtain ⟨t, ht⟩ := B.deg_
  refine ⟨_, pss_cons (ps_for PassesOwn.never rfl (pi_enumT (by rfl) B.enumerate_ (pa_cons (pv 0) pa_nil)) (pg_tup rfl (pgs_cons ((pg_name (i := 1) (FnScope.nd s22) rfl (Or.inl rfl))) (pgs_cons ((pg_name (i := 2) (FnScope.nd s22) rfl (Or.inl rfl))) pgs_nil)))
      (pss_one (ps_if (PW.pt (pw_or ((pt_cmpR op_gt (pv 1) (pe_glob (v := .int 5) (by rfl) ht ⟨_, rfl⟩) (nomark _))) (pw_or1 (pt_not (pt_val (pe_cl C hr (pa_cons (pv 2) pa_nil))))))) pss_nv pss_nil)))
    (pss_cons ((ps_set (i := 3) (FnScope.nd s22) rfl (Or.inl rfl) (pe_op op_sub ((pe_callB call_len_seq (by rfl) (Bl.len_ B) PySem.boot_len (pa_cons (pv 0) pa_nil))) pe_int)))
    (pss_one (ps_ret (pe_ifExp ((pt_cmpR op_eq ((pe_ix ix_tup (pv 0) (pv 3) (fun _ _ => rfl))) pe_int (nomark _))) pe_nv pe_non)))), ?_⟩
  have h0 : H p = some (.tup [.int x, .int y]) := h
  refine ⟨_, rfl, p, _, rfl, SqT.of h0, for_unrE (xs := [.int x, .int y]) ?_⟩
  refine ⟨SqT.of h0, fun T hT => ⟨T, _, rfl, SqT.of upd_same, rfl, _, _, rfl, _, _, rfl, rfl, ?_⟩⟩
  have s1 := same_new (o := .tup [.int (0 : Nat), .int x]) hT
  refine ⟨_, rfl, _, _, rfl, rfl, _, rfl, iteF ?_⟩
  refine ⟨_, rfl, x, rfl, hx, ?_⟩
  rintro _ _ - ⟨rfl, rfl⟩
  refine ⟨_, rfl, iteF ?_⟩
  have h1 := s1 _ _ h0
  refine ⟨SqT.of h1, fun T2 hT2 => ⟨T2, _, rfl, SqT.of upd_same, rfl, _, _, rfl, _, _, rfl, rfl, ?_⟩⟩
  have s2 := s1.trans (same_new (o := .tup [.int (1 : Nat), .int y]) hT2)
  refine ⟨_, rfl, _, _, rfl, rfl, _, rfl, iteF ?_⟩
  refine ⟨_, rfl, y, rfl, hy, ?_⟩
  rintro _ _ - ⟨rfl, rfl⟩
  refine ⟨_, rfl, iteF ?_⟩
  have h2 := s2 _ _ h0
  refine ⟨SqT.of h2, ?_⟩
  refine ⟨_, rfl, p, _, rfl, .inr (SqT.of h2), _, _, rfl, rfl, ?_⟩
  refine ⟨_, rfl, _, rfl, p, _, 1, .int y, rfl, rfl, SqT.of h2, atI_nat (j := 1) rfl, rfl, _, rfl, ?_⟩
  rw [dec_int, show (y == 0) = false from by simpa using hz]
  exact iteF (k _ _ s2 rfl)
end
end Xq

namespace Xq
open PySem PySem.Spec PyProof.Rows L2
def trimM (xs : List Int) : Nat → Nat
  | 0 => 0
  | m + 1 => if xs.getD m 0 = 0 then trimM xs m else m + 1
def trimI (xs : List Int) : List Int := xs.take (trimM xs xs.length)
theorem trimM_le (xs : List Int) : ∀ m, trimM xs m ≤ m
  | 0 => Nat.le_refl _
  | m + 1 => by
    unfold trimM
    split
    · exact Nat.le_succ_of_le (trimM_le xs m)
    · exact Nat.le_refl _
def gcdL (xs : List Int) : Nat := xs.foldl (fun g x => Nat.gcd g x.natAbs) 0
theorem gcdL_succ {xs : List Int} {i : Nat} {x : Int} (h : xs[i]? = some x) : gcdL (xs.take (i + 1)) = Nat.gcd (gcdL (xs.take i)) x.natAbs := by
  unfold gcdL
  rw [List.take_add_one, h, Option.toList_some, List.foldl_append]
  rfl
section
variable {P : Program} {w : World} {K : PySem.W.Frag} {mg : Str → Option Value} {base : Heap}
theorem s24 : FnScope ["terms", "many"] ["terms"] (defScope (top 24)) := (⟨rfl, rfl, rfl, by decide +kernel, rfl, by decide +kernel, by decide +kernel⟩)
/-- a list or a tuple of ints -/
def Sq (H : Hp) (p : Addr) (xs : List Int) : Prop := LI H p xs ∨ TI H p xs
theorem Sq.len {H : Hp} {p : Addr} {xs : List Int} (h : Sq H p xs) : SqL K H p (xs.map V.int) ∨ SqT K H p (xs.map V.int) := h.elim (fun q => .inl (SqL.of q)) (fun q => .inr (SqT.of q))
abbrev spTrim : Sp := Prm (α := Addr × List Int) (fun a => [.ref a.1]) (fun a H => Sq H a.1 a.2) (fun a H v H' => ∃ q, v = .ref q ∧ TI H' q (trimI a.2))
theorem c_trim (D : Df K mg "trimmed" (top 24)) (B : Bl mg) : Cal P w K mg base 1 "trimmed" ["terms"] spTrim := by
  refine mkC D s24 (fun _ _ _ _ _ _ us hl => match us, hl with | [_], _ => rfl) (fun _ => rfl) (fun f cdv A outer s H a Q E hr h k => ?_)
  obtain ⟨p, xs⟩ := a
  have len0 : SqL K H p (xs.map V.int) ∨ SqT K H p (xs.map V.int) := Sq.len h
  have cut : cutV (xs.map V.int) none (some (trimM xs xs.length : Nat)) = (trimI xs).map V.int := by
    have hl := trimM_le xs xs.length
    have e1 : HT.sIx (xs.map V.int).length 0 none = 0 := rfl
    have e2 : HT.sIx (xs.map V.int).length (xs.map V.int).length (some ((trimM xs xs.length : Nat) : Int)) = trimM xs xs.length := by
      rw [HT.sIx_nat, List.length_map]
      omega
    unfold cutV trimI
    rw [e1, e2, List.drop_zero, Nat.sub_zero, List.map_take]
  have stp : ∀ m : Nat, 0 < m → m ≤ xs.length → ∃ z, xs[m - 1]? = some z ∧ (xs.map V.int)[m - 1]? = some (V.int z) ∧ (z = 0 → trimM xs m = trimM xs (m - 1)) ∧ (z ≠ 0 → trimM xs m = m) := fun m h0 hm => by
    have hlt : m - 1 < xs.length := by omega
    refine ⟨xs[m - 1], List.getElem?_eq_getElem hlt, by rw [List.getElem?_map, List.getElem?_eq_getElem hlt]; rfl, fun hz => ?_, fun hz => ?_⟩
    · obtain ⟨n, rfl⟩ : ∃ n, m = n + 1 := ⟨m - 1, by omega⟩
      have e : xs.getD n 0 = 0 := by
        rw [List.getD_eq_getElem?_getD, List.getElem?_eq_getElem (show n < xs.length from hlt), Option.getD_some]
        exact hz
      show (if xs.getD n 0 = 0 then trimM xs n else n + 1) = trimM xs n
      rw [if_pos e]
    · obtain ⟨n, rfl⟩ : ∃ n, m = n + 1 := ⟨m - 1, by omega⟩
      have e : ¬ xs.getD n 0 = 0 := by
        rw [List.getD_eq_getElem?_getD, List.getElem?_eq_getElem (show n < xs.length from hlt), Option.getD_some]
        exact hz
      show (if xs.getD n 0 = 0 then trimM xs n else n + 1) = n + 1
      rw [if_neg e]
  rcases h with h | h
  · have hq : SqL K H p (xs.map V.int) := SqL.of h
    refine ⟨_, pss_cons ((ps_set (i := 1) (FnScope.nd s24) rfl (Or.inl rfl) ((pe_callB call_len_seq (by rfl) (Bl.len_ B) PySem.boot_len (pa_cons (pv 0) pa_nil)))))
      (pss_cons (ps_whB PassesOwn.never (PW.pt (pw_and ((pt_cmpR op_gt (pv 1) pe_int (nomark _))) (pw_and1 ((pt_cmpR op_eq ((pe_ix ix_list (pv 0) (pe_op op_sub (pv 1) pe_int) (fun _ _ => rfl))) pe_int (nomark _)))))) (pss_one (ps_aug (i := 1) s24.nd rfl (Or.inl rfl) pe_int ip_sub)))
      (pss_one (ps_ret (pe_callTy call_tuple_of (by rfl) B.tuple_ PyProof.Rows.boot_tuple (pa_cons (pe_slice sl_list (pv 0) po_none (po_some (pv 1))) pa_nil))))), ?_⟩
    refine ⟨_, rfl, p, _, rfl, len0, ?_⟩
    refine ⟨fun σ H' => H' = H ∧ ∃ m : Nat, σ = [some (.ref p), some (.int m)] ∧ m ≤ xs.length ∧ trimM xs m = trimM xs xs.length, fun σ _ => (match σ with | [_, some (.int m)] => m.toNat | _ => 0), ⟨rfl, xs.length, by rw [List.length_map]; rfl, Nat.le_refl _, rfl⟩, ?_⟩
    rintro σ H' ⟨rfl, m, rfl, hm, ht⟩
    have fin : m = 0 ∨ trimM xs m = m → Q (.ref p) H' ∨ True := fun _ => .inr trivial
    refine ⟨_, rfl, _, _, rfl, rfl, _, rfl, ?_⟩
    have done : trimM xs m = m → (tRet (tCB (fun xs H Q => ∃ p ys, xs = [.ref p] ∧ ((SqL K H p ys ∧ ∀ l, H l = none → Q (.ref l) (upd H l (.tup ys))) ∨ (SqT K H p ys ∧ Q (.ref p) H))) (tCons (tSl (rSlL K) (tVar 0) tNoPart (tPart (tVar 1))) tNil))) { nx := fun _ H' => Q .non H', rt := Q } [some (.ref p), some (.int m)] H' := fun e => by
      refine ⟨_, rfl, _, rfl, _, rfl, p, _, rfl, hq, fun q hq2 => ?_⟩
      have em : m = trimM xs xs.length := e.symm.trans ht
      subst em
      rw [cut]
      have s1 := same_new (o := .lst ((trimI xs).map V.int)) hq2
      refine ⟨q, _, rfl, .inl ⟨SqL.of upd_same, fun q3 hq3 => ?_⟩⟩
      exact k _ _ (Same.new s1 hq3) ⟨q3, rfl, upd_same⟩
    refine ite2 (fun hb => ?_) (fun hb => ?_)
    · have h0 : 0 < m := by
        have q : ((m : Int) > 0) := of_decide_eq_true hb
        omega
      obtain ⟨z, z1, z2, z3, z4⟩ := stp m h0 hm
      have em : ((m : Int) - 1) = ((m - 1 : Nat) : Int) := by omega
      refine ⟨_, rfl, _, rfl, _, _, rfl, rfl, p, _, _, .int z, rfl, rfl, hq, (by rw [em]; exact atI_nat z2), rfl, _, rfl, ?_⟩
      rw [dec_int]
      refine ite2 (fun hz => ?_) (fun hz => ?_)
      · refine ⟨_, rfl, _, _, rfl, rfl, ?_⟩
        refine ⟨⟨rfl, m - 1, by rw [← em]; rfl, by omega, by rw [← z3 (by simpa using hz)]; exact ht⟩, ?_⟩
        show ((m : Int) - 1).toNat < (m : Int).toNat
        omega
      · exact done (z4 (by simpa using hz))
    · have h0 : m = 0 := by
        have q : ¬ ((m : Int) > 0) := fun q => hb (decide_eq_true q)
        omega
      subst h0
      exact done rfl
  · have hq : SqT K H p (xs.map V.int) := SqT.of h
    refine ⟨_, pss_cons ((ps_set (i := 1) (FnScope.nd s24) rfl (Or.inl rfl) ((pe_callB call_len_seq (by rfl) (Bl.len_ B) PySem.boot_len (pa_cons (pv 0) pa_nil)))))
      (pss_cons (ps_whB PassesOwn.never (PW.pt (pw_and ((pt_cmpR op_gt (pv 1) pe_int (nomark _))) (pw_and1 ((pt_cmpR op_eq ((pe_ix ix_tup (pv 0) (pe_op op_sub (pv 1) pe_int) (fun _ _ => rfl))) pe_int (nomark _)))))) (pss_one (ps_aug (i := 1) s24.nd rfl (Or.inl rfl) pe_int ip_sub)))
      (pss_one (ps_ret (pe_callTy call_tuple_of (by rfl) B.tuple_ PyProof.Rows.boot_tuple (pa_cons (pe_slice sl_tupA (pv 0) po_none (po_some (pv 1))) pa_nil))))), ?_⟩
    refine ⟨_, rfl, p, _, rfl, len0, ?_⟩
    refine ⟨fun σ H' => H' = H ∧ ∃ m : Nat, σ = [some (.ref p), some (.int m)] ∧ m ≤ xs.length ∧ trimM xs m = trimM xs xs.length, fun σ _ => (match σ with | [_, some (.int m)] => m.toNat | _ => 0), ⟨rfl, xs.length, by rw [List.length_map]; rfl, Nat.le_refl _, rfl⟩, ?_⟩
    rintro σ H' ⟨rfl, m, rfl, hm, ht⟩
    refine ⟨_, rfl, _, _, rfl, rfl, _, rfl, ?_⟩
    have done : trimM xs m = m → (tRet (tCB (fun xs H Q => ∃ p ys, xs = [.ref p] ∧ ((SqL K H p ys ∧ ∀ l, H l = none → Q (.ref l) (upd H l (.tup ys))) ∨ (SqT K H p ys ∧ Q (.ref p) H))) (tCons (tSl (rSlA K) (tVar 0) tNoPart (tPart (tVar 1))) tNil))) { nx := fun _ H' => Q .non H', rt := Q } [some (.ref p), some (.int m)] H' := fun e => by
      have em : m = trimM xs xs.length := e.symm.trans ht
      refine ⟨_, rfl, _, rfl, _, rfl, p, _, rfl, hq, fun hw => ?_, fun hw q hq2 => ?_⟩
      · have e2 : HT.sIx (xs.map V.int).length (xs.map V.int).length (some (m : Int)) = (xs.map V.int).length := hw.2
        have hml : m = xs.length := by
          rw [HT.sIx_nat, List.length_map] at e2
          omega
        refine ⟨p, _, rfl, .inr ⟨hq, k _ _ (Same.refl _) ⟨p, rfl, ?_⟩⟩⟩
        have et : trimI xs = xs := by
          unfold trimI
          rw [← em, hml, List.take_length]
        show TI H' p (trimI xs)
        rw [et]
        exact h
      · subst em
        rw [cut]
        have s1 := same_new (o := .tup ((trimI xs).map V.int)) hq2
        exact ⟨q, _, rfl, .inr ⟨SqT.of upd_same, k _ _ s1 ⟨q, rfl, upd_same⟩⟩⟩
    refine ite2 (fun hb => ?_) (fun hb => ?_)
    · have h0 : 0 < m := by
        have q : ((m : Int) > 0) := of_decide_eq_true hb
        omega
      obtain ⟨z, z1, z2, z3, z4⟩ := stp m h0 hm
      have em : ((m : Int) - 1) = ((m - 1 : Nat) : Int) := by omega
      refine ⟨_, rfl, _, rfl, _, _, rfl, rfl, p, _, _, .int z, rfl, rfl, hq, (by rw [em]; exact atI_nat z2), rfl, _, rfl, ?_⟩
      rw [dec_int]
      refine ite2 (fun hz => ?_) (fun hz => ?_)
      · refine ⟨_, rfl, _, _, rfl, rfl, ?_⟩
        refine ⟨⟨rfl, m - 1, by rw [← em]; rfl, by omega, by rw [← z3 (by simpa using hz)]; exact ht⟩, ?_⟩
        show ((m : Int) - 1).toNat < (m : Int).toNat
        omega
      · exact done (z4 (by simpa using hz))
    · have h0 : m = 0 := by
        have q : ¬ ((m : Int) > 0) := fun q => hb (decide_eq_true q)
        omega
      subst h0
      exact done rfl
theorem s25 : FnScope ["terms", "common", "term"] ["terms"] (defScope (top 25)) := (⟨rfl, rfl, rfl, by decide +kernel, rfl, by decide +kernel, by decide +kernel⟩)
abbrev spGcd : Sp := Prm (α := Addr × List Int) (fun a => [.ref a.1]) (fun a H => Sq H a.1 a.2) (fun a H v H' => v = .int (gcdL a.2 : Nat) ∧ H' = H)
theorem c_gcd (D : Df K mg "common_divisor" (top 25)) (B : Bl mg) : Cal P w K mg base 1 "common_divisor" ["terms"] spGcd := by
  refine mkC D s25 (fun _ _ _ _ _ _ us hl => match us, hl with | [_], _ => rfl) (fun _ => rfl) (fun f cdv A outer s H a Q E hr h k => ?_)
  obtain ⟨p, xs⟩ := a
  have turn : ∀ (i : Nat) (x : V) (g : Nat), (xs.map V.int)[i]? = some x → ∃ z, xs[i]? = some z ∧ x = .int z := fun i x g hx => by
    rw [List.getElem?_map] at hx
    cases e : xs[i]? with
    | none => rw [e] at hx; cases hx
    | some z => rw [e] at hx; exact ⟨z, rfl, (Option.some.inj hx).symm⟩
  rcases h with h | h
  · have hq : SqL K H p (xs.map V.int) := SqL.of h
    refine ⟨_, pss_cons ((ps_set (i := 1) (FnScope.nd s25) rfl (Or.inl rfl) pe_int)) (pss_cons (ps_for PassesOwn.never rfl (pi_list (pv 0)) ((pg_name (i := 2) (FnScope.nd s25) rfl (Or.inl rfl)))
        (pss_one ((ps_set (i := 1) (FnScope.nd s25) rfl (Or.inl rfl) (pe_callBfun cr_gcd (by rfl) B.gcd_ (pa_cons (pv 1) (pa_cons (pv 2) pa_nil))))))) (pss_one (ps_ret (pv 1)))), ?_⟩
    refine ⟨_, rfl, p, rfl, ⟨_, hq⟩, for_list (xs := xs.map V.int) (fun i σ H' => H' = H ∧ ∃ z, σ = [some (.ref p), some (.int (gcdL (xs.take i) : Nat)), z]) ⟨rfl, none, rfl⟩ (fun i σ H' _ q => by rw [q.1]; exact hq) ?_ ?_⟩
    · rintro i x σ H' hx ⟨rfl, z, rfl⟩
      obtain ⟨y, hy, rfl⟩ := turn i x 0 hx
      refine ⟨_, rfl, _, rfl, _, _, rfl, ?_⟩
      refine ⟨rfl, some (.int y), ?_⟩
      rw [gcdL_succ hy]
      rfl
    · rintro σ H' ⟨rfl, z, rfl⟩
      refine ⟨_, rfl, k _ _ (Same.refl _) ⟨?_, rfl⟩⟩
      rw [List.length_map, List.take_length]
  · have hq : SqT K H p (xs.map V.int) := SqT.of h
    refine ⟨_, pss_cons ((ps_set (i := 1) (FnScope.nd s25) rfl (Or.inl rfl) pe_int)) (pss_cons (ps_for PassesOwn.never rfl (pi_tup (pv 0)) ((pg_name (i := 2) (FnScope.nd s25) rfl (Or.inl rfl)))
        (pss_one ((ps_set (i := 1) (FnScope.nd s25) rfl (Or.inl rfl) (pe_callBfun cr_gcd (by rfl) B.gcd_ (pa_cons (pv 1) (pa_cons (pv 2) pa_nil))))))) (pss_one (ps_ret (pv 1)))), ?_⟩
    refine ⟨_, rfl, p, rfl, ⟨_, hq⟩, for_tup (xs := xs.map V.int) (fun i σ H' => H' = H ∧ ∃ z, σ = [some (.ref p), some (.int (gcdL (xs.take i) : Nat)), z]) ⟨rfl, none, rfl⟩ (fun i σ H' _ q => by rw [q.1]; exact hq) ?_ ?_⟩
    · rintro i x σ H' hx ⟨rfl, z, rfl⟩
      obtain ⟨y, hy, rfl⟩ := turn i x 0 hx
      refine ⟨_, rfl, _, rfl, _, _, rfl, ?_⟩
      refine ⟨rfl, some (.int y), ?_⟩
      rw [gcdL_succ hy]
      rfl
    · rintro σ H' ⟨rfl, z, rfl⟩
      refine ⟨_, rfl, k _ _ (Same.refl _) ⟨?_, rfl⟩⟩
      rw [List.length_map, List.take_length]
theorem s26 : FnScope ["terms", "common", "term"] ["terms"] (defScope (top 26)) := (⟨rfl, rfl, rfl, by decide +kernel, rfl, by decide +kernel, by decide +kernel⟩)
/-- asked here of () alone -/
abbrev spPrim : Sp := Prm (α := Addr) (fun a => [.ref a]) (fun a H => TI H a []) (fun a H v H' => v = .ref a ∧ H' = H)
theorem c_prim (D : Df K mg "primitive" (top 26)) (B : Bl mg) (C : Cal P w K mg base 1 "common_divisor" ["terms"] spGcd) : Cal P w K mg base 2 "primitive" ["terms"] spPrim := by
  refine mkC D s26 (fun _ _ _ _ _ _ us hl => match us, hl with | [_], _ => rfl) (fun _ => rfl) (fun f cdv A outer s H p Q E hr h k => ?_)
  refine ⟨_, pss_cons (ps_set (i := 1) s26.nd rfl (Or.inr rfl) (pe_cl C hr (pa_cons (pv 0) pa_nil))) (pss_one (ps_ret (pe_ifExp ((pt_cmpR op_gt (pv 1) pe_int (nomark _))) pe_nv (pv 0)))), ?_⟩
  refine ⟨_, rfl, (p, []), rfl, .inr h, ?_⟩
  rintro _ _ - ⟨rfl, rfl⟩
  exact ⟨_, rfl, _, _, rfl, rfl, _, rfl, iteF ⟨_, rfl, k _ _ (Same.refl _) ⟨rfl, rfl⟩⟩⟩
theorem s27 : FnScope ["terms", "term"] ["terms"] (defScope (top 27)) := (⟨rfl, rfl, rfl, by decide +kernel, rfl, by decide +kernel, by decide +kernel⟩)
abbrev spNeg : Sp := Prm (α := Addr × List Int) (fun a => [.ref a.1]) (fun a H => TI H a.1 a.2 ∧ a.2.length ≤ 1) (fun a H v H' => ∃ q, v = .ref q ∧ TI H' q (a.2.map fun x => -x))
theorem c_neg (D : Df K mg "negative" (top 27)) (B : Bl mg) : Cal P w K mg base 1 "negative" ["terms"] spNeg := by
  refine mkC D s27 (fun _ _ _ _ _ _ us hl => match us, hl with | [_], _ => rfl) (fun _ => rfl) (fun f cdv A outer s H a Q E hr h k => ?_)
  obtain ⟨p, xs⟩ := a
  obtain ⟨h, hl⟩ := h
  refine ⟨_, pss_one (ps_ret (pe_callTy call_tuple_of (by rfl) B.tuple_ PyProof.Rows.boot_tuple (pa_cons (pe_lc (own := [("term", 1)]) (g := gName 1) (tt := tYes) (te := tUn (rU fun i => .int (-i)) (tVar 1)) rfl s27.nd (pi_tup (pv 0))
      (blkOk_by (N := ["terms", "term"]) (sc := defScope (top 27)) (by decide +kernel)) (fun _ _ _ _ _ => (pg_name (i := 1) (FnScope.nd s27) rfl (Or.inl rfl))) (fun _ _ _ _ _ => pts_nil)
      (fun _ _ _ _ _ => pe_un un_neg (pv 1))) pa_nil))), ?_⟩
  have hq : SqT K H p (xs.map V.int) := SqT.of h
  refine ⟨_, rfl, p, rfl, ⟨_, hq⟩, fun D hD => lc_yes (G := fun H => SqT K H p (xs.map V.int)) (xs := xs.map V.int) walk_tup ?_⟩
  have s1 := same_new (o := .lst []) hD
  have fin : ∀ ys : List Int, ys = xs.map (fun x => -x) → ∀ q, upd H D (.lst (ys.map V.int)) q = none → Q (.ref q) (upd (upd H D (.lst (ys.map V.int))) q (.tup (ys.map V.int))) := fun ys e q hq => by
    refine k _ _ (Same.new (same_new hD) hq) ⟨q, rfl, ?_⟩
    rw [← e]
    exact upd_same
  rcases xs with _ | ⟨x, _ | ⟨y, t⟩⟩
  · refine ⟨SqT.of (s1 _ _ h), D, [], rfl, .inl ⟨SqL.of upd_same, fun q hq => ?_⟩⟩
    exact fin [] rfl q hq
  · refine ⟨SqT.of (s1 _ _ h), rfl, _, rfl, x, rfl, _, upd_same, by decide, ?_⟩
    rw [upd_upd]
    have s2 := same_new (o := .lst [.int (-x)]) hD
    refine ⟨SqT.of (s2 _ _ h), D, [.int (-x)], rfl, .inl ⟨SqL.of upd_same, fun q hq => ?_⟩⟩
    exact fin [-x] rfl q hq
  · exact absurd (show t.length + 1 + 1 ≤ 1 from hl) (by omega)
theorem s28 : FnScope ["terms", "at"] ["terms"] (defScope (top 28)) := (⟨rfl, rfl, rfl, by decide +kernel, rfl, by decide +kernel, by decide +kernel⟩)
abbrev spDer : Sp := Prm (α := Addr × Int × Int) (fun a => [.ref a.1]) pre2 (fun a H v H' => ∃ q, v = .ref q ∧ TI H' q [a.2.2])
theorem c_der (D : Df K mg "derivative" (top 28)) (B : Bl mg) : Cal P w K mg base 1 "derivative" ["terms"] spDer := by
  refine mkC D s28 (fun _ _ _ _ _ _ us hl => match us, hl with | [_], _ => rfl) (fun _ => rfl) (fun f cdv A outer s H a Q E hr h k => ?_)
  obtain ⟨p, x, y⟩ := a
  have h0 : H p = some (.tup [.int x, .int y]) := h
  refine ⟨_, pss_one (ps_ret (pe_callTy call_tuple_of (by rfl) B.tuple_ PyProof.Rows.boot_tuple (pa_cons (pe_lc (own := [("at", 1)]) (g := gName 1) (tt := tYes) (te := tOp (rI CMul fun i j => .int (i * j)) (tVar 1) (tOp (rIxT K) (tVar 0) (tVar 1))) rfl s28.nd
      (pi_range2 (by rfl) B.range_ (pa_cons pe_int (pa_cons ((pe_callB call_len_seq (by rfl) (Bl.len_ B) PySem.boot_len (pa_cons (pv 0) pa_nil))) pa_nil)))
      (blkOk_by (N := ["terms", "at"]) (sc := defScope (top 28)) (by decide +kernel)) (fun _ _ _ _ _ => (pg_name (i := 1) (FnScope.nd s28) rfl (Or.inl rfl))) (fun _ _ _ _ _ => pts_nil)
      (fun _ _ _ _ _ => pe_op op_mul (pv 1) ((pe_ix ix_tup (pv 0) (pv 1) (fun _ _ => rfl))))) pa_nil))), ?_⟩
  refine ⟨_, rfl, p, _, rfl, .inr (SqT.of h0), _, _, rfl, ⟨by decide, by decide, (by show -2 ^ 62 ≤ (2 : Int); decide), (by show (2 : Int) < 2 ^ 62; decide)⟩, fun D hD => lc_range (lo := 1) (n := 1) (fun i H' => (i = 0 ∧ H' = upd H D (.lst [])) ∨ (i = 1 ∧ H' = upd H D (.lst [.int y]))) (.inl ⟨rfl, rfl⟩) ?_ ?_⟩
  · rintro i H' hi (⟨rfl, rfl⟩ | ⟨rfl, rfl⟩)
    · have s1 := same_new (o := .lst []) hD
      refine ⟨rfl, ?_⟩
      simp only [tYes, if_true]
      refine ⟨_, rfl, _, rfl, _, rfl, p, _, _, .int y, rfl, rfl, SqT.of (s1 _ _ h0), atI_nat (j := 1) rfl, _, _, rfl, rfl, .inl ⟨by decide, by decide⟩, _, upd_same, by decide, .inr ⟨trivial, ?_⟩⟩
      rw [upd_upd]
      show upd H D (.lst [.int (1 * y)]) = _
      rw [Int.one_mul]
    · exact absurd hi (by decide)
  · rintro H' (⟨e, _⟩ | ⟨_, rfl⟩)
    · cases e
    · have s1 := same_new (o := .lst [.int y]) hD
      exact ⟨D, [.int y], rfl, .inl ⟨SqL.of upd_same, fun q hq => k _ _ (Same.new s1 hq) ⟨q, rfl, upd_same⟩⟩⟩
end
end Xq

/-! Polynomials of any degree: what negative, primitive, derivative do to any list of ints. -/
namespace Xq
open PySem PySem.Spec PyProof.Rows L2
section
variable {P : Program} {w : World} {K : PySem.W.Frag} {mg : Str → Option Value} {base : Heap}
theorem at_map {xs : List Int} {i : Nat} {x : V} (h : (xs.map V.int)[i]? = some x) : ∃ z, xs[i]? = some z ∧ x = .int z := by
  rw [List.getElem?_map] at h
  cases e : xs[i]? with
  | none => rw [e] at h; cases h
  | some z => rw [e] at h; exact ⟨z, rfl, (Option.some.inj h).symm⟩
theorem take_map {f : Int → Int} {xs : List Int} {i : Nat} {z : Int} (h : xs[i]? = some z) : ((xs.take (i + 1)).map f).map V.int = ((xs.take i).map f).map V.int ++ [V.int (f z)] := by
  rw [List.take_succ, h]
  simp
theorem sz_lt {n : Nat} (h : n ≤ 1000) : n < sizeLine := Nat.lt_of_le_of_lt h (by decide)
abbrev spNegG : Sp := Prm (α := Addr × List Int) (fun a => [.ref a.1]) (fun a H => TI H a.1 a.2 ∧ a.2.length ≤ 1000) (fun a H v H' => ∃ q, v = .ref q ∧ TI H' q (a.2.map fun x => -x))
theorem c_negG (D : Df K mg "negative" (top 27)) (B : Bl mg) : Cal P w K mg base 1 "negative" ["terms"] spNegG := by
  refine mkC D s27 (fun _ _ _ _ _ _ us hl => match us, hl with | [_], _ => rfl) (fun _ => rfl) (fun f cdv A outer s H a Q E hr h k => ?_)
  obtain ⟨p, xs⟩ := a
  obtain ⟨h, hl⟩ := h
  have hl : xs.length ≤ 1000 := hl
  refine ⟨_, pss_one (ps_ret (pe_callTy call_tuple_of (by rfl) B.tuple_ PyProof.Rows.boot_tuple (pa_cons (pe_lc (own := [("term", 1)]) (g := gName 1) (tt := tYes) (te := tUn (rU fun i => .int (-i)) (tVar 1)) rfl s27.nd (pi_tup (pv 0))
      (blkOk_by (N := ["terms", "term"]) (sc := defScope (top 27)) (by decide +kernel)) (fun _ _ _ _ _ => (pg_name (i := 1) (FnScope.nd s27) rfl (Or.inl rfl))) (fun _ _ _ _ _ => pts_nil)
      (fun _ _ _ _ _ => pe_un un_neg (pv 1))) pa_nil))), ?_⟩
  have h0 : H p = some (.tup (xs.map V.int)) := h
  have hq : SqT K H p (xs.map V.int) := SqT.of h
  refine ⟨_, rfl, p, rfl, ⟨_, hq⟩, fun D hD => lc_tup (xs := xs.map V.int) (fun i H' => H' = upd H D (.lst (((xs.take i).map fun x => -x).map V.int))) rfl (fun i H' _ e => by rw [e]; exact SqT.of ((same_new hD) _ _ h0)) (fun i x H' hx e => ?_) (fun H' e => ?_)⟩
  · subst e
    obtain ⟨z, hz, rfl⟩ := at_map hx
    refine ⟨rfl, ?_⟩
    simp only [tYes, if_true]
    refine ⟨_, rfl, _, rfl, _, upd_same, ?_, ?_⟩
    · rw [List.length_map, List.length_map, List.length_take]
      exact sz_lt (by omega)
    · rw [upd_upd, take_map hz]
  · subst e
    rw [List.length_map, List.take_length]
    refine ⟨D, _, rfl, .inl ⟨SqL.of upd_same, fun q hq2 => k _ _ (Same.new (same_new hD) hq2) ⟨q, rfl, upd_same⟩⟩⟩
/-- divided by the common divisor where it is above 1 -/
def primL (xs : List Int) : List Int := if 1 < (gcdL xs : Nat) then xs.map (fun x => Int.fdiv x (gcdL xs : Nat)) else xs
def derL (xs : List Int) : List Int := (List.range (xs.length - 1)).map fun i => ((1 + i : Nat) : Int) * xs.getD (1 + i) 0
abbrev spDerG : Sp := Prm (α := Addr × List Int) (fun a => [.ref a.1]) (fun a H => TI H a.1 a.2 ∧ 1 ≤ a.2.length ∧ a.2.length ≤ 1000) (fun a H v H' => ∃ q, v = .ref q ∧ TI H' q (derL a.2))
theorem c_derG (D : Df K mg "derivative" (top 28)) (B : Bl mg) : Cal P w K mg base 1 "derivative" ["terms"] spDerG := by
  refine mkC D s28 (fun _ _ _ _ _ _ us hl => match us, hl with | [_], _ => rfl) (fun _ => rfl) (fun f cdv A outer s H a Q E hr h k => ?_)
  obtain ⟨p, xs⟩ := a
  obtain ⟨h, h1, hl⟩ := h
  have hl : xs.length ≤ 1000 := hl
  have h1 : 1 ≤ xs.length := h1
  have h0 : H p = some (.tup (xs.map V.int)) := h
  refine ⟨_, pss_one (ps_ret (pe_callTy call_tuple_of (by rfl) B.tuple_ PyProof.Rows.boot_tuple (pa_cons (pe_lc (own := [("at", 1)]) (g := gName 1) (tt := tYes) (te := tOp (rI CMul fun i j => .int (i * j)) (tVar 1) (tOp (rIxT K) (tVar 0) (tVar 1))) rfl s28.nd
      (pi_range2 (by rfl) B.range_ (pa_cons pe_int (pa_cons ((pe_callB call_len_seq (by rfl) (Bl.len_ B) PySem.boot_len (pa_cons (pv 0) pa_nil))) pa_nil)))
      (blkOk_by (N := ["terms", "at"]) (sc := defScope (top 28)) (by decide +kernel)) (fun _ _ _ _ _ => (pg_name (i := 1) (FnScope.nd s28) rfl (Or.inl rfl))) (fun _ _ _ _ _ => pts_nil)
      (fun _ _ _ _ _ => pe_op op_mul (pv 1) ((pe_ix ix_tup (pv 0) (pv 1) (fun _ _ => rfl))))) pa_nil))), ?_⟩
  have en : (((xs.map V.int).length : Int) - 1).toNat = xs.length - 1 := by
    rw [List.length_map]
    omega
  refine ⟨_, rfl, p, _, rfl, .inr (SqT.of h0), _, _, rfl, ⟨by decide, by decide, (by show -2 ^ 62 ≤ (((xs.map V.int).length : Nat) : Int); rw [List.length_map]; omega), (by show (((xs.map V.int).length : Nat) : Int) < 2 ^ 62; rw [List.length_map]; omega)⟩, fun D hD => ?_⟩
  rw [en]
  refine lc_range (lo := 1) (fun i H' => H' = upd H D (.lst (((List.range i).map fun i => ((1 + i : Nat) : Int) * xs.getD (1 + i) 0).map V.int))) rfl (fun i H' hi e => ?_) (fun H' e => ?_)
  · subst e
    have s1 := same_new (o := .lst (((List.range i).map fun i => ((1 + i : Nat) : Int) * xs.getD (1 + i) 0).map V.int)) hD
    have hlt : 1 + i < xs.length := by omega
    have ex : (xs.map V.int)[1 + i]? = some (V.int (xs.getD (1 + i) 0)) := by
      rw [List.getElem?_map, List.getElem?_eq_getElem hlt, List.getD_eq_getElem?_getD, List.getElem?_eq_getElem hlt]
      rfl
    refine ⟨rfl, ?_⟩
    simp only [tYes, if_true]
    have ei : ((1 : Int) + (i : Int)) = ((1 + i : Nat) : Int) := by omega
    refine ⟨_, rfl, _, rfl, _, rfl, p, _, _, .int (xs.getD (1 + i) 0), rfl, rfl, SqT.of (s1 _ _ h0), (by rw [ei]; exact atI_nat ex), _, _, rfl, rfl, .inl ⟨by omega, by omega⟩, _, upd_same, ?_, ?_⟩
    · rw [List.length_map, List.length_map, List.length_range]
      exact sz_lt (by omega)
    · rw [upd_upd, List.range_succ, List.map_append, List.map_append, ei]
      rfl
  · subst e
    refine ⟨D, _, rfl, .inl ⟨SqL.of upd_same, fun q hq2 => k _ _ (Same.new (same_new hD) hq2) ⟨q, rfl, upd_same⟩⟩⟩
abbrev spPrimG : Sp := Prm (α := Addr × List Int) (fun a => [.ref a.1]) (fun a H => TI H a.1 a.2 ∧ a.2.length ≤ 1000) (fun a H v H' => ∃ q, v = .ref q ∧ TI H' q (primL a.2))
end
end Xq

/-! t[::-1], t of any length. -/
namespace Xq
open PySem PySem.Spec PyProof.Rows L2
theorem rev_pick {α : Type} (l : List α) : ((List.range l.length).filterMap fun (m : Nat) => l.toArray[((((l.length : Nat) : Int) - 1) + (m : Int) * (-1)).toNat]?) = l.reverse := by
  have e : ∀ k, k ≤ l.length → ((List.range k).filterMap fun (m : Nat) => l.toArray[((((l.length : Nat) : Int) - 1) + (m : Int) * (-1)).toNat]?) = l.reverse.take k := by
    intro k
    induction k with
    | zero => intro _; rfl
    | succ k ih =>
      intro hk
      have hlt : k < l.reverse.length := by rw [List.length_reverse]; omega
      have en : ((((l.length : Nat) : Int) - 1) + (k : Int) * (-1)).toNat = l.length - 1 - k := by omega
      rw [List.range_succ, List.filterMap_append, ih (by omega), List.take_succ, List.getElem?_eq_getElem hlt]
      have ex : l.toArray[((((l.length : Nat) : Int) - 1) + (k : Int) * (-1)).toNat]? = some l.reverse[k] := by
        rw [en, List.getElem?_toArray, List.getElem_reverse, List.getElem?_eq_getElem (by omega)]
      simp only [List.filterMap_cons, List.filterMap_nil, ex, Option.toList]
  rw [e _ (Nat.le_refl _), ← List.length_reverse, List.take_length]
section
variable {prog : Program} {w : World} {A : Around} {E : Value → Shared → Prop} {s : Shared}
theorem rev_placesG (n : Nat) (hn : 1 ≤ n) : Builtin.Slice.sliceAdjust none none (-1) (n : Int) = ((n : Int) - 1, -1) ∧ Builtin.Slice.slicePlaces ((n : Int) - 1) (-1) (-1) = n := by
  refine ⟨?_, ?_⟩
  · unfold Builtin.Slice.sliceAdjust
    simp
  · unfold Builtin.Slice.slicePlaces
    simp
    omega
theorem sliceApplied_revG {sl : Addr} {vl vu vs : Value} {n : Nat} {Q : Int × Int × Nat → Shared → Prop} (hn : 1 ≤ n) (hs : s.heap.IsSliceOf sl vl vu vs) (pl : IsPart vl none) (pu : IsPart vu none) (ps : IsPart vs (some (-1)))
    (h : Q ((n : Int) - 1, -1, n) s) : wpAny (model prog w) A (Builtin.Slice.sliceApplied (.ref sl) (pure (n : Int))) Q E s := by
  obtain ⟨os, hos, hcs, hds⟩ := id hs
  unfold Builtin.Slice.sliceApplied Builtin.Slice.sliceFields
  refine wpAny_bind (wpAny_bind (wpAny_field hos hds (x := vl) rfl (wpAny_bind (wpAny_field hos hds (x := vu) rfl (wpAny_bind (wpAny_field hos hds (x := vs) rfl (wpAny_pure ?_)))))))
  refine wpAny_bind (HT.slicePart_ ps ?_)
  show wpAny _ _ (if ((-1 : Int) == 0) = true then _ else _) _ _ s
  rw [if_neg (by decide)]
  refine wpAny_bind (HT.slicePart_ pl (wpAny_bind (HT.slicePart_ pu (wpAny_bind (wpAny_pure ?_)))))
  show wpAny _ _ (match Builtin.Slice.sliceAdjust none none (-1) (n : Int) with | (lo, hi) => pure (lo, (-1 : Int), Builtin.Slice.slicePlaces lo hi (-1))) _ _ s
  rw [(rev_placesG n hn).1]
  show wpAny _ _ (pure ((n : Int) - 1, (-1 : Int), Builtin.Slice.slicePlaces ((n : Int) - 1) (-1) (-1))) _ _ s
  rw [(rev_placesG n hn).2]
  exact wpAny_pure h
theorem getItem_tuple_revG {t sl : Addr} {l : List Value} {vl vu vs : Value} {Q : Value → Shared → Prop} (hn : 1 ≤ l.length) (hm : l.length ≤ 1000) (ht : IsTup s.heap t l.toArray) (hs : s.heap.IsSliceOf sl vl vu vs) (pl : IsPart vl none) (pu : IsPart vu none) (ps : IsPart vs (some (-1)))
    (h : Q (.ref s.heap.objs.size) { s with heap := s.heap.push { cls := .type "tuple", data := .seq l.reverse.toArray } }) : wpAny (model prog w) A (getItem (.ref t) (.ref sl)) Q E s := by
  have htake : sizeOk (.seq l.reverse.toArray) := by
    show l.reverse.toArray.size ≤ sizeLine
    rw [List.size_toArray, List.length_reverse]
    have : 1000 ≤ sizeLine := by decide
    omega
  obtain ⟨os, hos, hcs, hds⟩ := id hs
  have hTs : s.TypeIs (.ref sl) "slice" := ⟨os, hos, hcs⟩
  unfold getItem
  try with_reducible refine wpAny_holding ?_
  first | refine wpAny_bind (wpAny_pure ?_) | skip
  refine wpAny_bind (wpAny_sequenceKey ht.typeIs (by decide) ?_)
  refine wpAny_bind (wpAny_callSpecial?_slot (name := Str.ofString "__getitem__") ht.typeIs PyProof.Rows.slot_tuple_getitem
    (wpAny_call_entry PyProof.Rows.slot_tuple_getitem ht.typeIs entry_tuple_getitem ?_ (args_tuple_getitem _ _)))
  show wpAny _ _ (Builtin.Tuple.tupleItemsOf (.ref t) >>= _) _ _ s
  refine wpAny_bind (tupleItemsOf_ ht ?_)
  refine wpAny_bind (wpAny_typeOf hTs ?_)
  rw [if_pos (by decide)]
  refine wpAny_bind (sliceApplied_revG (n := l.toArray.size) (by rw [List.size_toArray]; exact hn) hs pl pu ps ?_)
  have hno : ¬ ((((l.toArray.size : Nat) : Int) - 1 == 0 && (-1 : Int) == 1 && l.toArray.size == l.toArray.size) = true) := by
    intro q
    rw [Bool.and_eq_true, Bool.and_eq_true] at q
    exact absurd q.1.2 (by decide)
  show wpAny _ _ (if (((l.toArray.size : Nat) : Int) - 1 == 0 && (-1 : Int) == 1 && l.toArray.size == l.toArray.size) = true then _ else _) _ _ s
  rw [if_neg hno]
  have pick : ((List.range l.toArray.size).filterMap fun (m : Nat) => l.toArray[((((l.toArray.size : Nat) : Int) - 1) + (m : Int) * (-1)).toNat]?).toArray = l.reverse.toArray := by
    rw [List.size_toArray]
    exact congrArg List.toArray (rev_pick l)
  rw [pick]
  first
    | exact wpAny_bind (m := Builtin.Tuple.tupleExact _) (wpAny_newObj_type (wpAny_pure ⟨_, rfl, wpAny_pure h⟩) htake)
    | exact wpAny_bind (m := Builtin.Tuple.tupleExact _) (wpAny_newObj_type (wpAny_bind (wpAny_pure (wpAny_pure ⟨_, rfl, wpAny_pure h⟩))) htake)
    | exact wpAny_bind (wpAny_bind (m := Builtin.Tuple.tupleExact _) (wpAny_newObj_type (wpAny_pure (wpAny_pure ⟨_, rfl, wpAny_pure h⟩)) htake))
    | exact wpAny_bind (wpAny_bind (m := Builtin.Tuple.tupleExact _) (wpAny_newObj_type (wpAny_pure ⟨_, rfl, wpAny_pure h⟩) htake))
end
/-- t[::-1], t of one at least -/
def tRevG (K : PySem.W.Frag) (te : TE) : TE := fun σ H Q => te σ H fun x H1 => ∃ a xs, x = .ref a ∧ SqT K H1 a xs ∧ (1 ≤ xs.length ∧ xs.length ≤ 1000) ∧ ∀ p, H1 p = none → Q (.ref p) (upd H1 p (.tup xs.reverse))
theorem pe_revG {X : Cx} {e : Expr} {te : TE} {k : Nat} {p1 p2 p3 pos : Pos} (he : PE X e te) : PE X (.Subscript e (.Slice none none (some (.UnaryOp .USub (.Constant (.int 1) k p1) p2)) p3) pos) (tRevG X.K te) := by
  refine ⟨fun pins s σ H Q I h => ?_⟩
  refine Subscript_ (thn (he.run pins s σ H _ I h) fun v s1 ⟨x, H1, I1, r1, q1⟩ => ?_)
  obtain ⟨a, xs, ex, hx, hl, q⟩ := q1
  subst ex
  cases r1
  have hst : PO X (some (.UnaryOp .USub (.Constant (.int 1) k p1) p2)) (tPart (tUn (rU fun i => .int (-i)) (tC (.int 1)))) := po_some (pe_un un_neg pe_int)
  refine wpAny_Slice (thn (po_none.run pins s1 σ H1 (fun o H2 => o = none ∧ H2 = H1) I1 ⟨rfl, rfl⟩) fun vl s2 ⟨l, H2, I2, pl, el, e2⟩ => ?_)
  subst el e2
  refine thn (po_none.run pins s2 σ H2 (fun o H3 => o = none ∧ H3 = H2) I2 ⟨rfl, rfl⟩) fun vu s3 ⟨u, H3, I3, pu, eu, e3⟩ => ?_
  subst eu e3
  refine thn (hst.run pins s3 σ H3 (fun o H4 => o = some (-1) ∧ H4 = H3) I3 ⟨1, rfl, -1, rfl, rfl, rfl⟩) fun vs s4 ⟨o, H4, I4, ps, eo, e4⟩ => ?_
  subst eo e4
  have I5 : Inv X pins σ H4 { s4 with heap := s4.heap.push { cls := .type "slice", data := .fields #[vl, vu, vs] } } := I4.kept (t' := s4.toks) fun b ob q => Heap.get?_push_of_some _ q
  obtain ⟨its, r, ht, hz⟩ := I5.tuple hx
  have hlen := r.length
  show wpAny (model X.prog X.w) X.A (subscriptTail e (.Slice none none (some (.UnaryOp .USub (.Constant (.int 1) k p1) p2)) p3) (.ref a) (.ref s4.heap.objs.size)) (EP X pins σ Q) X.xe { s4 with heap := s4.heap.push { cls := .type "slice", data := .fields #[vl, vu, vs] } }
  refine tail_any (ops := [.ref a, .ref s4.heap.objs.size]) ht.typeIs (PyProof.Rows.slot_tuple_getitem.lookup) ?_ (by with_unfolding_all rfl)
  refine getItem_tuple_revG (by rw [← hlen]; exact hl.1) (by rw [← hlen]; exact hl.2) ht (Heap.IsSliceOf.new _ vl vu vs) pl pu ps ?_
  refine ⟨.ref _, _, I5.laid (t' := s4.toks) (o := .tup xs.reverse) (fun b ob q => Heap.get?_push_of_some _ q) (Nat.le_refl _) ?_, rfl, q _ (I5.hok.fresh (Nat.le_refl _))⟩
  exact ⟨by rw [List.length_reverse]; exact hz, _, r.reverse, IsTup.new _ _⟩

end Xq

/-! Polynomials of any degree: primitive, value_at. -/
namespace Xq
open PySem PySem.Spec PyProof.Rows L2
/-! ### how great -/
abbrev Sm (n : Nat) (i : Int) : Prop := i.natAbs < 2 ^ n
theorem sm_mul {i j : Int} {a b : Nat} (ha : Sm a i) (hb : Sm b j) : Sm (a + b) (i * j) := wide_lt ha hb
theorem sm_le {i : Int} {a b : Nat} (ha : Sm a i) (h : a ≤ b) : Sm b i := Nat.lt_of_lt_of_le ha (Nat.pow_le_pow_right (by decide) h)
theorem cm {i j : Int} {a b : Nat} (ha : Sm a i) (hb : Sm b j) (h0 : 0 < a := by decide) (h1 : 0 < b := by decide) (h : a + b ≤ 1000000 := by decide) : CMulW i j := wide_mul ha hb h0 h1 h
theorem iop_mulW {X : Cx} : OpR X (inplaceOp .Mult) (rI CMulW fun i j => .int (i * j)) := opI fun _ _ _ _ _ _ _ hc q => imul_int q hc.ok
section
variable {P : Program} {w : World} {K : PySem.W.Frag} {mg : Str → Option Value} {base : Heap}
theorem log_lt {n a : Nat} (h : n < 2 ^ a) (h0 : 0 < a) : n.log2 < a := by
  by_cases e : n = 0
  · subst e
    simpa using h0
  · exact (Nat.log2_lt e).mpr h
theorem c_primG (D : Df K mg "primitive" (top 26)) (B : Bl mg) (C : Cal P w K mg base 1 "common_divisor" ["terms"] spGcd) : Cal P w K mg base 2 "primitive" ["terms"] (Prm (α := Addr × List Int) (fun a => [.ref a.1]) (fun a H => TI H a.1 a.2 ∧ a.2.length ≤ 1000 ∧ Sm 9000 (gcdL a.2 : Nat)) (fun a H v H' => ∃ q, v = .ref q ∧ TI H' q (primL a.2))) := by
  refine mkC D s26 (fun _ _ _ _ _ _ us hl => match us, hl with | [_], _ => rfl) (fun _ => rfl) (fun f cdv A outer s H a Q E hr h k => ?_)
  obtain ⟨p, xs⟩ := a
  obtain ⟨h, hl, hb⟩ := h
  have hl : xs.length ≤ 1000 := hl
  have hb : Sm 9000 ((gcdL xs : Nat) : Int) := hb
  have h0 : H p = some (.tup (xs.map V.int)) := h
  refine ⟨_, pss_cons (ps_set (i := 1) s26.nd rfl (Or.inr rfl) (pe_cl C hr (pa_cons (pv 0) pa_nil))) (pss_one (ps_ret (pe_ifExp ((pt_cmpR op_gt (pv 1) pe_int (nomark _)))
    (pe_callTy call_tuple_of (by rfl) B.tuple_ PyProof.Rows.boot_tuple (pa_cons (pe_lc (own := [("term", 2)]) (g := gName 2) (tt := tYes) (te := tOp (rI CDivX fun i j => .int (i.fdiv j)) (tVar 2) (tVar 1)) rfl s26.nd (pi_tup (pv 0))
      (blkOk_by (N := ["terms", "common", "term"]) (sc := defScope (top 26)) (by decide +kernel)) (fun _ _ _ _ _ => (pg_name (i := 2) (FnScope.nd s26) rfl (Or.inl rfl))) (fun _ _ _ _ _ => pts_nil)
      (fun _ _ _ _ _ => pe_op op_fdivX (pv 2) (pv 1))) pa_nil)) (pv 0)))), ?_⟩
  refine ⟨_, rfl, (p, xs), rfl, .inr h, ?_⟩
  rintro _ H - ⟨rfl, rfl⟩
  refine ⟨_, rfl, _, _, rfl, rfl, _, rfl, ?_⟩
  by_cases hg : 1 < gcdL xs
  · rw [decide_eq_true (show ((gcdL xs : Nat) : Int) > 1 by omega)]
    have hq : SqT K H p (xs.map V.int) := SqT.of h
    have cd : CDivX 0 ((gcdL xs : Nat) : Int) := ⟨by omega, log_lt hb (by decide)⟩
    refine iteT ⟨_, rfl, p, rfl, ⟨_, hq⟩, fun D hD => lc_tup (xs := xs.map V.int) (fun i H' => H' = upd H D (.lst (((xs.take i).map fun x => Int.fdiv x (gcdL xs : Nat)).map V.int))) rfl (fun i H' _ e => by rw [e]; exact SqT.of ((same_new hD) _ _ h0)) (fun i x H' hx e => ?_) (fun H' e => ?_)⟩
    · subst e
      obtain ⟨z, hz, rfl⟩ := at_map hx
      refine ⟨rfl, ?_⟩
      simp only [tYes, if_true]
      refine ⟨_, rfl, _, rfl, _, _, rfl, rfl, cd, _, upd_same, ?_, ?_⟩
      · rw [List.length_map, List.length_map, List.length_take]
        exact sz_lt (by omega)
      · rw [upd_upd, take_map hz]
    · subst e
      rw [List.length_map, List.take_length]
      refine ⟨D, _, rfl, .inl ⟨SqL.of upd_same, fun q hq2 => k _ _ (Same.new (same_new hD) hq2) ⟨q, rfl, ?_⟩⟩⟩
      show upd _ q _ q = _
      rw [upd_same]
      unfold primL
      rw [if_pos hg]
  · rw [decide_eq_false (show ¬ ((gcdL xs : Nat) : Int) > 1 by omega)]
    refine iteF ⟨_, rfl, k _ _ (Same.refl _) ⟨p, rfl, ?_⟩⟩
    unfold primL
    rw [if_neg hg]
    exact h
/-! ### value_at -/
def stV (t b : Int) (a : Int × Int) (x : Int) : Int × Int := (a.1 * t + x * a.2, a.2 * b)
def foV (t b : Int) (l : List Int) : Int × Int := l.foldl (stV t b) (0, 1)
/-- what value_at tells -/
def valL (xs : List Int) (t b : Int) : Int := (foV t b xs.reverse).1
theorem foV_succ {t b : Int} {l : List Int} {i : Nat} {z : Int} (h : l[i]? = some z) : foV t b (l.take (i + 1)) = stV t b (foV t b (l.take i)) z := by
  unfold foV
  rw [List.take_succ, h, List.foldl_append]
  rfl
/-- what is reckoned on the way is not too great -/
def okV (n : Nat) (xs : List Int) (t b : Int) : Prop := Sm n t ∧ Sm n b ∧ (∀ x ∈ xs, Sm n x) ∧ ∀ i, i < xs.length → Sm n (foV t b (xs.reverse.take i)).1 ∧ Sm n (foV t b (xs.reverse.take i)).2
abbrev nVa : List Str := ["terms", "top", "bottom", "value", "scale", "term"]
theorem g33 : FnScope nVa ["terms", "top", "bottom"] (defScope (top 29)) := (⟨rfl, rfl, rfl, by decide +kernel, rfl, by decide +kernel, by decide +kernel⟩)
abbrev spValG : Sp := Prm (α := Addr × List Int × Int × Int) (fun a => [.ref a.1, .int a.2.2.1, .int a.2.2.2]) (fun a H => TI H a.1 a.2.1 ∧ 1 ≤ a.2.1.length ∧ a.2.1.length ≤ 1000 ∧ okV 400000 a.2.1 a.2.2.1 a.2.2.2) (fun a H v H' => v = .int (valL a.2.1 a.2.2.1 a.2.2.2))
theorem c_valG (D : Df K mg "value_at" (top 29)) : Cal P w K mg base 1 "value_at" ["terms", "top", "bottom"] spValG := by
  refine mkC D g33 (fun _ _ _ _ _ _ us hl => match us, hl with | [_, _, _], _ => rfl) (fun _ => rfl) (fun f cdv A outer s H a Q E hr h k => ?_)
  obtain ⟨p, xs, t, b⟩ := a
  obtain ⟨h, h1, hl, ht, hb, hx, ho⟩ := h
  have ht : Sm 400000 t := ht
  have hb : Sm 400000 b := hb
  have h0 : H p = some (.tup (xs.map V.int)) := h
  refine ⟨_, pss_cons (ps_asg (pe_tup (pa_cons pe_int (pa_cons pe_int pa_nil))) (pg_tup rfl (pgs_cons ((pg_name (i := 3) (FnScope.nd g33) rfl (Or.inl rfl))) (pgs_cons ((pg_name (i := 4) (FnScope.nd g33) rfl (Or.inl rfl))) pgs_nil))))
    (pss_cons (ps_for PassesOwn.never rfl (pi_tup (pe_revG (pv 0))) ((pg_name (i := 5) (FnScope.nd g33) rfl (Or.inl rfl)))
      (pss_cons ((ps_set (i := 3) (FnScope.nd g33) rfl (Or.inl rfl) (pe_op op_add (pe_op op_mulW (pv 3) (pv 1)) (pe_op op_mulW (pv 5) (pv 4))))) (pss_one (ps_aug (i := 4) g33.nd rfl (Or.inl rfl) (pv 2) iop_mulW))))
    (pss_one (ps_ret (pv 3)))), ?_⟩
  refine ⟨by decide, fun z hz => ⟨z, _, rfl, SqT.of upd_same, rfl, _, _, rfl, _, _, rfl, rfl, ?_⟩⟩
  have s0 := same_new (o := .tup [.int 0, .int 1]) hz
  have hL : (xs.map V.int).length = xs.length := List.length_map ..
  refine ⟨_, rfl, p, _, rfl, SqT.of (s0 _ _ h0), ⟨by rw [hL]; exact h1, by rw [hL]; exact hl⟩, fun q hq => ?_⟩
  rw [← List.map_reverse]
  have s1 := Same.new (o := .tup (xs.reverse.map V.int)) s0 hq
  have hu := upd_same (H := upd H z (.tup [.int 0, .int 1])) (a := q) (o := .tup (xs.reverse.map V.int))
  refine ⟨q, rfl, ⟨_, SqT.of hu⟩, for_tup (xs := xs.reverse.map V.int) (fun i σ H' => H' = upd (upd H z (.tup [.int 0, .int 1])) q (.tup (xs.reverse.map V.int)) ∧ ∃ y, σ = [some (.ref p), some (.int t), some (.int b), some (.int (foV t b (xs.reverse.take i)).1), some (.int (foV t b (xs.reverse.take i)).2), y]) ⟨rfl, none, rfl⟩ (fun i σ H' _ e => by rw [e.1]; exact SqT.of hu) ?_ ?_⟩
  · rintro i x σ H' hx2 ⟨rfl, y, rfl⟩
    obtain ⟨c, hc, rfl⟩ := at_map hx2
    have hi : i < xs.length := by
      rcases Nat.lt_or_ge i xs.reverse.length with hlt | hge
      · rw [List.length_reverse] at hlt
        exact hlt
      · rw [List.getElem?_eq_none hge] at hc
        cases hc
    obtain ⟨o1, o2⟩ := ho i hi
    have oc : Sm 400000 c := hx c (List.mem_reverse.mp (List.mem_of_getElem? hc))
    refine ⟨_, rfl, _, rfl, _, _, rfl, rfl, cm o1 ht, _, rfl, _, rfl, _, _, rfl, rfl, cm oc o2, _, _, rfl, rfl, ?_⟩
    refine ⟨_, rfl, _, rfl, _, _, rfl, rfl, cm o2 hb, ?_⟩
    refine ⟨rfl, some (.int c), ?_⟩
    rw [foV_succ hc]
    rfl
  · rintro σ H' ⟨rfl, y, rfl⟩
    refine ⟨_, rfl, k _ _ s1 ?_⟩
    rw [List.length_map, List.take_length]
    rfl
end
end Xq

/-! Polynomials of any degree: combined, multiplied. -/
namespace Xq
open PySem PySem.Spec PyProof.Rows L2
section
variable {g : TG} {tb : TS} {D : Ends}
theorem for_enum {K : PySem.W.Frag} {a : Addr} {xs : List V} {σ : L2.St} {H : Hp} (Pv : Nat → L2.St → Hp → Prop) (h0 : Pv 0 σ H) (hl : ∀ i σ H, i ≤ xs.length → Pv i σ H → SqT K H a xs)
    (hs : ∀ i x σ H, xs[i]? = some x → Pv i σ H → ∀ T, H T = none → g (.ref T) σ (upd H T (.tup [.int (i : Nat), x])) fun σ2 H2 => tb { D with nx := Pv (i + 1), ct := Pv (i + 1), bk := D.nx } σ2 H2) (hd : ∀ σ H, Pv xs.length σ H → D.nx σ H) :
    ∃ W : Nat → Nat → L2.St → Hp → Prop, (∃ m, W 0 m σ H) ∧ ∀ i m σ H, W i m σ H →
      ((IteT K a).stop i H ∧ D.nx σ H) ∨ ((IteT K a).go i H ∧ ∃ N : L2.St → Hp → Prop, (∀ σ' H', N σ' H' → ∃ m', m' < m ∧ W (i + 1) m' σ' H') ∧ ∀ x H', (IteT K a).yld i H x H' → g x σ H' fun σ2 H2 => tb { D with nx := N, ct := N, bk := D.nx } σ2 H2) := by
  refine ⟨fun i m σ H => m = xs.length - i ∧ i ≤ xs.length ∧ Pv i σ H, ⟨xs.length, by simp, Nat.zero_le _, h0⟩, ?_⟩
  rintro i m σ H ⟨rfl, hi, p⟩
  have q := hl i σ H hi p
  by_cases hlt : i < xs.length
  · refine .inr ⟨⟨xs, xs[i], q, by simp [hlt]⟩, Pv (i + 1), fun σ' H' p' => ⟨xs.length - (i + 1), by omega, rfl, hlt, p'⟩, fun x H' y => ?_⟩
    obtain ⟨T, z, rfl, hT, rfl, y⟩ := y
    exact hs i z σ H (y xs q) p T hT
  · have e : i = xs.length := by omega
    subst e
    exact .inl ⟨⟨xs, q, Nat.le_refl _⟩, hd σ H p⟩
end
/-- places i + sh of a turned by g, term by term -/
def stG (g : Int → Int → Int) (xs : List Int) (sh : Nat) (a : List Int) : Nat → List Int
  | 0 => a
  | i + 1 => (stG g xs sh a i).set (i + sh) (g ((stG g xs sh a i).getD (i + sh) 0) (xs.getD i 0))
theorem stG_len (g : Int → Int → Int) (xs : List Int) (sh : Nat) (a : List Int) : ∀ i, (stG g xs sh a i).length = a.length
  | 0 => rfl
  | i + 1 => by
    show (List.set _ _ _).length = _
    rw [List.length_set, stG_len g xs sh a i]
theorem zeros (n : Nat) : (List.replicate n [V.int 0]).flatten = (List.replicate n (0 : Int)).map V.int := by
  induction n with
  | zero => rfl
  | succ n ih => rw [List.replicate_succ, List.flatten_cons, ih, List.replicate_succ, List.map_cons]; rfl
theorem getD_map {xs : List Int} {i : Nat} (h : i < xs.length) : (xs.map V.int)[i]? = some (V.int (xs.getD i 0)) := by
  rw [List.getElem?_map, List.getElem?_eq_getElem h, List.getD_eq_getElem?_getD, List.getElem?_eq_getElem h]
  rfl
theorem getD_of {xs : List Int} {i : Nat} {z : Int} (h : xs[i]? = some z) : xs.getD i 0 = z := by
  rw [List.getD_eq_getElem?_getD, h]
  rfl
theorem lt_of_at {xs : List Int} {i : Nat} {z : Int} (h : xs[i]? = some z) : i < xs.length := by
  rcases Nat.lt_or_ge i xs.length with q | q
  · exact q
  · rw [List.getElem?_eq_none q] at h
    cases h
theorem set_map (xs : List Int) (i : Nat) (z : Int) : (xs.map V.int).set i (V.int z) = (xs.set i z).map V.int := by
  rw [List.map_set]
theorem ixN_nat {n i : Nat} (h : i < n) : ixN n (i : Int) = some i := by
  unfold ixN
  simp
  omega
def combA (c : Int) (xs : List Int) (ys : List Int) (sh : Nat) : List Int := stG (fun o x => o + c * x) xs 0 (List.replicate (max xs.length (ys.length + sh)) 0) xs.length
def combL (c : Int) (xs : List Int) (wt : Int) (ys : List Int) (sh : Nat) : List Int := trimI (stG (fun o y => o - wt * y) ys sh (combA c xs ys sh) ys.length)
section
variable {P : Program} {w : World} {K : PySem.W.Frag} {mg : Str → Option Value} {base : Heap}
abbrev nCo : List Str := ["factor", "one", "weight", "other", "shift", "result", "at", "term"]
theorem g35 : FnScope nCo ["factor", "one", "weight", "other", "shift"] (defScope (top 31)) := (⟨rfl, rfl, rfl, by decide +kernel, rfl, by decide +kernel, by decide +kernel⟩)
abbrev spCombG : Sp := Prm (α := Int × Addr × Int × Addr × Nat × List Int × List Int) (fun ⟨c, p, wt, q, sh, xs, ys⟩ => [.int c, .ref p, .int wt, .ref q, .int (sh : Int)])
  (fun ⟨c, p, wt, q, sh, xs, ys⟩ H => TI H p xs ∧ TI H q ys ∧ Sm 400000 c ∧ Sm 400000 wt ∧ (∀ x ∈ xs, Sm 400000 x) ∧ (∀ y ∈ ys, Sm 400000 y) ∧ xs.length ≤ 1000 ∧ ys.length + sh ≤ 1000)
  (fun ⟨c, p, wt, q, sh, xs, ys⟩ H v H' => ∃ r, v = .ref r ∧ TI H' r (combL c xs wt ys sh))
theorem c_combG (D : Df K mg "combined" (top 31)) (B : Bl mg) (C : Cal P w K mg base 1 "trimmed" ["terms"] spTrim) : Cal P w K mg base 2 "combined" ["factor", "one", "weight", "other", "shift"] spCombG := by
  refine mkC D g35 (fun _ _ _ _ _ _ us hl => match us, hl with | [_, _, _, _, _], _ => rfl) (fun _ => rfl) (fun f cdv A outer s H a Q E hr h k => ?_)
  obtain ⟨c, p, wt, q, sh, xs, ys⟩ := a
  obtain ⟨h1, h2, bc, bw, bx, by', lx, ly⟩ := h
  refine ⟨_, pss_cons ((ps_set (i := 5) (FnScope.nd g35) rfl (Or.inl rfl) (pe_op op_rep (pe_lst (pa_cons pe_int pa_nil)) (pe_callB (call_max2 rfl) (by rfl) B.max_ PyProof.Rows.boot_max (pa_cons ((pe_callB call_len_seq (by rfl) (Bl.len_ B) PySem.boot_len (pa_cons (pv 1) pa_nil))) (pa_cons (pe_op op_add ((pe_callB call_len_seq (by rfl) (Bl.len_ B) PySem.boot_len (pa_cons (pv 3) pa_nil))) (pv 4)) pa_nil))))))
    (pss_cons (ps_for PassesOwn.never rfl (pi_enumT (by rfl) B.enumerate_ (pa_cons (pv 1) pa_nil)) (pg_tup rfl (pgs_cons ((pg_name (i := 6) (FnScope.nd g35) rfl (Or.inl rfl))) (pgs_cons ((pg_name (i := 7) (FnScope.nd g35) rfl (Or.inl rfl))) pgs_nil)))
        (pss_one (ps_augS (pv 5) (pv 6) get_list (pe_op op_mulW (pv 0) (pv 7)) ip_add set_list)))
    (pss_cons (ps_for PassesOwn.never rfl (pi_enumT (by rfl) B.enumerate_ (pa_cons (pv 3) pa_nil)) (pg_tup rfl (pgs_cons ((pg_name (i := 6) (FnScope.nd g35) rfl (Or.inl rfl))) (pgs_cons ((pg_name (i := 7) (FnScope.nd g35) rfl (Or.inl rfl))) pgs_nil)))
        (pss_one (ps_augS (pv 5) (pe_op op_add (pv 6) (pv 4)) get_list (pe_op op_mulW (pv 2) (pv 7)) ip_sub set_list)))
    (pss_one (ps_ret (pe_cl C hr (pa_cons (pv 5) pa_nil)))))), ?_⟩
  have h10 : H p = some (.tup (xs.map V.int)) := h1
  have h20 : H q = some (.tup (ys.map V.int)) := h2
  have lx' : (xs.map V.int).length = xs.length := List.length_map ..
  have ly' : (ys.map V.int).length = ys.length := List.length_map ..
  refine ⟨by decide, fun l hl => ?_⟩
  have s1 := same_new (o := .lst [.int 0]) hl
  have n1 : (if (((ys.map V.int).length : Nat) : Int) + (sh : Int) > (((xs.map V.int).length : Nat) : Int) then (((ys.map V.int).length : Nat) : Int) + (sh : Int) else (((xs.map V.int).length : Nat) : Int)) = ((max xs.length (ys.length + sh) : Nat) : Int) := by
    rw [lx', ly']
    split <;> omega
  have nm : max xs.length (ys.length + sh) ≤ 1000 := by omega
  refine ⟨_, rfl, p, _, rfl, .inr (SqT.of (s1 _ _ h10)), _, rfl, q, _, rfl, .inr (SqT.of (s1 _ _ h20)), _, rfl, _, _, rfl, rfl, _, _, rfl, ?_⟩
  refine ⟨l, ((max xs.length (ys.length + sh) : Nat) : Int), _, rfl, congrArg V.int n1, upd_same, by omega, by omega, ?_, fun m hm => ?_⟩
  · show 1 * ((max xs.length (ys.length + sh) : Nat) : Int).toNat ≤ sizeLine
    have : 1000 ≤ sizeLine := by decide
    omega
  have s2 := Same.new (o := .lst (List.replicate ((max xs.length (ys.length + sh) : Nat) : Int).toNat [V.int 0]).flatten) s1 hm
  have hm0 : H m = none := new_of s1 hm
  have em := upd_same (H := upd H l (.lst [.int 0])) (a := m) (o := .lst (List.replicate ((max xs.length (ys.length + sh) : Nat) : Int).toNat [V.int 0]).flatten)
  generalize upd (upd H l (.lst [.int 0])) m (.lst (List.replicate ((max xs.length (ys.length + sh) : Nat) : Int).toNat [V.int 0]).flatten) = H2 at *
  rw [zeros, Int.toNat_natCast] at em
  have la : (combA c xs ys sh).length = max xs.length (ys.length + sh) := by
    unfold combA
    rw [stG_len, List.length_replicate]
  refine ⟨_, rfl, p, _, rfl, SqT.of (s2 _ _ h10), for_enum (xs := xs.map V.int) (fun i σ H' => Same H H' ∧ H' m = some (.lst ((stG (fun o x => o + c * x) xs 0 (List.replicate (max xs.length (ys.length + sh)) 0) i).map V.int)) ∧ ∃ y z : Option V, σ = [some (.int c), some (.ref p), some (.int wt), some (.ref q), some (.int (sh : Int)), some (.ref m), y, z]) ⟨s2, em, none, none, rfl⟩ (fun i σ H' _ e => SqT.of (e.1 _ _ h10)) ?_ ?_⟩
  · rintro i x σ H3 hx ⟨s3, e3, y, z, rfl⟩ T hT
    obtain ⟨b, hb, rfl⟩ := at_map hx
    have hi := lt_of_at hb
    have s4 := Same.new (o := .tup [.int (i : Nat), .int b]) s3 hT
    have nT : m ≠ T := ne_of_none e3 hT
    have e4 : upd H3 T (.tup [.int (i : Nat), .int b]) m = _ := (upd_ne nT).trans e3
    have li : i < (stG (fun o x => o + c * x) xs 0 (List.replicate (max xs.length (ys.length + sh)) 0) i).length := by
      rw [stG_len, List.length_replicate]
      omega
    refine ⟨T, _, rfl, SqT.of upd_same, rfl, _, _, rfl, _, _, rfl, rfl, _, rfl, _, rfl, m, _, _, _, rfl, rfl, SqL.of e4, atI_nat (getD_map li), ?_⟩
    refine ⟨_, rfl, _, rfl, _, _, rfl, rfl, cm bc (bx b (List.mem_of_getElem? hb)), _, _, rfl, rfl, m, _, _, i, rfl, rfl, e4, ixN_nat (by rw [List.length_map]; exact li), ?_⟩
    refine ⟨Same.put s4 hm0, ?_, _, _, rfl⟩
    rw [upd_same, set_map]
    show some (HO.lst _) = some (HO.lst (List.map V.int (List.set _ (i + 0) _)))
    rw [getD_of hb]
    rfl
  · rintro σ H3 ⟨s3, e3, y, z, rfl⟩
    rw [lx'] at e3
    have e3 : H3 m = some (.lst ((combA c xs ys sh).map V.int)) := e3
    refine ⟨_, rfl, q, _, rfl, SqT.of (s3 _ _ h20), for_enum (xs := ys.map V.int) (fun i σ H' => Same H H' ∧ H' m = some (.lst ((stG (fun o y => o - wt * y) ys sh (combA c xs ys sh) i).map V.int)) ∧ ∃ y z : Option V, σ = [some (.int c), some (.ref p), some (.int wt), some (.ref q), some (.int (sh : Int)), some (.ref m), y, z]) ⟨s3, e3, y, z, rfl⟩ (fun i σ H' _ e => SqT.of (e.1 _ _ h20)) ?_ ?_⟩
    · rintro i x σ H4 hx ⟨s4, e4, y, z, rfl⟩ T hT
      obtain ⟨b, hb, rfl⟩ := at_map hx
      have hi := lt_of_at hb
      have s5 := Same.new (o := .tup [.int (i : Nat), .int b]) s4 hT
      have nT : m ≠ T := ne_of_none e4 hT
      have e5 : upd H4 T (.tup [.int (i : Nat), .int b]) m = _ := (upd_ne nT).trans e4
      have li : i + sh < (stG (fun o y => o - wt * y) ys sh (combA c xs ys sh) i).length := by
        rw [stG_len, la]
        omega
      have ei : ((i : Int) + (sh : Int)) = ((i + sh : Nat) : Int) := by omega
      refine ⟨T, _, rfl, SqT.of upd_same, rfl, _, _, rfl, _, _, rfl, rfl, _, rfl, _, rfl, _, rfl, _, _, rfl, rfl, m, _, _, V.int ((stG (fun o y => o - wt * y) ys sh (combA c xs ys sh) i).getD (i + sh) 0), rfl, rfl, SqL.of e5, by rw [ei]; exact atI_nat (getD_map li), ?_⟩
      refine ⟨_, rfl, _, rfl, _, _, rfl, rfl, cm bw (by' b (List.mem_of_getElem? hb)), _, _, rfl, rfl, m, _, _, i + sh, rfl, rfl, e5, by rw [ei]; exact ixN_nat (by rw [List.length_map]; exact li), ?_⟩
      refine ⟨Same.put s5 hm0, ?_, _, _, rfl⟩
      rw [upd_same, set_map]
      show some (HO.lst _) = some (HO.lst (List.map V.int (List.set _ (i + sh) _)))
      rw [getD_of hb]
    · rintro σ H4 ⟨s4, e4, y, z, rfl⟩
      rw [ly'] at e4
      refine ⟨_, rfl, (m, _), rfl, .inl e4, ?_⟩
      rintro _ H9 s9 ⟨r, rfl, hr9⟩
      exact k _ _ (s4.trans s9) ⟨r, rfl, hr9⟩
end
end Xq

/-! Polynomials of any degree: remainder. -/
namespace Xq
open PySem PySem.Spec PyProof.Rows L2
def tWhI (t : TT) (tb : TS) : TS := fun D σ H => ∃ W : Nat → L2.St → Hp → Prop, (∃ m, W m σ H) ∧ ∀ m σ H, W m σ H → t σ H fun b H1 =>
  if b = true then tb { D with nx := fun σ' H' => ∃ m', m' < m ∧ W m' σ' H', ct := fun σ' H' => ∃ m', m' < m ∧ W m' σ' H', bk := D.nx } σ H1 else D.nx σ H1
/-- while, by a word that counts down -/
theorem ps_whI {X : Cx} {c : Expr} {body : List Stmt} {tc : TT} {tb : TS} {pos : Pos} (hp : PassesOwn (model X.prog X.w) X.A X.env X.xe) (hc : PT X c tc) (hb : PSs X body tb) : PS X (.While c body [] pos) (tWhI tc tb) := by
  have h := ps_while (pos := pos) hp (pt_mn hc) hb
  refine ⟨fun pins s σ H D I hq => h.run pins s σ H D I ?_⟩
  obtain ⟨W, w0, hw⟩ := hq
  refine ⟨W, w0, fun m σ H p => ⟨_, hw m σ H p, fun b H1 q => ?_⟩⟩
  cases b with
  | true => exact ⟨fun σ' H' => ∃ m', m' < m ∧ W m' σ' H', fun σ' H' p' => p', q⟩
  | false => exact q
theorem at_lastD {xs : List Int} (h : 1 ≤ xs.length) : atI (xs.map V.int) (-1) = some (V.int (xs.getLastD 0)) := by
  rcases List.eq_nil_or_concat xs with e | ⟨l, z, e⟩
  · rw [e] at h
    exact absurd h (by decide)
  · rw [e, List.concat_eq_append, List.map_append]
    rw [show List.map V.int [z] = [V.int z] from rfl, atI_last]
    simp
def smB (n : Nat) (xs : List Int) : Bool := xs.all fun x => decide (x.natAbs < 2 ^ n)
theorem smB_ok {n : Nat} {xs : List Int} (h : smB n xs = true) {a : Nat} (ha : n ≤ a) : ∀ x ∈ xs, Sm a x := fun x hx => sm_le (of_decide_eq_true (List.all_eq_true.mp h x hx)) ha
theorem last_mem {xs : List Int} (h : 1 ≤ xs.length) : xs.getLastD 0 ∈ xs := by
  rcases List.eq_nil_or_concat xs with e | ⟨l, z, e⟩
  · rw [e] at h
    exact absurd h (by decide)
  · rw [e, List.concat_eq_append]
    simp
/-- one turn of remainder -/
def nxt (ys xs : List Int) : List Int := combL (if ys.getLastD 0 < 0 then -(ys.getLastD 0) else ys.getLastD 0) xs (if ys.getLastD 0 > 0 then xs.getLastD 0 else -(xs.getLastD 0)) ys (xs.length - ys.length)
def remS (ys : List Int) : Nat → List Int → List Int
  | 0, xs => xs
  | n + 1, xs => if xs.length < ys.length then xs else remS ys n (nxt ys xs)
/-- so many turns are enough, and nothing grows too great -/
def okR (ys : List Int) : Nat → List Int → Bool
  | 0, xs => decide (xs.length < ys.length) && decide (gcdL xs < 2 ^ 9000)
  | n + 1, xs => (decide (xs.length < ys.length) && decide (gcdL xs < 2 ^ 9000)) || (decide (ys.length ≤ xs.length) && smB 4000 xs && decide (xs.length ≤ 1000) && okR ys n (nxt ys xs))
/-- what remainder tells -/
def remL (ys : List Int) (n : Nat) (xs : List Int) : List Int := primL (remS ys n xs)
theorem nxt_sm {b c : Int} {n : Nat} (h : Sm n b) : Sm n (if c < 0 then -b else b) := by
  split
  · unfold Sm at *
    rw [Int.natAbs_neg]
    exact h
  · exact h
section
variable {P : Program} {w : World} {K : PySem.W.Frag} {mg : Str → Option Value} {base : Heap}
abbrev nRe : List Str := ["one", "other", "factor", "weight"]
theorem g36 : FnScope nRe ["one", "other"] (defScope (top 32)) := (⟨rfl, rfl, rfl, by decide +kernel, rfl, by decide +kernel, by decide +kernel⟩)
abbrev spPrimH : Sp := Prm (α := Addr × List Int) (fun a => [.ref a.1]) (fun a H => TI H a.1 a.2 ∧ a.2.length ≤ 1000 ∧ Sm 9000 (gcdL a.2 : Nat)) (fun a H v H' => ∃ q, v = .ref q ∧ TI H' q (primL a.2))
abbrev spRemG : Sp := Prm (α := Addr × Addr × List Int × List Int × Nat) (fun ⟨p, q, xs, ys, n⟩ => [.ref p, .ref q])
  (fun ⟨p, q, xs, ys, n⟩ H => TI H p xs ∧ TI H q ys ∧ 1 ≤ ys.length ∧ ys.length ≤ 1000 ∧ smB 4000 ys = true ∧ okR ys n xs = true) (fun ⟨p, q, xs, ys, n⟩ H v H' => ∃ r, v = .ref r ∧ TI H' r (remL ys n xs))
theorem c_remG (D : Df K mg "remainder" (top 32)) (B : Bl mg) (C : Cal P w K mg base 2 "combined" ["factor", "one", "weight", "other", "shift"] spCombG) (CP : Cal P w K mg base 2 "primitive" ["terms"] spPrimH) : Cal P w K mg base 3 "remainder" ["one", "other"] spRemG := by
  refine mkC D g36 (fun _ _ _ _ _ _ us hl => match us, hl with | [_, _], _ => rfl) (fun _ => rfl) (fun f cdv A outer s H a Q E hr h k => ?_)
  obtain ⟨p, q, xs, ys, n⟩ := a
  obtain ⟨h1, h2, l1, l2, by', ok⟩ := h
  refine ⟨_, pss_cons ((ps_set (i := 2) (FnScope.nd g36) rfl (Or.inl rfl) (pe_callB call_abs (by rfl) B.abs_ PyProof.Rows.boot_abs (pa_cons ((pe_ix ix_tup (pv 1) (pe_un un_neg pe_int) (fun _ _ => rfl))) pa_nil))))
    (pss_cons (ps_whI PassesOwn.never ((pt_cmpR op_ge ((pe_callB call_len_seq (by rfl) (Bl.len_ B) PySem.boot_len (pa_cons (pv 0) pa_nil))) ((pe_callB call_len_seq (by rfl) (Bl.len_ B) PySem.boot_len (pa_cons (pv 1) pa_nil))) (nomark _)))
      (pss_cons ((ps_set (i := 3) (FnScope.nd g36) rfl (Or.inl rfl) (pe_ifExp ((pt_cmpR op_gt ((pe_ix ix_tup (pv 1) (pe_un un_neg pe_int) (fun _ _ => rfl))) pe_int (nomark _))) ((pe_ix ix_tup (pv 0) (pe_un un_neg pe_int) (fun _ _ => rfl))) (pe_un un_neg ((pe_ix ix_tup (pv 0) (pe_un un_neg pe_int) (fun _ _ => rfl)))))))
      (pss_one ((ps_set (i := 0) (FnScope.nd g36) rfl (Or.inl rfl) (pe_cl C hr (pa_cons (pv 2) (pa_cons (pv 0) (pa_cons (pv 3) (pa_cons (pv 1) (pa_cons (pe_op op_sub ((pe_callB call_len_seq (by rfl) (Bl.len_ B) PySem.boot_len (pa_cons (pv 0) pa_nil))) ((pe_callB call_len_seq (by rfl) (Bl.len_ B) PySem.boot_len (pa_cons (pv 1) pa_nil)))) pa_nil)))))))))))
    (pss_one (ps_ret (pe_cl CP hr (pa_cons (pv 0) pa_nil))))), ?_⟩
  have h20 : H q = some (.tup (ys.map V.int)) := h2
  have sy := smB_ok (a := 400000) by' (by decide)
  have sl := sy _ (last_mem l1)
  refine ⟨_, rfl, _, rfl, q, _, _, _, rfl, rfl, SqT.of h20, at_lastD l1, _, rfl, ?_⟩
  refine ⟨fun m σ H' => ∃ xs' p' z, σ = [some (.ref p'), some (.ref q), some (.int (if ys.getLastD 0 < 0 then -(ys.getLastD 0) else ys.getLastD 0)), z] ∧ Same H H' ∧ TI H' p' xs' ∧ okR ys m xs' = true ∧ primL (remS ys m xs') = remL ys n xs, ⟨n, xs, p, none, rfl, Same.refl _, h1, ok, rfl⟩, ?_⟩
  rintro m σ H1 ⟨xs', p', z, rfl, s1, h1', ok1, e1⟩
  have h10 : H1 p' = some (.tup (xs'.map V.int)) := h1'
  have h21 := s1 _ _ h20
  have lx' : (xs'.map V.int).length = xs'.length := List.length_map ..
  have ly' : (ys.map V.int).length = ys.length := List.length_map ..
  refine ⟨_, rfl, p', _, rfl, .inr (SqT.of h10), _, rfl, q, _, rfl, .inr (SqT.of h21), _, _, rfl, rfl, _, rfl, ?_⟩
  by_cases hlt : xs'.length < ys.length
  · rw [decide_eq_false (show ¬ ((((xs'.map V.int).length : Nat) : Int) ≥ (((ys.map V.int).length : Nat) : Int)) by rw [lx', ly']; omega)]
    have er : remS ys m xs' = xs' := by
      cases m with
      | zero => rfl
      | succ m => exact if_pos hlt
    have gb : gcdL xs' < 2 ^ 9000 := by
      cases m with
      | zero => exact of_decide_eq_true (Bool.and_eq_true_iff.mp ok1).2
      | succ m =>
        rcases Bool.or_eq_true_iff.mp ok1 with z | z
        · exact of_decide_eq_true (Bool.and_eq_true_iff.mp z).2
        · have z1 := (Bool.and_eq_true_iff.mp (Bool.and_eq_true_iff.mp (Bool.and_eq_true_iff.mp z).1).1).1
          exact absurd (of_decide_eq_true z1) (by omega)
    rw [er] at e1
    refine iteF ⟨_, rfl, (p', xs'), rfl, ⟨h1', by show xs'.length ≤ 1000; omega, gb⟩, ?_⟩
    rintro _ H9 s9 ⟨r, rfl, hr9⟩
    refine k _ _ (s1.trans s9) ⟨r, rfl, ?_⟩
    rw [← e1]
    exact hr9
  · rw [decide_eq_true (show ((((xs'.map V.int).length : Nat) : Int) ≥ (((ys.map V.int).length : Nat) : Int)) by rw [lx', ly']; omega)]
    cases m with
    | zero =>
      exact absurd (of_decide_eq_true (Bool.and_eq_true_iff.mp ok1).1) hlt
    | succ m =>
      have z : (decide (ys.length ≤ xs'.length) && smB 4000 xs' && decide (xs'.length ≤ 1000) && okR ys m (nxt ys xs')) = true := by
        rcases Bool.or_eq_true_iff.mp ok1 with z | z
        · exact absurd (of_decide_eq_true (Bool.and_eq_true_iff.mp z).1) hlt
        · exact z
      obtain ⟨z3, z4⟩ := Bool.and_eq_true_iff.mp z
      obtain ⟨z1, z3⟩ := Bool.and_eq_true_iff.mp z3
      obtain ⟨z0, z2⟩ := Bool.and_eq_true_iff.mp z1
      have sx := smB_ok (a := 400000) z2 (by decide)
      have lx : xs'.length ≤ 1000 := of_decide_eq_true z3
      have l1x : 1 ≤ xs'.length := by omega
      have er : remS ys (m + 1) xs' = remS ys m (nxt ys xs') := if_neg hlt
      rw [er] at e1
      have sw : Sm 400000 (if ys.getLastD 0 > 0 then xs'.getLastD 0 else -(xs'.getLastD 0)) := by
        have := sx _ (last_mem l1x)
        split
        · exact this
        · unfold Sm at *
          rw [Int.natAbs_neg]
          exact this
      have en : ((((xs'.map V.int).length : Nat) : Int) - (((ys.map V.int).length : Nat) : Int)) = ((xs'.length - ys.length : Nat) : Int) := by
        rw [lx', ly']
        omega
      refine iteT ⟨_, rfl, _, rfl, q, _, _, _, rfl, rfl, SqT.of h21, at_lastD l1, _, _, rfl, rfl, _, rfl, ?_⟩
      by_cases hp : ys.getLastD 0 > 0
      · rw [decide_eq_true hp]
        have ew : xs'.getLastD 0 = (if ys.getLastD 0 > 0 then xs'.getLastD 0 else -(xs'.getLastD 0)) := (if_pos hp).symm
        refine iteT ⟨_, rfl, _, rfl, p', _, _, _, rfl, rfl, SqT.of h10, at_lastD l1x, ?_⟩
        refine ⟨_, rfl, _, rfl, _, rfl, _, rfl, _, rfl, p', _, rfl, .inr (SqT.of h10), _, rfl, q, _, rfl, .inr (SqT.of h21), _, _, rfl, rfl, ?_⟩
        refine ⟨((if ys.getLastD 0 < 0 then -(ys.getLastD 0) else ys.getLastD 0), p', xs'.getLastD 0, q, xs'.length - ys.length, xs', ys), ?_, ⟨h1', TI.same s1 h2, nxt_sm sl, by rw [ew]; exact sw, sx, sy, lx, by show ys.length + (xs'.length - ys.length) ≤ 1000; omega⟩, ?_⟩
        · show [V.int _, V.ref p', V.int _, V.ref q, V.int ((((xs'.map V.int).length : Nat) : Int) - (((ys.map V.int).length : Nat) : Int))] = _
          rw [en]
        rintro _ H2 s2 ⟨r, rfl, hr2⟩
        refine ⟨m, Nat.lt_succ_self m, nxt ys xs', r, _, rfl, s1.trans s2, ?_, z4, e1⟩
        unfold nxt
        rw [← ew]
        exact hr2
      · rw [decide_eq_false hp]
        have ew : -(xs'.getLastD 0) = (if ys.getLastD 0 > 0 then xs'.getLastD 0 else -(xs'.getLastD 0)) := (if_neg hp).symm
        refine iteF ⟨_, rfl, _, rfl, p', _, _, _, rfl, rfl, SqT.of h10, at_lastD l1x, _, rfl, ?_⟩
        refine ⟨_, rfl, _, rfl, _, rfl, _, rfl, _, rfl, p', _, rfl, .inr (SqT.of h10), _, rfl, q, _, rfl, .inr (SqT.of h21), _, _, rfl, rfl, ?_⟩
        refine ⟨((if ys.getLastD 0 < 0 then -(ys.getLastD 0) else ys.getLastD 0), p', -(xs'.getLastD 0), q, xs'.length - ys.length, xs', ys), ?_, ⟨h1', TI.same s1 h2, nxt_sm sl, by rw [ew]; exact sw, sx, sy, lx, by show ys.length + (xs'.length - ys.length) ≤ 1000; omega⟩, ?_⟩
        · show [V.int _, V.ref p', V.int _, V.ref q, V.int ((((xs'.map V.int).length : Nat) : Int) - (((ys.map V.int).length : Nat) : Int))] = _
          rw [en]
        rintro _ H2 s2 ⟨r, rfl, hr2⟩
        refine ⟨m, Nat.lt_succ_self m, nxt ys xs', r, _, rfl, s1.trans s2, ?_, z4, e1⟩
        unfold nxt
        rw [← ew]
        exact hr2
end
end Xq

/-! Polynomials of any degree: sturm_chain. -/
namespace Xq
open PySem PySem.Spec PyProof.Rows L2
/-- rows of ints at places -/
inductive Rw (H : Hp) : List Addr → List (List Int) → Prop
  | nil : Rw H [] []
  | cons {p : Addr} {ps : List Addr} {xs : List Int} {cs : List (List Int)} : TI H p xs → Rw H ps cs → Rw H (p :: ps) (xs :: cs)
theorem Rw.same {H H' : Hp} (s : Same H H') {ps : List Addr} {cs : List (List Int)} (h : Rw H ps cs) : Rw H' ps cs := by
  induction h with
  | nil => exact .nil
  | cons h _ ih => exact .cons (TI.same s h) ih
theorem Rw.put {H : Hp} {c : Addr} {zs : List V} {o : HO} (hc : H c = some (.lst zs)) {ps : List Addr} {cs : List (List Int)} (h : Rw H ps cs) : Rw (upd H c o) ps cs := by
  induction h with
  | nil => exact .nil
  | @cons p _ xs _ h _ ih =>
    refine .cons ?_ ih
    have n : p ≠ c := fun e => by
      have h0 : H p = some (.tup (xs.map V.int)) := h
      rw [e, hc] at h0
      cases h0
    exact (upd_ne n).trans h
theorem Rw.len {H : Hp} {ps : List Addr} {cs : List (List Int)} (h : Rw H ps cs) : ps.length = cs.length := by
  induction h with
  | nil => rfl
  | cons _ _ ih => rw [List.length_cons, List.length_cons, ih]
def dT (xs : List Int) : PyData := .tuple (xs.map PyData.int)
theorem dp_ints {K : PySem.W.Frag} {H : Hp} : ∀ xs : List Int, DpAll K H (xs.map V.int) (xs.map PyData.int)
  | [] => .nil
  | x :: xs => .cons (.int x) (dp_ints xs)
/-- the chain, its last one first, after so many turns -/
def chS : Nat → List (List Int) → List (List Int)
  | n + 1, b :: a :: r => if b.isEmpty then b :: a :: r else chS n (((remL b 20 a).map fun x => -x) :: b :: a :: r)
  | _, c => c
def okC : Nat → List (List Int) → Bool
  | n + 1, b :: a :: r => SeqAt.shaped (dT b) && (PyData.eqv (dT b) (.tuple []) == b.isEmpty) && (b.isEmpty || (decide (b.length ≤ 1000) && smB 4000 b && okR b 20 a && decide ((remL b 20 a).length ≤ 1000) && decide (r.length ≤ 100) && okC n (((remL b 20 a).map fun x => -x) :: b :: a :: r)))
  | 0, b :: _ => SeqAt.shaped (dT b) && (PyData.eqv (dT b) (.tuple []) == b.isEmpty) && b.isEmpty
  | _, _ => false
/-- what sturm_chain tells -/
def sturmL (xs : List Int) : List (List Int) := (chS 10 [derL xs, xs]).tail.reverse
def okS (xs : List Int) : Bool := decide (2 ≤ xs.length) && decide (xs.length ≤ 1000) && okC 10 [derL xs, xs]
theorem atI_last2 {α : Type} (xs : List α) (u v : α) : atI (xs ++ [u] ++ [v]) (-2) = some u := by
  have hl : (xs ++ [u] ++ [v]).length = xs.length + 2 := by simp
  have e : ixN (xs ++ [u] ++ [v]).length (-2) = some xs.length := by
    unfold ixN
    rw [hl, if_neg (by decide), if_pos (by omega)]
    congr 1
    omega
  unfold atI
  rw [e]
  simp
theorem chS_two : ∀ (n : Nat) (b a : List Int) (r : List (List Int)), ∃ b' a' r', chS n (b :: a :: r) = b' :: a' :: r'
  | 0, b, a, r => ⟨b, a, r, rfl⟩
  | n + 1, b, a, r => by
    show ∃ b' a' r', (if b.isEmpty then b :: a :: r else chS n (((remL b 20 a).map fun x => -x) :: b :: a :: r)) = b' :: a' :: r'
    split
    · exact ⟨b, a, r, rfl⟩
    · exact chS_two n _ _ _
theorem rev2 (q p : Addr) (ps : List Addr) : ((q :: p :: ps).reverse.map V.ref) = (ps.reverse.map V.ref ++ [V.ref p]) ++ [V.ref q] := by simp
section
variable {P : Program} {w : World} {K : PySem.W.Frag} {mg : Str → Option Value} {base : Heap}
theorem g40 : FnScope ["terms", "chain"] ["terms"] (defScope (top 36)) := (⟨rfl, rfl, rfl, by decide +kernel, rfl, by decide +kernel, by decide +kernel⟩)
/-- a chain's list at c -/
def Chn (H : Hp) (c : Addr) (cs : List (List Int)) : Prop := ∃ ps, H c = some (.lst (ps.map V.ref)) ∧ Rw H ps cs
abbrev spSturmG : Sp := Prm (α := Addr × List Int) (fun a => [.ref a.1]) (fun a H => TI H a.1 a.2 ∧ okS a.2 = true) (fun a H v H' => ∃ c, v = .ref c ∧ Chn H' c (sturmL a.2))
theorem Rw.snoc {H : Hp} {p : Addr} {xs : List Int} {ps : List Addr} {cs : List (List Int)} (h : Rw H ps cs) (t : TI H p xs) : Rw H (ps ++ [p]) (cs ++ [xs]) := by
  induction h with
  | nil => exact .cons t .nil
  | cons h _ ih => exact .cons h ih
theorem Rw.rev {H : Hp} {ps : List Addr} {cs : List (List Int)} (h : Rw H ps cs) : Rw H ps.reverse cs.reverse := by
  induction h with
  | nil => exact .nil
  | cons h _ ih =>
    rw [List.reverse_cons, List.reverse_cons]
    exact ih.snoc h
theorem c_sturmG (D : Df K mg "sturm_chain" (top 36)) (B : Bl mg) (CD : Cal P w K mg base 1 "derivative" ["terms"] spDerG) (CR : Cal P w K mg base 3 "remainder" ["one", "other"] spRemG) (CN : Cal P w K mg base 1 "negative" ["terms"] spNegG) : Cal P w K mg base 4 "sturm_chain" ["terms"] spSturmG := by
  refine mkC D g40 (fun _ _ _ _ _ _ us hl => match us, hl with | [_], _ => rfl) (fun _ => rfl) (fun f cdv A outer s H a Q E hr h k => ?_)
  obtain ⟨p00, xs⟩ := a
  obtain ⟨h1, ok⟩ := h
  have h1 : TI H p00 xs := h1
  have ok : okS xs = true := ok
  obtain ⟨ok, okc⟩ := Bool.and_eq_true_iff.mp ok
  obtain ⟨l2, l1⟩ := Bool.and_eq_true_iff.mp ok
  have l2 : 2 ≤ xs.length := of_decide_eq_true l2
  have l1 : xs.length ≤ 1000 := of_decide_eq_true l1
  have hu : (A.deeper (envOfC "sturm_chain" (defScope (top 36)) s.heap.objs.size f cdv)).units + 64 < cLine := by have := hr.un; omega
  refine ⟨_, pss_cons ((ps_set (i := 1) (FnScope.nd g40) rfl (Or.inl rfl) (pe_lst (pa_cons (pv 0) (pa_cons (pe_cl CD hr (pa_cons (pv 0) pa_nil)) pa_nil)))))
    (pss_cons (ps_whI PassesOwn.never (pt_cmpR (op_neD hu) ((pe_ix ix_list (pv 1) (pe_un un_neg pe_int) (fun _ _ => rfl))) (pe_tup pa_nil) (nomark _))
      (pss_one (ps_expr (pe_bm PySem.F.plainAttrs_list PySem.F.slot_list_append PySem.F.type_list_append mt_append (pv 1) (pa_cons (pe_cl CN hr (pa_cons (pe_cl CR hr (pa_cons ((pe_ix ix_list (pv 1) (pe_un un_neg pe_int) (fun _ _ => rfl))) (pa_cons ((pe_ix ix_list (pv 1) (pe_un un_neg pe_int) (fun _ _ => rfl))) pa_nil))) pa_nil)) pa_nil)))))
    (pss_cons (ps_expr (pe_bm0 PySem.F.plainAttrs_list PySem.F.slot_list_pop PySem.F.type_list_pop mt_pop (pv 1)))
    (pss_one (ps_ret (pv 1))))), ?_⟩
  refine ⟨_, rfl, _, rfl, (p00, xs), rfl, ⟨h1, by show 1 ≤ xs.length; omega, l1⟩, ?_⟩
  rintro _ H1 s1 ⟨q, rfl, hq⟩
  refine ⟨(by show 2 ≤ sizeLine; decide), fun c hc => ?_⟩
  have s2 := Same.new (o := .lst [.ref p00, .ref q]) s1 hc
  have c0 : H c = none := new_of s1 hc
  have r2 : Rw (upd H1 c (.lst [.ref p00, .ref q])) [q, p00] [derL xs, xs] := .cons (TI.same (same_new hc) hq) (.cons (TI.same s2 h1) .nil)
  refine ⟨fun m σ H' => ∃ b a r q p ps, σ = [some (.ref p00), some (.ref c)] ∧ Same H H' ∧ H' c = some (.lst ((q :: p :: ps).reverse.map V.ref)) ∧ Rw H' (q :: p :: ps) (b :: a :: r) ∧ okC m (b :: a :: r) = true ∧ chS m (b :: a :: r) = chS 10 [derL xs, xs], ⟨10, derL xs, xs, [], q, p00, [], rfl, s2, upd_same, r2, okc, rfl⟩, ?_⟩
  rintro m σ H2 ⟨b, a, r, q, p', ps, rfl, s3, e3, r3, ok3, ch3⟩
  rw [rev2] at e3
  have hb : TI H2 q b := by cases r3; assumption
  have ha : TI H2 p' a := by
    cases r3 with
    | cons _ r4 => cases r4; assumption
  have hb0 : H2 q = some (.tup (b.map V.int)) := hb
  refine ⟨_, rfl, _, rfl, c, _, _, .ref q, rfl, rfl, SqL.of e3, atI_last _ _, by decide, fun z hz => ?_⟩
  have s4 := Same.new (o := .tup []) s3 hz
  have t4 := same_new (o := .tup []) hz
  have c4 := t4 _ _ e3
  have eqb : (PyData.eqv (dT b) (.tuple []) == b.isEmpty) = true ∧ SeqAt.shaped (dT b) = true := by
    cases m with
    | zero =>
      obtain ⟨x, _⟩ := Bool.and_eq_true_iff.mp ok3
      obtain ⟨y, x⟩ := Bool.and_eq_true_iff.mp x
      exact ⟨x, y⟩
    | succ m =>
      obtain ⟨x, _⟩ := Bool.and_eq_true_iff.mp ok3
      obtain ⟨y, x⟩ := Bool.and_eq_true_iff.mp x
      exact ⟨x, y⟩
  have eb : PyData.eqv (dT b) (.tuple []) = b.isEmpty := beq_iff_eq.mp eqb.1
  refine ⟨dT b, .tuple [], .tup (SqT.of (t4 _ _ hb0)) (dp_ints b), .tup (SqT.of upd_same) .nil, eqb.2, rfl, _, rfl, ?_⟩
  rw [eb]
  cases hbe : b.isEmpty with
  | true =>
    have er : chS m (b :: a :: r) = b :: a :: r := by
      cases m with
      | zero => rfl
      | succ m => exact if_pos hbe
    rw [er] at ch3
    refine ⟨_, rfl, .inl ⟨rfl, _, SqL.of c4⟩, c, _, .ref q, rfl, rfl, c4, ?_, ?_⟩
    · simp
    refine ⟨_, rfl, k _ _ (Same.put s4 c0) ⟨c, rfl, (p' :: ps).reverse, ?_, ?_⟩⟩
    · rw [upd_same, List.dropLast_concat]
      simp
    · have r5 : Rw (upd (upd H2 z (.tup [])) c (.lst ((ps.reverse.map V.ref ++ [V.ref p'] ++ [V.ref q]).dropLast))) (p' :: ps) (a :: r) := Rw.put c4 (Rw.same t4 (by cases r3; assumption))
      unfold sturmL
      rw [← ch3]
      exact r5.rev
  | false =>
    cases m with
    | zero =>
      have z := (Bool.and_eq_true_iff.mp ok3).2
      rw [hbe] at z
      cases z
    | succ m =>
      have z := (Bool.and_eq_true_iff.mp ok3).2
      rw [hbe, Bool.false_or] at z
      obtain ⟨z, z6⟩ := Bool.and_eq_true_iff.mp z
      obtain ⟨z, z5⟩ := Bool.and_eq_true_iff.mp z
      obtain ⟨z, z4⟩ := Bool.and_eq_true_iff.mp z
      obtain ⟨z, z3⟩ := Bool.and_eq_true_iff.mp z
      obtain ⟨z1, z2⟩ := Bool.and_eq_true_iff.mp z
      have lr : r.length ≤ 100 := of_decide_eq_true z5
      have er : chS (m + 1) (b :: a :: r) = chS m (((remL b 20 a).map fun x => -x) :: b :: a :: r) := by
        show (if b.isEmpty then b :: a :: r else chS m (((remL b 20 a).map fun x => -x) :: b :: a :: r)) = _
        rw [hbe]
        rfl
      have b1 : 1 ≤ b.length := by
        cases b with
        | nil => cases hbe
        | cons _ _ => simp
      refine iteT ⟨_, rfl, .inl ⟨rfl, _, SqL.of c4⟩, ?_⟩
      refine ⟨_, rfl, _, rfl, c, _, _, .ref p', rfl, rfl, SqL.of c4, atI_last2 _ _ _, ?_⟩
      refine ⟨_, rfl, _, rfl, c, _, _, .ref q, rfl, rfl, SqL.of c4, atI_last _ _, ?_⟩
      refine ⟨(p', q, a, b, 20), rfl, ⟨TI.same t4 ha, TI.same t4 hb, b1, of_decide_eq_true z1, z2, z3⟩, ?_⟩
      rintro _ H4 s5 ⟨r5, rfl, hr5⟩
      refine ⟨(r5, remL b 20 a), rfl, ⟨hr5, of_decide_eq_true z4⟩, ?_⟩
      rintro _ H5 s6 ⟨r6, rfl, hr6⟩
      have c6 := s6 _ _ (s5 _ _ c4)
      have lz := r3.len
      refine ⟨c, _, _, rfl, rfl, c6, ?_, ?_⟩
      · rw [← rev2, List.length_map, List.length_reverse, lz]
        exact sz_lt (by simp; omega)
      refine ⟨m, Nat.lt_succ_self m, ((remL b 20 a).map fun x => -x), b, a :: r, r6, q, p' :: ps, rfl, Same.put (s4.trans (s5.trans s6)) c0, ?_, ?_, z6, er.symm.trans ch3⟩
      · rw [upd_same]
        simp
      · exact Rw.put c6 (.cons hr6 (Rw.same (t4.trans (s5.trans s6)) r3))
end
end Xq

/-! Polynomials of any degree: changes. -/
namespace Xq
open PySem PySem.Spec PyProof.Rows L2
theorem lc_zipI {g : TG} {K : PySem.W.Frag} {a b : Addr} {xs ys : List V} {tt : TT} {te : TE} {vs : List Nat} {σ : L2.St} {H1 : Hp} {D : Addr} {Qd : Hp → Prop} (Pv : Nat → Hp → Prop) (h0 : Pv 0 (upd H1 D (.lst []))) (hq : ∀ i H, Pv i H → SqL K H a xs ∧ SqL K H b ys)
    (hs : ∀ i x y H, xs[i]? = some x → ys[i]? = some y → Pv i H → ∀ T, H T = none → g (.ref T) (wipe σ vs) (upd H T (.tup [x, y])) fun σ2 H2 => wipe σ2 vs = wipe σ vs ∧ tt σ2 H2 fun b H3 =>
      if b = true then te σ2 H3 fun y H4 => ∃ acc, H4 D = some (.lst acc) ∧ acc.length < sizeLine ∧ Pv (i + 1) (upd H4 D (.lst (acc ++ [y]))) else Pv (i + 1) H3) (hd : ∀ H, Pv (min xs.length ys.length) H → Qd H) :
    ∃ W : Nat → Nat → Hp → Prop, (∃ m, W 0 m (upd H1 D (.lst []))) ∧ ∀ i m H, W i m H →
      ((Itz K a b).stop i H ∧ Qd H) ∨ ((Itz K a b).go i H ∧ ∃ Nx : Hp → Prop, (∀ H', Nx H' → ∃ m', m' < m ∧ W (i + 1) m' H') ∧ ∀ x H', (Itz K a b).yld i H x H' → g x (wipe σ vs) H' fun σ2 H2 => wipe σ2 vs = wipe σ vs ∧ tt σ2 H2 fun b H3 =>
        if b = true then te σ2 H3 fun y H4 => ∃ acc, H4 D = some (.lst acc) ∧ acc.length < sizeLine ∧ Nx (upd H4 D (.lst (acc ++ [y]))) else Nx H3) := by
  refine ⟨fun i m H => m = min xs.length ys.length - i ∧ i ≤ min xs.length ys.length ∧ Pv i H, ⟨min xs.length ys.length, by simp, Nat.zero_le _, h0⟩, ?_⟩
  rintro i m H ⟨rfl, hi, p⟩
  obtain ⟨gx, gy⟩ := hq i H p
  by_cases hlt : i < min xs.length ys.length
  · have h1 : i < xs.length := by omega
    have h2 : i < ys.length := by omega
    refine .inr ⟨⟨xs, ys, xs[i], ys[i], gx, gy, List.getElem?_eq_getElem h1, List.getElem?_eq_getElem h2⟩, Pv (i + 1), fun H' p' => ⟨min xs.length ys.length - (i + 1), by omega, rfl, hlt, p'⟩, fun x H' y => ?_⟩
    obtain ⟨T, u, v, rfl, hT, rfl, y1, y2⟩ := y
    exact hs i u v H (y1 xs gx) (y2 ys gy) p T hT
  · have e : i = min xs.length ys.length := by omega
    subst e
    exact .inl ⟨⟨xs, ys, gx, gy, by omega⟩, hd H p⟩
theorem cut_1 (xs : List V) : cutV xs (some 1) none = xs.drop 1 := by
  unfold cutV
  have e1 : HT.sIx xs.length xs.length none = xs.length := rfl
  rw [e1, show (1 : Int) = ((1 : Nat) : Int) from rfl, HT.sIx_nat]
  by_cases h : 1 ≤ xs.length
  · rw [Nat.min_eq_left h, List.take_of_length_le (by rw [List.length_drop]; omega)]
  · rw [Nat.min_eq_right (by omega), List.drop_length, List.drop_eq_nil_of_le (by omega), List.take_nil]
/-- the signs of those that are not 0 -/
def sgn1 (v : Int) : List Bool := if v = 0 then [] else [decide (0 < v)]
def sgnL : List Int → List Bool
  | [] => []
  | v :: r => sgn1 v ++ sgnL r
theorem sgnL_app (a b : List Int) : sgnL (a ++ b) = sgnL a ++ sgnL b := by
  induction a with
  | nil => rfl
  | cons v r ih => show sgn1 v ++ sgnL (r ++ b) = _; rw [ih, ← List.append_assoc]; rfl
theorem sgnL_len (a : List Int) : (sgnL a).length ≤ a.length := by
  induction a with
  | nil => exact Nat.le_refl _
  | cons v r ih =>
    show (sgn1 v ++ sgnL r).length ≤ r.length + 1
    rw [List.length_append]
    have : (sgn1 v).length ≤ 1 := by unfold sgn1; split <;> simp
    omega
theorem sgnL_succ {vs : List Int} {i : Nat} {v : Int} (h : vs[i]? = some v) : sgnL (vs.take (i + 1)) = sgnL (vs.take i) ++ sgn1 v := by
  rw [List.take_succ, h, sgnL_app]
  show sgnL _ ++ (sgn1 v ++ []) = _
  rw [List.append_nil]
/-- the left ones of the unlike pairs -/
def dif1 (p : Bool × Bool) : List Bool := if p.1 = p.2 then [] else [p.1]
def difL : List (Bool × Bool) → List Bool
  | [] => []
  | p :: r => dif1 p ++ difL r
theorem difL_app (a b : List (Bool × Bool)) : difL (a ++ b) = difL a ++ difL b := by
  induction a with
  | nil => rfl
  | cons v r ih => show dif1 v ++ difL (r ++ b) = _; rw [ih, ← List.append_assoc]; rfl
theorem difL_len (a : List (Bool × Bool)) : (difL a).length ≤ a.length := by
  induction a with
  | nil => exact Nat.le_refl _
  | cons v r ih =>
    show (dif1 v ++ difL r).length ≤ r.length + 1
    rw [List.length_append]
    have : (dif1 v).length ≤ 1 := by unfold dif1; split <;> simp
    omega
theorem difL_succ {vs : List (Bool × Bool)} {i : Nat} {v : Bool × Bool} (h : vs[i]? = some v) : difL (vs.take (i + 1)) = difL (vs.take i) ++ dif1 v := by
  rw [List.take_succ, h, difL_app]
  show difL _ ++ (dif1 v ++ []) = _
  rw [List.append_nil]
/-- what changes tells -/
def chgL (cs : List (List Int)) (t b : Int) : Int := ((difL ((sgnL (cs.map fun xs => valL xs t b)).zip ((sgnL (cs.map fun xs => valL xs t b)).drop 1))).length : Nat)
theorem at_bl {xs : List Bool} {i : Nat} {x : V} (h : (xs.map V.bl)[i]? = some x) : ∃ z, xs[i]? = some z ∧ x = .bl z := by
  rw [List.getElem?_map] at h
  cases e : xs[i]? with
  | none => rw [e] at h; cases h
  | some z => rw [e] at h; exact ⟨z, rfl, (Option.some.inj h).symm⟩
theorem Rw.at {H : Hp} {ps : List Addr} {cs : List (List Int)} (h : Rw H ps cs) : ∀ {i : Nat} {p : Addr}, ps[i]? = some p → ∃ xs, cs[i]? = some xs ∧ TI H p xs := by
  induction h with
  | nil => intro i p e; simp at e
  | @cons q ps xs cs h _ ih =>
    intro i p e
    cases i with
    | zero =>
      rw [List.getElem?_cons_zero] at e
      cases e
      exact ⟨xs, List.getElem?_cons_zero, h⟩
    | succ i =>
      rw [List.getElem?_cons_succ] at e
      obtain ⟨ys, e2, t⟩ := ih e
      exact ⟨ys, by rw [List.getElem?_cons_succ]; exact e2, t⟩
theorem Chn.same {H H' : Hp} {c : Addr} {cs : List (List Int)} (s : Same H H') (h : Chn H c cs) : Chn H' c cs := by
  obtain ⟨ps, e, r⟩ := h
  exact ⟨ps, s _ _ e, r.same s⟩
/-- what is reckoned on the way is not too great -/
def okCh (cs : List (List Int)) (t b : Int) : Prop := cs.length ≤ 100 ∧ ∀ xs ∈ cs, 1 ≤ xs.length ∧ xs.length ≤ 1000 ∧ okV 400000 xs t b
section
variable {P : Program} {w : World} {K : PySem.W.Frag} {mg : Str → Option Value} {base : Heap}
abbrev nCh : List Str := ["chain", "top", "bottom", "values", "signs", "terms", "value", "left", "right"]
theorem g41 : FnScope nCh ["chain", "top", "bottom"] (defScope (top 37)) := (⟨rfl, rfl, rfl, by decide +kernel, rfl, by decide +kernel, by decide +kernel⟩)
abbrev spChgG : Sp := Prm (α := Addr × List (List Int) × Int × Int) (fun a => [.ref a.1, .int a.2.2.1, .int a.2.2.2]) (fun a H => Chn H a.1 a.2.1 ∧ okCh a.2.1 a.2.2.1 a.2.2.2) (fun a H v H' => v = .int (chgL a.2.1 a.2.2.1 a.2.2.2))
theorem c_chgG (D : Df K mg "changes" (top 37)) (B : Bl mg) (C : Cal P w K mg base 1 "value_at" ["terms", "top", "bottom"] spValG) : Cal P w K mg base 2 "changes" ["chain", "top", "bottom"] spChgG := by
  refine mkC D g41 (fun _ _ _ _ _ _ us hl => match us, hl with | [_, _, _], _ => rfl) (fun _ => rfl) (fun f cdv A outer s H a Q E hr h k => ?_)
  obtain ⟨c, cs, t, b⟩ := a
  obtain ⟨⟨ps, hc, rw⟩, lc, ho⟩ := h
  have lc : cs.length ≤ 100 := lc
  have hc : H c = some (.lst (ps.map V.ref)) := hc
  have k : ∀ v H', Same H H' → v = .int (chgL cs t b) → Q v H' := k
  have lp := rw.len
  refine ⟨_, pss_cons (ps_setLc (i := 3) (own := [("terms", 5)]) (g := gName 5) (tt := tYes) (te := tCall spValG [] E0 (tCons (tVar 5) (tCons (tVar 1) (tCons (tVar 2) tNil)))) rfl g41.nd rfl rfl (sw_true rfl rfl rfl (by decide +kernel)) (pi_list (pv 0))
      (blkOk_by (N := nCh) (sc := defScope (top 37)) (by decide +kernel)) (fun _ _ _ _ _ => (pg_name (i := 5) (FnScope.nd g41) rfl (Or.inl rfl))) (fun _ _ _ _ _ => pts_nil)
      (fun _ _ _ _ _ => pe_cl C hr (pa_cons (pv 5) (pa_cons (pv 1) (pa_cons (pv 2) pa_nil)))))
    (pss_cons (ps_setLc (i := 4) (own := [("value", 6)]) (g := gName 6) (tt := tTest (tOp rNe (tVar 6) (tC (.int 0)))) (te := tOp (rI0 fun i j => .bl (decide (j < i))) (tVar 6) (tC (.int 0))) rfl g41.nd rfl rfl (sw_true rfl rfl rfl (by decide +kernel)) (pi_list (pv 3))
      (blkOk_by (N := nCh) (sc := defScope (top 37)) (by decide +kernel)) (fun _ _ _ _ _ => (pg_name (i := 6) (FnScope.nd g41) rfl (Or.inl rfl))) (fun _ _ _ _ _ => pts_one ((pt_cmpR op_ne (pv 6) pe_int (nomark _))))
      (fun _ _ _ _ _ => pe_cmpR op_gt (pv 6) pe_int (nomark _)))
    (pss_one (ps_ret ((pe_callB call_len_seq (by rfl) (Bl.len_ B) PySem.boot_len (pa_cons (pe_lc (own := [("left", 7), ("right", 8)]) (g := gTup K 2 (gCons (gName 7) (gCons (gName 8) gNil))) (tt := tTest (tOp rNe (tVar 7) (tVar 8))) (te := tVar 7) rfl g41.nd (pi_zip (by rfl) B.zip_ (pa_cons (pv 4) (pa_cons (pe_slice sl_list (pv 4) (po_some pe_int) po_none) pa_nil)))
      (blkOk_by (N := nCh) (sc := defScope (top 37)) (by decide +kernel)) (fun _ _ _ _ _ => pg_tup rfl (pgs_cons ((pg_name (i := 7) (FnScope.nd g41) rfl (Or.inl rfl))) (pgs_cons ((pg_name (i := 8) (FnScope.nd g41) rfl (Or.inl rfl))) pgs_nil))) (fun _ _ _ _ _ => pts_one ((pt_cmpR op_ne (pv 7) (pv 8) (nomark _))))
      (fun _ _ _ _ _ => pv 7)) pa_nil)))))), ?_⟩
  -- the values
  refine ⟨_, rfl, c, rfl, ⟨_, SqL.of hc⟩, fun D hD => lc_list (xs := ps.map V.ref) (fun i H' => Same H H' ∧ H' D = some (.lst (((cs.take i).map fun xs => valL xs t b).map V.int))) ⟨same_new hD, upd_same⟩ (fun i H' _ e => SqL.of (e.1 _ _ hc)) (fun i x H' hx e => ?_) (fun H' e => ?_)⟩
  · obtain ⟨s1, e1⟩ := e
    rw [List.getElem?_map] at hx
    obtain ⟨p, hp, rfl⟩ : ∃ p, ps[i]? = some p ∧ x = .ref p := by
      cases e : ps[i]? with
      | none => rw [e] at hx; cases hx
      | some z => rw [e] at hx; exact ⟨z, rfl, (Option.some.inj hx).symm⟩
    obtain ⟨xs, hxs, tx⟩ := rw.at hp
    obtain ⟨o1, o2, o3⟩ := ho xs (List.mem_of_getElem? hxs)
    refine ⟨rfl, ?_⟩
    simp only [tYes, if_true]
    refine ⟨_, rfl, _, rfl, _, rfl, (p, xs, t, b), rfl, ⟨TI.same s1 tx, o1, o2, o3⟩, ?_⟩
    rintro _ H2 s2 rfl
    refine ⟨_, s2 _ _ e1, ?_, Same.put (s1.trans s2) hD, ?_⟩
    · rw [List.length_map, List.length_map, List.length_take]
      exact sz_lt (by omega)
    · rw [upd_same, List.take_succ, hxs]
      simp
  obtain ⟨s1, e1⟩ := e
  rw [List.length_map, lp, List.take_length] at e1
  -- the signs
  refine ⟨_, rfl, D, rfl, ⟨_, SqL.of e1⟩, fun G hG => lc_list (xs := (cs.map fun xs => valL xs t b).map V.int) (fun i H2 => Same H H2 ∧ Same H' H2 ∧ H2 G = some (.lst ((sgnL ((cs.map fun xs => valL xs t b).take i)).map V.bl))) ⟨Same.new s1 hG, same_new hG, upd_same⟩ (fun i H2 _ e => SqL.of (e.2.1 _ _ e1)) (fun i x H2 hx e => ?_) (fun H2 e => ?_)⟩
  · obtain ⟨s2, t2, e2⟩ := e
    obtain ⟨v, hv, rfl⟩ := at_map hx
    have g0 : H G = none := new_of s1 hG
    have lv := lt_of_at hv
    rw [List.length_map] at lv
    refine ⟨rfl, ?_⟩
    refine ⟨_, rfl, rfl, _, rfl, ?_⟩
    by_cases h0 : v = 0
    · rw [decide_eq_true (show V.int v = V.int 0 by rw [h0])]
      refine iteF ⟨s2, t2, ?_⟩
      rw [e2, sgnL_succ hv]
      unfold sgn1
      rw [if_pos h0, List.append_nil]
    · rw [decide_eq_false (show ¬ V.int v = V.int 0 from fun z => h0 (by injection z))]
      refine iteT ⟨_, rfl, _, _, rfl, rfl, _, e2, ?_, Same.put s2 g0, Same.put t2 hG, ?_⟩
      · rw [List.length_map]
        refine sz_lt (Nat.le_trans (sgnL_len _) ?_)
        rw [List.length_take, List.length_map]
        omega
      · rw [upd_same, sgnL_succ hv]
        unfold sgn1
        rw [if_neg h0, List.map_append]
        rfl
  obtain ⟨s2, t2, e2⟩ := e
  rw [List.length_map, List.take_length] at e2
  -- the unlike ones
  refine ⟨_, rfl, _, rfl, _, rfl, G, _, rfl, SqL.of e2, fun R hR => ?_⟩
  have s3 := Same.new (o := .lst (cutV ((sgnL (cs.map fun xs => valL xs t b)).map V.bl) (some 1) none)) s2 hR
  have e3 := same_new (o := .lst (cutV ((sgnL (cs.map fun xs => valL xs t b)).map V.bl) (some 1) none)) hR _ _ e2
  have r3 := upd_same (H := H2) (a := R) (o := .lst (cutV ((sgnL (cs.map fun xs => valL xs t b)).map V.bl) (some 1) none))
  generalize upd H2 R (.lst (cutV ((sgnL (cs.map fun xs => valL xs t b)).map V.bl) (some 1) none)) = H3 at *
  rw [cut_1, ← List.map_drop] at r3
  have ls : (sgnL (cs.map fun xs => valL xs t b)).length ≤ 100 := by
    refine Nat.le_trans (sgnL_len _) ?_
    rw [List.length_map]
    exact lc
  refine ⟨G, R, _, _, rfl, SqL.of e3, SqL.of r3, fun M hM => lc_zipI (xs := (sgnL (cs.map fun xs => valL xs t b)).map V.bl) (ys := ((sgnL (cs.map fun xs => valL xs t b)).drop 1).map V.bl) (fun i H4 => Same H H4 ∧ Same H3 H4 ∧ H4 M = some (.lst ((difL (((sgnL (cs.map fun xs => valL xs t b)).zip ((sgnL (cs.map fun xs => valL xs t b)).drop 1)).take i)).map V.bl)))
    ⟨Same.new s3 hM, same_new hM, upd_same⟩ (fun i H4 e => ⟨SqL.of (e.2.1 _ _ e3), SqL.of (e.2.1 _ _ r3)⟩) (fun i x y H4 hx hy e T hT => ?_) (fun H4 e => ?_)⟩
  · obtain ⟨s4, t4, e4⟩ := e
    obtain ⟨u, hu, rfl⟩ := at_bl hx
    obtain ⟨v, hv, rfl⟩ := at_bl hy
    have m0 : H M = none := new_of s3 hM
    have nT : M ≠ T := ne_of_none e4 hT
    have e5 : upd H4 T (.tup [.bl u, .bl v]) M = _ := (upd_ne nT).trans e4
    have s5 := Same.new (o := .tup [.bl u, .bl v]) s4 hT
    have t5 := Same.new (o := .tup [.bl u, .bl v]) t4 hT
    have hz : ((sgnL (cs.map fun xs => valL xs t b)).zip ((sgnL (cs.map fun xs => valL xs t b)).drop 1))[i]? = some (u, v) := by
      rw [List.getElem?_zip_eq_some]
      exact ⟨hu, hv⟩
    refine ⟨T, _, rfl, SqT.of upd_same, rfl, _, _, rfl, _, _, rfl, rfl, rfl, ?_⟩
    refine ⟨_, rfl, _, rfl, rfl, _, rfl, ?_⟩
    by_cases huv : u = v
    · subst huv
      rw [decide_eq_true rfl]
      refine iteF ⟨s5, t5, ?_⟩
      rw [e5, difL_succ hz]
      unfold dif1
      rw [if_pos rfl, List.append_nil]
    · rw [decide_eq_false (show ¬ V.bl u = V.bl v from fun z => huv (by injection z))]
      refine iteT ⟨_, rfl, _, e5, ?_, Same.put s5 m0, Same.put t5 hM, ?_⟩
      · rw [List.length_map]
        refine sz_lt (Nat.le_trans (difL_len _) ?_)
        rw [List.length_take, List.length_zip]
        omega
      · rw [upd_same, difL_succ hz]
        unfold dif1
        rw [if_neg huv, List.map_append]
        rfl
  obtain ⟨s4, t4, e4⟩ := e
  have lz : min ((sgnL (cs.map fun xs => valL xs t b)).map V.bl).length (((sgnL (cs.map fun xs => valL xs t b)).drop 1).map V.bl).length = ((sgnL (cs.map fun xs => valL xs t b)).zip ((sgnL (cs.map fun xs => valL xs t b)).drop 1)).length := by
    rw [List.length_map, List.length_map, List.length_zip]
  rw [lz, List.take_length] at e4
  refine ⟨M, _, rfl, .inl (SqL.of e4), k _ _ s4 ?_⟩
  rw [List.length_map]
  rfl
end
end Xq

/-! Polynomials of any degree: reach, roots_up_to, roots_in_all. -/
namespace Xq
open PySem PySem.Spec PyProof.Rows L2
def absI (x : Int) : Int := if x < 0 then -x else x
def mxL : List Int → Int
  | [] => 0
  | x :: r => if mxL r < x then x else mxL r
theorem mxL_le : ∀ {l : List Int} {x : Int}, x ∈ l → x ≤ mxL l
  | y :: r, x, h => by
    show x ≤ (if mxL r < y then y else mxL r)
    rcases List.mem_cons.mp h with rfl | h
    · split <;> omega
    · have := mxL_le h
      split <;> omega
theorem mxL_mem : ∀ {l : List Int}, l ≠ [] → (∀ x ∈ l, 0 ≤ x) → mxL l ∈ l
  | [], h, _ => absurd rfl h
  | [y], _, p => by
    have := p y (List.mem_singleton.mpr rfl)
    show (if (0 : Int) < y then y else 0) ∈ [y]
    split
    · exact List.mem_singleton.mpr rfl
    · exact List.mem_singleton.mpr (by omega)
  | y :: z :: r, _, p => by
    have ih := mxL_mem (l := z :: r) (by simp) fun x hx => p x (List.mem_cons_of_mem _ hx)
    show (if mxL (z :: r) < y then y else mxL (z :: r)) ∈ y :: z :: r
    split
    · exact List.mem_cons_self ..
    · exact List.mem_cons_of_mem _ ih
/-- what reach tells -/
def reachL (xs : List Int) : Int := 1 + mxL (xs.map absI)
/-- what roots_up_to, roots_in_all tell -/
def upL (cs : List (List Int)) (t b : Int) : Int := chgL cs (-(reachL (cs.headD []))) 1 - chgL cs t b
def allL (cs : List (List Int)) : Int := upL cs (reachL (cs.headD [])) 1
theorem Chn.head {H : Hp} {c : Addr} {cs : List (List Int)} (h : Chn H c cs) (n : cs ≠ []) : ∃ p ps, H c = some (.lst (V.ref p :: ps)) ∧ TI H p (cs.headD []) := by
  obtain ⟨ps, e, r⟩ := h
  cases r with
  | nil => exact absurd rfl n
  | @cons p ps xs cs t r => exact ⟨p, ps.map V.ref, e, t⟩
section
variable {P : Program} {w : World} {K : PySem.W.Frag} {mg : Str → Option Value} {base : Heap}
theorem g42 : FnScope ["terms", "term"] ["terms"] (defScope (top 38)) := (⟨rfl, rfl, rfl, by decide +kernel, rfl, by decide +kernel, by decide +kernel⟩)
abbrev spReachG : Sp := Prm (α := Addr × List Int) (fun a => [.ref a.1]) (fun a H => TI H a.1 a.2 ∧ 1 ≤ a.2.length ∧ a.2.length ≤ 1000) (fun a H v H' => v = .int (reachL a.2))
theorem c_reachG (D : Df K mg "reach" (top 38)) (B : Bl mg) : Cal P w K mg base 1 "reach" ["terms"] spReachG := by
  refine mkC D g42 (fun _ _ _ _ _ _ us hl => match us, hl with | [_], _ => rfl) (fun _ => rfl) (fun f cdv A outer s H a Q E hr h k => ?_)
  obtain ⟨p, xs⟩ := a
  obtain ⟨h1, l1, l2⟩ := h
  have l1 : 1 ≤ xs.length := l1
  have l2 : xs.length ≤ 1000 := l2
  have k : ∀ v H', Same H H' → v = .int (reachL xs) → Q v H' := k
  have h10 : H p = some (.tup (xs.map V.int)) := h1
  refine ⟨_, pss_one (ps_ret (pe_op op_add pe_int (pe_callB (cr_max rfl) (by rfl) B.max_ PyProof.Rows.boot_max (pa_cons
    (pe_lc (own := [("term", 1)]) (g := gName 1) (tt := tYes) (te := tCB (fun xs H Q => ∃ i, xs = [.int i] ∧ Q (.int (if i < 0 then -i else i)) H) (tCons (tVar 1) tNil)) rfl g42.nd (pi_tup (pv 0))
      (blkOk_by (N := ["terms", "term"]) (sc := defScope (top 38)) (by decide +kernel)) (fun _ _ _ _ _ => (pg_name (i := 1) (FnScope.nd g42) rfl (Or.inl rfl))) (fun _ _ _ _ _ => pts_nil)
      (fun _ _ _ _ _ => pe_callB call_abs (by rfl) B.abs_ PyProof.Rows.boot_abs (pa_cons (pv 1) pa_nil))) pa_nil)))), ?_⟩
  refine ⟨_, rfl, p, rfl, ⟨_, SqT.of h10⟩, fun D hD => lc_tup (xs := xs.map V.int) (fun i H' => H' = upd H D (.lst (((xs.take i).map absI).map V.int))) rfl (fun i H' _ e => by rw [e]; exact SqT.of ((same_new hD) _ _ h10)) (fun i x H' hx e => ?_) (fun H' e => ?_)⟩
  · subst e
    obtain ⟨z, hz, rfl⟩ := at_map hx
    refine ⟨rfl, ?_⟩
    simp only [tYes, if_true]
    refine ⟨_, rfl, z, rfl, _, upd_same, ?_, ?_⟩
    · rw [List.length_map, List.length_map, List.length_take]
      exact sz_lt (by omega)
    · rw [upd_upd, take_map hz]
      rfl
  · subst e
    rw [List.length_map, List.take_length]
    refine ⟨D, xs.map absI, rfl, SqL.of upd_same, (by rw [List.length_map]; omega), fun m hm hle => ?_⟩
    refine ⟨_, _, rfl, rfl, k _ _ (same_new hD) ?_⟩
    have nn : ∀ x ∈ xs.map absI, 0 ≤ x := by
      intro x hx
      obtain ⟨y, _, rfl⟩ := List.mem_map.mp hx
      unfold absI
      split <;> omega
    have ne : xs.map absI ≠ [] := by
      intro z
      rw [List.map_eq_nil_iff.mp z] at l1
      exact absurd l1 (by decide)
    have e1 := hle _ (mxL_mem ne nn)
    have e2 := mxL_le hm
    show V.int (1 + m) = V.int (1 + mxL (xs.map absI))
    rw [show m = mxL (xs.map absI) by omega]
theorem g43 : FnScope ["chain", "top", "bottom"] ["chain", "top", "bottom"] (defScope (top 39)) := (⟨rfl, rfl, rfl, by decide +kernel, rfl, by decide +kernel, by decide +kernel⟩)
/-- what is asked of a chain ahead of its roots -/
def okU (cs : List (List Int)) : Prop := cs ≠ [] ∧ 1 ≤ (cs.headD []).length ∧ (cs.headD []).length ≤ 1000 ∧ okCh cs (-(reachL (cs.headD []))) 1
abbrev spUpG : Sp := Prm (α := Addr × List (List Int) × Int × Int) (fun a => [.ref a.1, .int a.2.2.1, .int a.2.2.2]) (fun a H => Chn H a.1 a.2.1 ∧ okU a.2.1 ∧ okCh a.2.1 a.2.2.1 a.2.2.2) (fun a H v H' => v = .int (upL a.2.1 a.2.2.1 a.2.2.2))
theorem c_upG (D : Df K mg "roots_up_to" (top 39)) (C : Cal P w K mg base 2 "changes" ["chain", "top", "bottom"] spChgG) (CR : Cal P w K mg base 1 "reach" ["terms"] spReachG) : Cal P w K mg base 3 "roots_up_to" ["chain", "top", "bottom"] spUpG := by
  refine mkC D g43 (fun _ _ _ _ _ _ us hl => match us, hl with | [_, _, _], _ => rfl) (fun _ => rfl) (fun f cdv A outer s H a Q E hr h k => ?_)
  obtain ⟨c, cs, t, b⟩ := a
  obtain ⟨hc, ⟨n, l1, l2, o1⟩, o2⟩ := h
  have hc : Chn H c cs := hc
  obtain ⟨p, ps, e, t0⟩ := hc.head n
  refine ⟨_, pss_one (ps_ret (pe_op op_sub (pe_cl C hr (pa_cons (pv 0) (pa_cons (pe_un un_neg (pe_cl CR hr (pa_cons ((pe_ix ix_list (pv 0) pe_int (fun _ _ => rfl))) pa_nil))) (pa_cons pe_int pa_nil)))) (pe_cl C hr (pa_cons (pv 0) (pa_cons (pv 1) (pa_cons (pv 2) pa_nil)))))), ?_⟩
  refine ⟨_, rfl, _, rfl, c, _, _, .ref p, rfl, rfl, SqL.of e, atI_nat (j := 0) rfl, ?_⟩
  refine ⟨(p, cs.headD []), rfl, ⟨t0, l1, l2⟩, ?_⟩
  rintro _ H1 s1 rfl
  refine ⟨_, rfl, (c, cs, -(reachL (cs.headD [])), 1), rfl, ⟨hc.same s1, o1⟩, ?_⟩
  rintro _ H2 s2 rfl
  refine ⟨_, rfl, _, rfl, _, rfl, (c, cs, t, b), rfl, ⟨hc.same (s1.trans s2), o2⟩, ?_⟩
  rintro _ H3 s3 rfl
  exact ⟨_, _, rfl, rfl, k _ _ (s1.trans (s2.trans s3)) rfl⟩
theorem g44 : FnScope ["chain"] ["chain"] (defScope (top 40)) := (⟨rfl, rfl, rfl, by decide +kernel, rfl, by decide +kernel, by decide +kernel⟩)
abbrev spAllG : Sp := Prm (α := Addr × List (List Int)) (fun a => [.ref a.1]) (fun a H => Chn H a.1 a.2 ∧ okU a.2 ∧ okCh a.2 (reachL (a.2.headD [])) 1) (fun a H v H' => v = .int (allL a.2))
theorem c_allG (D : Df K mg "roots_in_all" (top 40)) (C : Cal P w K mg base 3 "roots_up_to" ["chain", "top", "bottom"] spUpG) (CR : Cal P w K mg base 1 "reach" ["terms"] spReachG) : Cal P w K mg base 4 "roots_in_all" ["chain"] spAllG := by
  refine mkC D g44 (fun _ _ _ _ _ _ us hl => match us, hl with | [_], _ => rfl) (fun _ => rfl) (fun f cdv A outer s H a Q E hr h k => ?_)
  obtain ⟨c, cs⟩ := a
  obtain ⟨hc, o, o2⟩ := h
  have hc : Chn H c cs := hc
  have o : okU cs := o
  obtain ⟨p, ps, e, t0⟩ := hc.head o.1
  refine ⟨_, pss_one (ps_ret (pe_cl C hr (pa_cons (pv 0) (pa_cons (pe_cl CR hr (pa_cons ((pe_ix ix_list (pv 0) pe_int (fun _ _ => rfl))) pa_nil)) (pa_cons pe_int pa_nil))))), ?_⟩
  refine ⟨_, rfl, _, rfl, c, _, _, .ref p, rfl, rfl, SqL.of e, atI_nat (j := 0) rfl, ?_⟩
  refine ⟨(p, cs.headD []), rfl, ⟨t0, o.2.1, o.2.2.1⟩, ?_⟩
  rintro _ H1 s1 rfl
  refine ⟨(c, cs, reachL (cs.headD []), 1), rfl, ⟨hc.same s1, o, o2⟩, ?_⟩
  rintro _ H2 s2 rfl
  exact k _ _ (s1.trans s2) rfl
end
end Xq

/-! Polynomials of any degree: guessed, refined. -/
namespace Xq
open PySem PySem.Spec PyProof.Rows L2
theorem sm_neg {i : Int} {a : Nat} (ha : Sm a i) : Sm a (-i) := by
  unfold Sm
  rw [Int.natAbs_neg]
  exact ha
theorem sm_add {i j : Int} {a : Nat} (ha : Sm a i) (hb : Sm a j) : Sm (a + 1) (i + j) := by
  have h := Int.natAbs_add_le i j
  have e : 2 ^ (a + 1) = 2 ^ a + 2 ^ a := by rw [Nat.pow_succ]; omega
  unfold Sm at *
  omega
theorem sm_sub {i j : Int} {a : Nat} (ha : Sm a i) (hb : Sm a j) : Sm (a + 1) (i - j) := by
  rw [Int.sub_eq_add_neg]
  exact sm_add ha (sm_neg hb)
def smI (n : Nat) (x : Int) : Bool := decide (x.natAbs < 2 ^ n)
theorem smI_ok {n : Nat} {x : Int} (h : smI n x = true) {a : Nat} (ha : n ≤ a) : Sm a x := sm_le (of_decide_eq_true h) ha
theorem foV_sm {t b : Int} (ht : Sm 4000 t) (hb : Sm 4000 b) : ∀ (l : List Int), (∀ x ∈ l, Sm 4000 x) → ∀ (k : Nat) (a : Int × Int), Sm k a.1 → Sm k a.2 → Sm (k + 4001 * l.length) (l.foldl (stV t b) a).1 ∧ Sm (k + 4001 * l.length) (l.foldl (stV t b) a).2
  | [], _, k, a, h1, h2 => ⟨h1, h2⟩
  | x :: l, hx, k, a, h1, h2 => by
    have hx0 := hx x List.mem_cons_self
    have q := foV_sm ht hb l (fun y hy => hx y (List.mem_cons_of_mem _ hy)) (k + 4001) (stV t b a x) (sm_add (sm_mul h1 ht) (sm_le (sm_mul hx0 h2) (by omega))) (sm_le (sm_mul h2 hb) (by omega))
    have e : k + 4001 + 4001 * l.length = k + 4001 * (x :: l).length := by
      rw [List.length_cons]
      omega
    rw [e] at q
    exact q
/-- eight terms at most, and none of 4,000 bits: then nothing on the way is too great -/
def okVB (xs : List Int) (t b : Int) : Bool := decide (1 ≤ xs.length) && decide (xs.length ≤ 8) && smI 4000 t && smI 4000 b && smB 4000 xs
theorem okVB_ok {xs : List Int} {t b : Int} (h : okVB xs t b = true) : 1 ≤ xs.length ∧ xs.length ≤ 1000 ∧ okV 400000 xs t b := by
  unfold okVB at h
  simp only [Bool.and_eq_true] at h
  obtain ⟨⟨⟨⟨h1, h2⟩, h3⟩, h4⟩, h5⟩ := h
  have h2 : xs.length ≤ 8 := of_decide_eq_true h2
  refine ⟨of_decide_eq_true h1, by omega, smI_ok h3 (by decide), smI_ok h4 (by decide), smB_ok h5 (by decide), fun i hi => ?_⟩
  have q := foV_sm (smI_ok h3 (Nat.le_refl _)) (smI_ok h4 (Nat.le_refl _)) (xs.reverse.take i) (fun x hx => smB_ok h5 (Nat.le_refl _) x (List.mem_reverse.mp (List.mem_of_mem_take hx))) 1 (0, 1) (by decide) (by decide)
  have l8 : (xs.reverse.take i).length ≤ 8 := by
    rw [List.length_take, List.length_reverse]
    omega
  exact ⟨sm_le q.1 (by omega), sm_le q.2 (by omega)⟩
def pw (b : Nat) : Int := 1 * 2 ^ b
def ng (xs : List Int) (t b : Int) : Bool := decide (valL xs t b < 0)
/-- where it is looked for first -/
def plc (xs : List Int) (near : Int) (b s : Nat) : Int := near * 2 ^ s + (valL xs near (pw b) * 2 ^ s).fdiv (valL xs near (pw b) - valL xs (near + 1) (pw b))
def adj (xs : List Int) (near : Int) (b s : Nat) : Int :=
  if ng xs (plc xs near b s) (pw (b + s)) = ng xs near (pw b) then (if ng xs (plc xs near b s + 1) (pw (b + s)) = ng xs near (pw b) then plc xs near b s + 1 else plc xs near b s) else plc xs near b s - 1
/-- what guessed tells -/
def gueL (xs : List Int) (near : Int) (b s : Nat) : Option Int :=
  if ng xs (adj xs near b s) (pw (b + s)) = ng xs near (pw b) then (if ng xs (adj xs near b s + 1) (pw (b + s)) = ng xs near (pw b) then none else some (adj xs near b s)) else none
def okG (xs : List Int) (near : Int) (b s : Nat) : Bool :=
  smI 4000 near && decide (b + s < 4000) && okVB xs near (pw b) && okVB xs (near + 1) (pw b) && !decide (valL xs near (pw b) - valL xs (near + 1) (pw b) = 0) && smI 8000 (valL xs near (pw b)) && smI 8000 (valL xs near (pw b) - valL xs (near + 1) (pw b)) &&
    okVB xs (plc xs near b s) (pw (b + s)) && okVB xs (plc xs near b s + 1) (pw (b + s)) && okVB xs (adj xs near b s) (pw (b + s)) && okVB xs (adj xs near b s + 1) (pw (b + s))
section
variable {P : Program} {w : World} {K : PySem.W.Frag} {mg : Str → Option Value} {base : Heap}
abbrev nG : List Str := ["equation", "near", "bits", "step", "low", "high", "bottom", "place", "starts", "ends"]
theorem g50 : FnScope nG ["equation", "near", "bits", "step"] (defScope (top 46)) := (⟨rfl, rfl, rfl, by decide +kernel, rfl, by decide +kernel, by decide +kernel⟩)
def oV : Option Int → V
  | some z => .int z
  | none => .non
abbrev spGueG : Sp := Prm (α := Addr × List Int × Int × Nat × Nat) (fun ⟨p, xs, near, b, s⟩ => [.ref p, .int near, .int (b : Int), .int (s : Int)]) (fun ⟨p, xs, near, b, s⟩ H => TI H p xs ∧ okG xs near b s = true) (fun ⟨p, xs, near, b, s⟩ H v H' => v = oV (gueL xs near b s))
theorem c_gueG (D : Df K mg "guessed" (top 46)) (C : Cal P w K mg base 1 "value_at" ["terms", "top", "bottom"] spValG) : Cal P w K mg base 2 "guessed" ["equation", "near", "bits", "step"] spGueG := by
  refine mkC D g50 (fun _ _ _ _ _ _ us hl => match us, hl with | [_, _, _, _], _ => rfl) (fun _ => rfl) (fun f cdv A outer s H a Q E hr h k => ?_)
  obtain ⟨p, xs, near, b, st⟩ := a
  obtain ⟨h, hg⟩ := h
  have h : TI H p xs := h
  have k : ∀ v H', Same H H' → v = oV (gueL xs near b st) → Q v H' := k
  have hg : okG xs near b st = true := hg
  unfold okG at hg
  simp only [Bool.and_eq_true, decide_eq_true_eq, Bool.not_eq_true', decide_eq_false_iff_not] at hg
  obtain ⟨⟨⟨⟨⟨⟨⟨⟨⟨⟨g1, g2⟩, g3⟩, g4⟩, g5⟩, g6⟩, g7⟩, g8⟩, g9⟩, g10⟩, g11⟩ := hg
  -- a call
  have call : ∀ {H1 : Hp} {t bb : Int} {Qv : VK}, Same H H1 → okVB xs t bb = true → (∀ H2, Same H H2 → Qv (.int (valL xs t bb)) H2) → spValG [.ref p, .int t, .int bb] H1 Qv E0 := fun {H1 t bb Qv} s1 o kk => by
    refine ⟨(p, xs, t, bb), rfl, ⟨TI.same s1 h, okVB_ok o⟩, ?_⟩
    rintro _ H2 s2 rfl
    exact kk _ (s1.trans s2)
  refine ⟨_, pss_cons ((ps_set (i := 4) (FnScope.nd g50) rfl (Or.inl rfl) (pe_cl C hr (pa_cons (pv 0) (pa_cons (pv 1) (pa_cons (pe_op op_shlN pe_int (pv 2)) pa_nil))))))
    (pss_cons ((ps_set (i := 5) (FnScope.nd g50) rfl (Or.inl rfl) (pe_cl C hr (pa_cons (pv 0) (pa_cons (pe_op op_add (pv 1) pe_int) (pa_cons (pe_op op_shlN pe_int (pv 2)) pa_nil))))))
    (pss_cons ((ps_set (i := 6) (FnScope.nd g50) rfl (Or.inl rfl) (pe_op op_shlN pe_int (pe_op op_add (pv 2) (pv 3)))))
    (pss_cons ((ps_set (i := 7) (FnScope.nd g50) rfl (Or.inl rfl) (pe_op op_add (pe_op op_shlN (pv 1) (pv 3)) (pe_op op_fdivX (pe_op op_shlN (pv 4) (pv 3)) (pe_op op_sub (pv 4) (pv 5))))))
    (C8.pss_cut (ps_if ((pt_cmpR op_ne (pe_cmpR op_lt (pe_cl C hr (pa_cons (pv 0) (pa_cons (pv 7) (pa_cons (pv 6) pa_nil)))) pe_int (nomark _)) (pe_cmpR op_lt (pv 4) pe_int (nomark _)) (nomark _)))
        (pss_one (ps_aug (i := 7) g50.nd rfl (Or.inl rfl) pe_int ip_sub))
        (pss_one (ps_if ((pt_cmpR op_eq (pe_cmpR op_lt (pe_cl C hr (pa_cons (pv 0) (pa_cons (pe_op op_add (pv 7) pe_int) (pa_cons (pv 6) pa_nil)))) pe_int (nomark _)) (pe_cmpR op_lt (pv 4) pe_int (nomark _)) (nomark _)))
          (pss_one (ps_aug (i := 7) g50.nd rfl (Or.inl rfl) pe_int ip_add)) pss_nil)))
    (pss_cons ((ps_set (i := 8) (FnScope.nd g50) rfl (Or.inl rfl) (pe_cmpR op_eq (pe_cmpR op_lt (pe_cl C hr (pa_cons (pv 0) (pa_cons (pv 7) (pa_cons (pv 6) pa_nil)))) pe_int (nomark _)) (pe_cmpR op_lt (pv 4) pe_int (nomark _)) (nomark _))))
    (pss_cons ((ps_set (i := 9) (FnScope.nd g50) rfl (Or.inl rfl) (pe_cmpR op_ne (pe_cmpR op_lt (pe_cl C hr (pa_cons (pv 0) (pa_cons (pe_op op_add (pv 7) pe_int) (pa_cons (pv 6) pa_nil)))) pe_int (nomark _)) (pe_cmpR op_lt (pv 4) pe_int (nomark _)) (nomark _))))
    (pss_one (ps_ret (pe_ifExp (PW.pt (pw_and (pt_val (pv 8)) (pw_and1 (pt_val (pv 9))))) (pv 7) pe_non))))))))), ?_⟩
  have cs1 : CShl 1 (b : Int) := shl_ok (n := 2) (by decide) (by omega)
  refine ⟨_, rfl, _, rfl, _, rfl, 1, b, rfl, rfl, cs1, call (Same.refl _) g3 fun H1 s1 => ?_⟩
  refine ⟨_, rfl, _, rfl, _, _, rfl, rfl, _, rfl, 1, b, rfl, rfl, cs1, call s1 g4 fun H2 s2 => ?_⟩
  have cs2 : CShl 1 ((b + st : Nat) : Int) := shl_ok (n := 2) (by decide) (by omega)
  refine ⟨_, rfl, _, rfl, _, _, rfl, rfl, 1, b + st, rfl, rfl, cs2, ?_⟩
  have cs3 : CShl near (st : Int) := shl_ok (n := 4000) (of_decide_eq_true g1) (by omega)
  have cs4 : CShl (valL xs near (pw b)) (st : Int) := shl_ok (n := 8000) (of_decide_eq_true g6) (by omega)
  have dv : CDivX (valL xs near (pw b) * 2 ^ st) (valL xs near (pw b) - valL xs (near + 1) (pw b)) :=
    ⟨g5, Nat.lt_of_lt_of_le (log_lt (of_decide_eq_true g7) (by decide)) (by decide)⟩
  refine ⟨_, rfl, _, rfl, near, st, rfl, rfl, cs3, _, rfl, _, rfl, _, st, rfl, rfl, cs4, _, rfl, _, rfl, _, _, rfl, rfl, _, _, rfl, rfl, dv, _, _, rfl, rfl, ?_⟩
  have dT : ∀ x y : Bool, x = y → decide (V.bl x = V.bl y) = true := fun x y e => by rw [e]; exact decide_eq_true rfl
  have dF : ∀ x y : Bool, ¬ x = y → decide (V.bl x = V.bl y) = false := fun x y e => decide_eq_false fun q => e (V.bl.inj q)
  refine ⟨fun σ' H' => σ' = [some (.ref p), some (.int near), some (.int (b : Int)), some (.int (st : Int)), some (.int (valL xs near (pw b))), some (.int (valL xs (near + 1) (pw b))), some (.int (pw (b + st))), some (.int (adj xs near b st)), none, none] ∧ Same H H', ?_, ?_⟩
  · refine ⟨_, rfl, _, rfl, _, rfl, call s2 g8 fun H3 s3 => ⟨_, _, rfl, rfl, _, rfl, _, _, rfl, rfl, rfl, _, rfl, ?_⟩⟩
    show (if (!decide (V.bl (ng xs (plc xs near b st) (pw (b + st))) = V.bl (ng xs near (pw b)))) = true then _ else _)
    by_cases e : ng xs (plc xs near b st) (pw (b + st)) = ng xs near (pw b)
    · rw [dT _ _ e]
      refine iteF ⟨_, rfl, _, rfl, _, _, rfl, rfl, _, rfl, call s3 g9 fun H4 s4 => ⟨_, _, rfl, rfl, _, rfl, _, _, rfl, rfl, rfl, _, rfl, ?_⟩⟩
      show (if decide (V.bl (ng xs (plc xs near b st + 1) (pw (b + st))) = V.bl (ng xs near (pw b))) = true then _ else _)
      by_cases e2 : ng xs (plc xs near b st + 1) (pw (b + st)) = ng xs near (pw b)
      · rw [dT _ _ e2]
        have ez : plc xs near b st + 1 = adj xs near b st := by rw [adj, if_pos e, if_pos e2]
        refine iteT ⟨_, rfl, _, _, rfl, rfl, ?_, s4⟩
        rw [← ez]
        rfl
      · rw [dF _ _ e2]
        have ez : plc xs near b st = adj xs near b st := by rw [adj, if_pos e, if_neg e2]
        refine iteF ⟨?_, s4⟩
        rw [← ez]
        rfl
    · rw [dF _ _ e]
      have ez : plc xs near b st - 1 = adj xs near b st := by rw [adj, if_neg e]
      refine iteT ⟨_, rfl, _, _, rfl, rfl, ?_, s3⟩
      rw [← ez]
      rfl
  · rintro σ' H5 ⟨rfl, s5⟩
    refine ⟨_, rfl, _, rfl, _, rfl, call s5 g10 fun H6 s6 => ⟨_, _, rfl, rfl, _, rfl, _, _, rfl, rfl, rfl, ?_⟩⟩
    refine ⟨_, rfl, _, rfl, _, _, rfl, rfl, _, rfl, call s6 g11 fun H7 s7 => ⟨_, _, rfl, rfl, _, rfl, _, _, rfl, rfl, rfl, ?_⟩⟩
    refine ⟨_, rfl, _, rfl, ?_⟩
    show (if decide (V.bl (ng xs (adj xs near b st) (pw (b + st))) = V.bl (ng xs near (pw b))) = true then _ else _)
    by_cases e : ng xs (adj xs near b st) (pw (b + st)) = ng xs near (pw b)
    · rw [dT _ _ e]
      refine iteT ⟨_, rfl, _, rfl, ?_⟩
      show (if (!decide (V.bl (ng xs (adj xs near b st + 1) (pw (b + st))) = V.bl (ng xs near (pw b)))) = true then _ else _)
      by_cases e2 : ng xs (adj xs near b st + 1) (pw (b + st)) = ng xs near (pw b)
      · rw [dT _ _ e2]
        refine iteF (k _ _ s7 ?_)
        rw [gueL, if_pos e, if_pos e2]
        rfl
      · rw [dF _ _ e2]
        refine iteT ⟨_, rfl, k _ _ s7 ?_⟩
        rw [gueL, if_pos e, if_neg e2]
        rfl
    · rw [dF _ _ e]
      refine iteF (k _ _ s7 ?_)
      rw [gueL, if_neg e]
      rfl
/-- the state of refined after so many turns: near, bits, step -/
def refS (xs : List Int) (wd : Nat) : Nat → Int → Nat → Nat → Int × Nat
  | 0, near, b, _ => (near, b)
  | n + 1, near, b, st => if wd ≤ b then (near, b) else match gueL xs near b (min st (wd - b)) with
    | some z => refS xs wd n z (b + min st (wd - b)) (2 * min st (wd - b))
    | none => refS xs wd n near b (min st (wd - b) / 2)
def okF (xs : List Int) (wd : Nat) : Nat → Int → Nat → Nat → Bool
  | 0, _, b, _ => decide (wd ≤ b)
  | n + 1, near, b, st => decide (wd ≤ b) || (okG xs near b (min st (wd - b)) && match gueL xs near b (min st (wd - b)) with
    | some z => okF xs wd n z (b + min st (wd - b)) (2 * min st (wd - b))
    | none => okF xs wd n near b (min st (wd - b) / 2))
/-- what refined tells -/
def refL (xs : List Int) (near : Int) (b wd : Nat) : Int := if xs.length = 2 then (-(xs.getD 0 0) * 2 ^ wd).fdiv (xs.getD 1 0) else (refS xs wd 20000 near b 1).1 / 2 ^ ((refS xs wd 20000 near b 1).2 - wd)
def okRf (xs : List Int) (near : Int) (b wd : Nat) : Bool := decide (xs.length ≤ 1000) && decide (wd ≤ 4000) && if xs.length = 2 then smI 4000 (xs.getD 0 0) && smI 4000 (xs.getD 1 0) && !decide (xs.getD 1 0 = 0) else okF xs wd 20000 near b 1
theorem refS_ge (xs : List Int) (wd : Nat) : ∀ (n : Nat) (near : Int) (b st : Nat), okF xs wd n near b st = true → wd ≤ (refS xs wd n near b st).2
  | 0, near, b, st, h => of_decide_eq_true h
  | n + 1, near, b, st, h => by
    unfold refS
    unfold okF at h
    by_cases e : wd ≤ b
    · rw [if_pos e]
      exact e
    · rw [if_neg e]
      rw [decide_eq_false e, Bool.false_or] at h
      have h2 := (Bool.and_eq_true_iff.mp h).2
      cases hg : gueL xs near b (min st (wd - b)) with
      | none =>
        rw [hg] at h2
        exact refS_ge xs wd n _ _ _ h2
      | some z =>
        rw [hg] at h2
        exact refS_ge xs wd n _ _ _ h2
abbrev nR : List Str := ["equation", "near", "bits", "wanted", "step", "closer"]
theorem g49 : FnScope nR ["equation", "near", "bits", "wanted"] (defScope (top 45)) := (⟨rfl, rfl, rfl, by decide +kernel, rfl, by decide +kernel, by decide +kernel⟩)
abbrev spRefG : Sp := Prm (α := Addr × List Int × Int × Nat × Nat) (fun ⟨p, xs, near, b, wd⟩ => [.ref p, .int near, .int (b : Int), .int (wd : Int)]) (fun ⟨p, xs, near, b, wd⟩ H => TI H p xs ∧ okRf xs near b wd = true) (fun ⟨p, xs, near, b, wd⟩ H v H' => v = .int (refL xs near b wd))
theorem c_refG (D : Df K mg "refined" (top 45)) (B : Bl mg) (C : Cal P w K mg base 2 "guessed" ["equation", "near", "bits", "step"] spGueG) : Cal P w K mg base 3 "refined" ["equation", "near", "bits", "wanted"] spRefG := by
  refine mkC D g49 (fun _ _ _ _ _ _ us hl => match us, hl with | [_, _, _, _], _ => rfl) (fun _ => rfl) (fun f cdv A outer s H a Q E hr h k => ?_)
  obtain ⟨p, xs, near, b, wd⟩ := a
  obtain ⟨h, ok⟩ := h
  have h : TI H p xs := h
  have h0 : H p = some (.tup (xs.map V.int)) := h
  have k : ∀ v H', Same H H' → v = .int (refL xs near b wd) → Q v H' := k
  have ok : okRf xs near b wd = true := ok
  obtain ⟨ok0, ok2⟩ := Bool.and_eq_true_iff.mp ok
  obtain ⟨lx, lw⟩ := Bool.and_eq_true_iff.mp ok0
  have lw : wd ≤ 4000 := of_decide_eq_true lw
  have hL : (xs.map V.int).length = xs.length := List.length_map ..
  refine ⟨_, pss_cons (ps_if ((pt_cmpR op_eq ((pe_callB call_len_seq (by rfl) (Bl.len_ B) PySem.boot_len (pa_cons (pv 0) pa_nil))) pe_int (nomark _))) (pss_one (ps_ret (pe_op op_fdivX (pe_op op_shlN (pe_un un_neg ((pe_ix ix_tup (pv 0) pe_int (fun _ _ => rfl)))) (pv 3)) ((pe_ix ix_tup (pv 0) pe_int (fun _ _ => rfl)))))) pss_nil)
    (pss_cons ((ps_set (i := 4) (FnScope.nd g49) rfl (Or.inl rfl) pe_int))
    (pss_cons (ps_whI PassesOwn.never ((pt_cmpR op_lt (pv 2) (pv 3) (nomark _)))
      (pss_cons ((ps_set (i := 4) (FnScope.nd g49) rfl (Or.inl rfl) (pe_callB (call_min2 rfl) (by rfl) B.min_ PyProof.Rows.boot_min (pa_cons (pv 4) (pa_cons (pe_op op_sub (pv 3) (pv 2)) pa_nil)))))
      (pss_cons ((ps_set (i := 5) (FnScope.nd g49) rfl (Or.inl rfl) (pe_cl C hr (pa_cons (pv 0) (pa_cons (pv 1) (pa_cons (pv 2) (pa_cons (pv 4) pa_nil)))))))
      (pss_one (ps_if (pt_cmpR op_isN (pv 5) pe_non (nomark _)) (pss_one (ps_aug (i := 4) g49.nd rfl (Or.inl rfl) pe_int iop_fdiv))
        (pss_one (ps_par3 (i := 1) (j := 2) (l := 4) rfl g49.nd rfl rfl rfl (by decide) (by decide) (by decide) rfl rfl rfl (pa_cons (pv 5) (pa_cons (pe_op op_add (pv 2) (pv 4)) (pa_cons (pe_op op_mul pe_int (pv 4)) pa_nil))) rfl)))))))
    (pss_one (ps_ret (pe_op op_shrN (pv 1) (pe_op op_sub (pv 2) (pv 3))))))), ?_⟩
  refine ⟨_, rfl, p, _, rfl, .inr (SqT.of h0), rfl, _, rfl, ?_⟩
  by_cases e2 : xs.length = 2
  · rw [if_pos e2] at ok2
    simp only [Bool.and_eq_true, Bool.not_eq_true', decide_eq_false_iff_not] at ok2
    obtain ⟨⟨o1, o2⟩, o3⟩ := ok2
    rw [decide_eq_true (show V.int (((xs.map V.int).length : Nat) : Int) = V.int 2 by rw [hL, e2]; rfl)]
    refine iteT ⟨_, rfl, p, _, _, _, rfl, rfl, SqT.of h0, atI_nat (j := 0) (getD_map (by omega)), _, rfl, _, rfl, _, wd, rfl, rfl, shl_ok (n := 4000) (of_decide_eq_true (by unfold smI at o1; rw [Int.natAbs_neg]; exact o1)) (by omega), ?_⟩
    refine ⟨_, rfl, p, _, _, _, rfl, rfl, SqT.of h0, atI_nat (j := 1) (getD_map (by omega)), _, _, rfl, rfl, ⟨o3, Nat.lt_of_lt_of_le (log_lt (of_decide_eq_true o2) (by decide)) (by decide)⟩, k _ _ (Same.refl _) ?_⟩
    rw [refL, if_pos e2]
  · rw [if_neg e2] at ok2
    rw [decide_eq_false (show ¬ V.int (((xs.map V.int).length : Nat) : Int) = V.int 2 from fun z => e2 (by rw [hL] at z; injection z with z; omega))]
    refine iteF ?_
    have hR : refL xs near b wd = (refS xs wd 20000 near b 1).1 / 2 ^ ((refS xs wd 20000 near b 1).2 - wd) := by rw [refL, if_neg e2]
    refine ⟨fun m σ H' => Same H H' ∧ ∃ (nr : Int) (bb st : Nat) (z5 : Option V), σ = [some (.ref p), some (.int nr), some (.int (bb : Int)), some (.int (wd : Int)), some (.int (st : Int)), z5] ∧ okF xs wd m nr bb st = true ∧ refS xs wd m nr bb st = refS xs wd 20000 near b 1,
      ⟨20000, Same.refl _, near, b, 1, none, rfl, ok2, rfl⟩, ?_⟩
    rintro m σ H1 ⟨s1, nr, bb, st, z5, rfl, ok3, er⟩
    refine ⟨_, rfl, _, rfl, _, _, rfl, rfl, _, rfl, ite2 (fun hb => ?_) (fun hb => ?_)⟩
    · have hb2 : bb < wd := by
        have q : (bb : Int) < (wd : Int) := of_decide_eq_true hb
        omega
      cases m with
      | zero => exact absurd (of_decide_eq_true ok3) (by omega)
      | succ m =>
        unfold okF at ok3
        rw [decide_eq_false (show ¬ wd ≤ bb by omega), Bool.false_or] at ok3
        obtain ⟨og, on⟩ := Bool.and_eq_true_iff.mp ok3
        unfold refS at er
        rw [if_neg (show ¬ wd ≤ bb by omega)] at er
        have em : (if (wd : Int) - (bb : Int) < (st : Int) then (wd : Int) - (bb : Int) else (st : Int)) = ((min st (wd - bb) : Nat) : Int) := by
          split <;> omega
        refine ⟨_, rfl, _, rfl, _, rfl, _, _, rfl, rfl, _, _, rfl, ?_⟩
        show tSeq _ _ _ [some (.ref p), some (.int nr), some (.int (bb : Int)), some (.int (wd : Int)), some (.int (if (wd : Int) - (bb : Int) < (st : Int) then (wd : Int) - (bb : Int) else (st : Int))), z5] H1
        rw [em]
        refine ⟨_, rfl, _, rfl, _, rfl, _, rfl, (p, xs, nr, bb, min st (wd - bb)), rfl, ⟨TI.same s1 h, og⟩, ?_⟩
        rintro _ H2 s2 rfl
        have lm : min st (wd - bb) ≤ 4000 := by omega
        cases hg : gueL xs nr bb (min st (wd - bb)) with
        | none =>
          rw [hg] at on er
          refine ⟨_, rfl, rfl, _, rfl, iteT ⟨_, rfl, _, _, rfl, rfl, ⟨by decide, by decide⟩, m, Nat.lt_succ_self m, s1.trans s2, nr, bb, min st (wd - bb) / 2, some (oV none), ?_, on, er⟩⟩
          show [some (V.ref p), some (V.int nr), some (V.int (bb : Int)), some (V.int (wd : Int)), some (V.int (((min st (wd - bb) : Nat) : Int) / 2)), some (oV none)] = _
          rw [show ((min st (wd - bb) : Nat) : Int) / 2 = ((min st (wd - bb) / 2 : Nat) : Int) by omega]
        | some z =>
          rw [hg] at on er
          refine ⟨_, rfl, rfl, _, rfl, iteF ?_⟩
          refine ⟨_, rfl, _, rfl, _, rfl, _, _, rfl, rfl, _, rfl, _, _, rfl, rfl, .inl ⟨by decide, by decide⟩, _, _, _, rfl, ?_⟩
          exact ⟨m, Nat.lt_succ_self m, s1.trans s2, z, bb + min st (wd - bb), 2 * min st (wd - bb), _, rfl, on, er⟩
    · have hb2 : wd ≤ bb := by
        have q : ¬ ((bb : Int) < (wd : Int)) := fun q => hb (decide_eq_true q)
        omega
      have e1 : refS xs wd m nr bb st = (nr, bb) := by
        cases m with
        | zero => rfl
        | succ m =>
          unfold refS
          rw [if_pos hb2]
      rw [e1] at er
      have en : ((bb : Int) - (wd : Int)) = ((bb - wd : Nat) : Int) := by omega
      refine ⟨_, rfl, _, rfl, _, rfl, _, _, rfl, rfl, nr, bb - wd, rfl, congrArg V.int en, k _ _ s1 ?_⟩
      rw [hR, ← er]
end
end Xq

/-! Polynomials of any degree: lonely_stretch, stretch_of. -/
namespace Xq
open PySem PySem.Spec PyProof.Rows L2
def okChB (cs : List (List Int)) (t b : Int) : Bool := decide (cs.length ≤ 100) && cs.all fun xs => okVB xs t b
theorem okChB_ok {cs : List (List Int)} {t b : Int} (h : okChB cs t b = true) : okCh cs t b :=
  ⟨of_decide_eq_true (Bool.and_eq_true_iff.mp h).1, fun xs hx => okVB_ok (List.all_eq_true.mp (Bool.and_eq_true_iff.mp h).2 xs hx)⟩
def okUB (cs : List (List Int)) : Bool := !cs.isEmpty && decide (1 ≤ (cs.headD []).length) && decide ((cs.headD []).length ≤ 1000) && okChB cs (-(reachL (cs.headD []))) 1
theorem okUB_ok {cs : List (List Int)} (h : okUB cs = true) : okU cs := by
  unfold okUB at h
  simp only [Bool.and_eq_true, Bool.not_eq_true', decide_eq_true_eq] at h
  obtain ⟨⟨⟨h1, h2⟩, h3⟩, h4⟩ := h
  refine ⟨fun e => ?_, h2, h3, okChB_ok h4⟩
  rw [e] at h1
  cases h1
/-- one turn of lonely_stretch -/
def lonT (lo hi : Int) (b : Nat) : Int × Int × Nat := if hi - lo = 1 then (2 * lo, 2 * hi, b + 1) else (lo, hi, b)
def lonM (lo hi : Int) (b : Nat) : Int := ((lonT lo hi b).1 + (lonT lo hi b).2.1) / 2
def lonGo (cs : List (List Int)) (lo hi : Int) (b : Nat) : Bool := decide (hi - lo > 1) || decide (chgL cs lo (pw b) - chgL cs hi (pw b) > 1)
def lonS (cs : List (List Int)) (rank : Int) : Nat → Int → Int → Nat → Int × Nat
  | 0, lo, _, b => (lo, b)
  | n + 1, lo, hi, b => if lonGo cs lo hi b then
      (if upL cs (lonM lo hi b) (pw (lonT lo hi b).2.2) > rank then lonS cs rank n (lonT lo hi b).1 (lonM lo hi b) (lonT lo hi b).2.2 else lonS cs rank n (lonM lo hi b) (lonT lo hi b).2.1 (lonT lo hi b).2.2)
    else (lo, b)
def okLo (cs : List (List Int)) (rank : Int) : Nat → Int → Int → Nat → Bool
  | 0, lo, hi, b => decide (b < 2000) && okChB cs lo (pw b) && okChB cs hi (pw b) && !lonGo cs lo hi b
  | n + 1, lo, hi, b => decide (b < 2000) && okChB cs lo (pw b) && okChB cs hi (pw b) && (!lonGo cs lo hi b || (okChB cs (lonM lo hi b) (pw (lonT lo hi b).2.2) &&
      if upL cs (lonM lo hi b) (pw (lonT lo hi b).2.2) > rank then okLo cs rank n (lonT lo hi b).1 (lonM lo hi b) (lonT lo hi b).2.2 else okLo cs rank n (lonM lo hi b) (lonT lo hi b).2.1 (lonT lo hi b).2.2))
/-- what lonely_stretch tells -/
def lonL (xs : List Int) (rank : Int) : Int × Nat := lonS (sturmL xs) rank 60 0 (reachL xs) 0
def okLon (xs : List Int) (rank : Int) : Bool := okS xs && okUB (sturmL xs) && okLo (sturmL xs) rank 60 0 (reachL xs) 0
/-- what stretch_of tells -/
def strL (xs : List Int) (rank : Int) : Int × Nat := (refL xs (lonL xs rank).1 (lonL xs rank).2 (max (lonL xs rank).2 64), max (lonL xs rank).2 64)
def okStr (xs : List Int) (rank : Int) : Bool := okLon xs rank && okRf xs (lonL xs rank).1 (lonL xs rank).2 (max (lonL xs rank).2 64)
section
variable {P : Program} {w : World} {K : PySem.W.Frag} {mg : Str → Option Value} {base : Heap}
abbrev nL : List Str := ["equation", "rank", "chain", "low", "high", "bits", "middle"]
theorem g48 : FnScope nL ["equation", "rank"] (defScope (top 44)) := (⟨rfl, rfl, rfl, by decide +kernel, rfl, by decide +kernel, by decide +kernel⟩)
abbrev spLoneG : Sp := Prm (α := Addr × List Int × Int) (fun a => [.ref a.1, .int a.2.2]) (fun a H => TI H a.1 a.2.1 ∧ okLon a.2.1 a.2.2 = true) (fun a H v H' => ∃ r, v = .ref r ∧ TI H' r [(lonL a.2.1 a.2.2).1, ((lonL a.2.1 a.2.2).2 : Int)])
theorem c_loneG (D : Df K mg "lonely_stretch" (top 44)) (CS : Cal P w K mg base 4 "sturm_chain" ["terms"] spSturmG) (CR : Cal P w K mg base 1 "reach" ["terms"] spReachG) (CC : Cal P w K mg base 2 "changes" ["chain", "top", "bottom"] spChgG) (CU : Cal P w K mg base 3 "roots_up_to" ["chain", "top", "bottom"] spUpG) : Cal P w K mg base 5 "lonely_stretch" ["equation", "rank"] spLoneG := by
  refine mkC D g48 (fun _ _ _ _ _ _ us hl => match us, hl with | [_, _], _ => rfl) (fun _ => rfl) (fun f cdv A outer s H a Q E hr h k => ?_)
  obtain ⟨p, xs, rank⟩ := a
  obtain ⟨h, ok⟩ := h
  have h : TI H p xs := h
  have ok : okLon xs rank = true := ok
  have k : ∀ v H', Same H H' → (∃ r, v = .ref r ∧ TI H' r [(lonL xs rank).1, ((lonL xs rank).2 : Int)]) → Q v H' := k
  obtain ⟨ok, oL⟩ := Bool.and_eq_true_iff.mp ok
  obtain ⟨oS, oU⟩ := Bool.and_eq_true_iff.mp ok
  have oU := okUB_ok oU
  have l12 : 1 ≤ xs.length ∧ xs.length ≤ 1000 := by
    obtain ⟨z, _⟩ := Bool.and_eq_true_iff.mp oS
    obtain ⟨z1, z2⟩ := Bool.and_eq_true_iff.mp z
    have z1 := of_decide_eq_true z1
    have z2 := of_decide_eq_true z2
    omega
  refine ⟨_, pss_cons ((ps_set (i := 2) (FnScope.nd g48) rfl (Or.inl rfl) (pe_cl CS hr (pa_cons (pv 0) pa_nil))))
    (pss_cons (ps_par3 (i := 3) (j := 4) (l := 5) rfl g48.nd rfl rfl rfl (by decide) (by decide) (by decide) rfl rfl rfl (pa_cons pe_int (pa_cons (pe_cl CR hr (pa_cons (pv 0) pa_nil)) (pa_cons pe_int pa_nil))) rfl)
    (pss_cons (ps_whI PassesOwn.never (PW.pt (pw_or ((pt_cmpR op_gt (pe_op op_sub (pv 4) (pv 3)) pe_int (nomark _))) (pw_or1 ((pt_cmpR op_gt (pe_op op_sub (pe_cl CC hr (pa_cons (pv 2) (pa_cons (pv 3) (pa_cons (pe_op op_shlN pe_int (pv 5)) pa_nil)))) (pe_cl CC hr (pa_cons (pv 2) (pa_cons (pv 4) (pa_cons (pe_op op_shlN pe_int (pv 5)) pa_nil))))) pe_int (nomark _))))))
      (C8.pss_cut (ps_if ((pt_cmpR op_eq (pe_op op_sub (pv 4) (pv 3)) pe_int (nomark _))) (pss_one (ps_par3 (i := 3) (j := 4) (l := 5) rfl g48.nd rfl rfl rfl (by decide) (by decide) (by decide) rfl rfl rfl (pa_cons (pe_op op_mul pe_int (pv 3)) (pa_cons (pe_op op_mul pe_int (pv 4)) (pa_cons (pe_op op_add (pv 5) pe_int) pa_nil))) rfl)) pss_nil)
      (pss_cons ((ps_set (i := 6) (FnScope.nd g48) rfl (Or.inl rfl) (pe_op op_fdiv (pe_op op_add (pv 3) (pv 4)) pe_int)))
      (pss_one (ps_if ((pt_cmpR op_gt (pe_cl CU hr (pa_cons (pv 2) (pa_cons (pv 6) (pa_cons (pe_op op_shlN pe_int (pv 5)) pa_nil)))) (pv 1) (nomark _))) (pss_one ((ps_set (i := 4) (FnScope.nd g48) rfl (Or.inl rfl) (pv 6)))) (pss_one ((ps_set (i := 3) (FnScope.nd g48) rfl (Or.inl rfl) (pv 6)))))))))
    (pss_one (ps_ret (pe_tup (pa_cons (pv 3) (pa_cons (pv 5) pa_nil))))))), ?_⟩
  refine ⟨_, rfl, (p, xs), rfl, ⟨h, oS⟩, ?_⟩
  rintro _ H1 s1 ⟨c, rfl, hc⟩
  have hc : Chn H1 c (sturmL xs) := hc
  refine ⟨_, rfl, (p, xs), rfl, ⟨TI.same s1 h, l12⟩, ?_⟩
  rintro _ H2 s2 rfl
  refine ⟨_, _, _, rfl, ?_⟩
  have hc2 := hc.same s2
  refine ⟨fun m σ H' => Same H2 H' ∧ ∃ (lo hi : Int) (b : Nat) (z : Option V), σ = [some (.ref p), some (.int rank), some (.ref c), some (.int lo), some (.int hi), some (.int (b : Int)), z] ∧ okLo (sturmL xs) rank m lo hi b = true ∧ lonS (sturmL xs) rank m lo hi b = lonL xs rank,
    ⟨60, Same.refl _, 0, reachL xs, 0, none, rfl, oL, rfl⟩, ?_⟩
  rintro m σ H3 ⟨s3, lo, hi, b, z, rfl, ok3, er⟩
  have oks : b < 2000 ∧ okChB (sturmL xs) lo (pw b) = true ∧ okChB (sturmL xs) hi (pw b) = true := by
    cases m with
    | zero =>
      obtain ⟨x, _⟩ := Bool.and_eq_true_iff.mp ok3
      obtain ⟨x, x3⟩ := Bool.and_eq_true_iff.mp x
      obtain ⟨x1, x2⟩ := Bool.and_eq_true_iff.mp x
      exact ⟨of_decide_eq_true x1, x2, x3⟩
    | succ m =>
      obtain ⟨x, _⟩ := Bool.and_eq_true_iff.mp ok3
      obtain ⟨x, x3⟩ := Bool.and_eq_true_iff.mp x
      obtain ⟨x1, x2⟩ := Bool.and_eq_true_iff.mp x
      exact ⟨of_decide_eq_true x1, x2, x3⟩
  obtain ⟨hb0, ol, oh⟩ := oks
  have hc3 := hc2.same s3
  have cs1 : CShl 1 (b : Int) := shl_ok (n := 2) (by decide) (by omega)
  -- what a turn leaves
  have turn : lonGo (sturmL xs) lo hi b = true → ∃ m', m = m' + 1 ∧ okChB (sturmL xs) (lonM lo hi b) (pw (lonT lo hi b).2.2) = true ∧
      (upL (sturmL xs) (lonM lo hi b) (pw (lonT lo hi b).2.2) > rank → okLo (sturmL xs) rank m' (lonT lo hi b).1 (lonM lo hi b) (lonT lo hi b).2.2 = true ∧ lonS (sturmL xs) rank m' (lonT lo hi b).1 (lonM lo hi b) (lonT lo hi b).2.2 = lonL xs rank) ∧
      (¬ upL (sturmL xs) (lonM lo hi b) (pw (lonT lo hi b).2.2) > rank → okLo (sturmL xs) rank m' (lonM lo hi b) (lonT lo hi b).2.1 (lonT lo hi b).2.2 = true ∧ lonS (sturmL xs) rank m' (lonM lo hi b) (lonT lo hi b).2.1 (lonT lo hi b).2.2 = lonL xs rank) := by
    intro hg
    cases m with
    | zero =>
      have x := (Bool.and_eq_true_iff.mp ok3).2
      rw [hg] at x
      cases x
    | succ m =>
      have x := (Bool.and_eq_true_iff.mp ok3).2
      rw [hg, Bool.not_true, Bool.false_or] at x
      obtain ⟨x1, x2⟩ := Bool.and_eq_true_iff.mp x
      unfold lonS at er
      rw [if_pos hg] at er
      refine ⟨m, rfl, x1, fun q => ?_, fun q => ?_⟩
      · rw [if_pos q] at x2 er
        exact ⟨x2, er⟩
      · rw [if_neg q] at x2 er
        exact ⟨x2, er⟩
  have b1 : (lonT lo hi b).2.2 < 2001 := by
    unfold lonT
    split
    · show b + 1 < 2001
      omega
    · show b < 2001
      omega
  have cs2 : CShl 1 (((lonT lo hi b).2.2 : Nat) : Int) := shl_ok (n := 2) (by decide) (by omega)
  have stop : lonGo (sturmL xs) lo hi b = false → lonL xs rank = (lo, b) := by
    intro hg
    rw [← er]
    cases m with
    | zero => rfl
    | succ m =>
      unfold lonS
      rw [hg]
      rfl
  refine ⟨_, rfl, _, rfl, _, _, rfl, rfl, _, _, rfl, rfl, _, rfl, ?_⟩
  refine ite2 (fun hb => ?_) (fun hb => ?_)
  · have hb2 : hi - lo > 1 := of_decide_eq_true hb
    obtain ⟨m', em, om, t1, t2⟩ := turn (by unfold lonGo; rw [hb]; rfl)
    refine ⟨fun σ' H' => σ' = [some (.ref p), some (.int rank), some (.ref c), some (.int (lonT lo hi b).1), some (.int (lonT lo hi b).2.1), some (.int (((lonT lo hi b).2.2 : Nat) : Int)), z] ∧ H' = H3, ?_, ?_⟩
    · refine ⟨_, rfl, _, rfl, _, _, rfl, rfl, rfl, _, rfl, ?_⟩
      have n1 : ¬ (hi - lo = 1) := by omega
      rw [decide_eq_false (show ¬ V.int (hi - lo) = V.int 1 from fun q => n1 (by injection q))]
      refine iteF ⟨?_, rfl⟩
      rw [lonT, if_neg n1]
    · rintro σ' H4 ⟨rfl, rfl⟩
      refine ⟨_, rfl, _, rfl, _, _, rfl, rfl, _, _, rfl, rfl, ⟨by decide, by decide⟩, ?_⟩
      refine ⟨_, rfl, _, rfl, _, rfl, 1, (lonT lo hi b).2.2, rfl, rfl, cs2, (c, sturmL xs, lonM lo hi b, pw (lonT lo hi b).2.2), rfl, ⟨hc3, oU, okChB_ok om⟩, ?_⟩
      rintro _ H5 s5 rfl
      refine ⟨_, rfl, _, _, rfl, rfl, _, rfl, ?_⟩
      refine ite2 (fun hd => ?_) (fun hd => ?_)
      · obtain ⟨t1, t3⟩ := t1 (of_decide_eq_true hd)
        exact ⟨_, rfl, m', by omega, s3.trans s5, (lonT lo hi b).1, lonM lo hi b, (lonT lo hi b).2.2, _, rfl, t1, t3⟩
      · obtain ⟨t2, t3⟩ := t2 (fun q => hd (decide_eq_true q))
        exact ⟨_, rfl, m', by omega, s3.trans s5, lonM lo hi b, (lonT lo hi b).2.1, (lonT lo hi b).2.2, _, rfl, t2, t3⟩
  · have hb2 : ¬ hi - lo > 1 := fun q => hb (decide_eq_true q)
    have gb : lonGo (sturmL xs) lo hi b = decide (chgL (sturmL xs) lo (pw b) - chgL (sturmL xs) hi (pw b) > 1) := by
      unfold lonGo
      rw [decide_eq_false hb2]
      rfl
    refine ⟨_, rfl, _, rfl, _, rfl, 1, b, rfl, rfl, cs1, (c, sturmL xs, lo, pw b), rfl, ⟨hc3, okChB_ok ol⟩, ?_⟩
    rintro _ H4 s4 rfl
    refine ⟨_, rfl, _, rfl, _, rfl, 1, b, rfl, rfl, cs1, (c, sturmL xs, hi, pw b), rfl, ⟨hc3.same s4, okChB_ok oh⟩, ?_⟩
    rintro _ H5 s5 rfl
    have s45 := s4.trans s5
    refine ⟨_, _, rfl, rfl, _, _, rfl, rfl, _, rfl, ?_⟩
    refine ite2 (fun hd => ?_) (fun hd => ?_)
    · obtain ⟨m', em, om, t1, t2⟩ := turn (gb.trans hd)
      refine ⟨fun σ' H' => σ' = [some (.ref p), some (.int rank), some (.ref c), some (.int (lonT lo hi b).1), some (.int (lonT lo hi b).2.1), some (.int (((lonT lo hi b).2.2 : Nat) : Int)), z] ∧ H' = H5, ?_, ?_⟩
      · refine ⟨_, rfl, _, rfl, _, _, rfl, rfl, rfl, _, rfl, ?_⟩
        by_cases n1 : hi - lo = 1
        · rw [decide_eq_true (show V.int (hi - lo) = V.int 1 by rw [n1])]
          refine iteT ⟨_, rfl, _, _, rfl, rfl, .inl ⟨by decide, by decide⟩, _, rfl, _, _, rfl, rfl, .inl ⟨by decide, by decide⟩, _, rfl, _, _, rfl, rfl, _, _, _, rfl, ?_, rfl⟩
          rw [lonT, if_pos n1]
          rfl
        · rw [decide_eq_false (show ¬ V.int (hi - lo) = V.int 1 from fun q => n1 (by injection q))]
          refine iteF ⟨?_, rfl⟩
          rw [lonT, if_neg n1]
      · rintro σ' H6 ⟨rfl, rfl⟩
        refine ⟨_, rfl, _, rfl, _, _, rfl, rfl, _, _, rfl, rfl, ⟨by decide, by decide⟩, ?_⟩
        refine ⟨_, rfl, _, rfl, _, rfl, 1, (lonT lo hi b).2.2, rfl, rfl, cs2, (c, sturmL xs, lonM lo hi b, pw (lonT lo hi b).2.2), rfl, ⟨hc3.same s45, oU, okChB_ok om⟩, ?_⟩
        rintro _ H7 s7 rfl
        refine ⟨_, rfl, _, _, rfl, rfl, _, rfl, ?_⟩
        refine ite2 (fun hd => ?_) (fun hd => ?_)
        · obtain ⟨t1, t3⟩ := t1 (of_decide_eq_true hd)
          exact ⟨_, rfl, m', by omega, s3.trans (s45.trans s7), (lonT lo hi b).1, lonM lo hi b, (lonT lo hi b).2.2, _, rfl, t1, t3⟩
        · obtain ⟨t2, t3⟩ := t2 (fun q => hd (decide_eq_true q))
          exact ⟨_, rfl, m', by omega, s3.trans (s45.trans s7), lonM lo hi b, (lonT lo hi b).2.1, (lonT lo hi b).2.2, _, rfl, t2, t3⟩
    · have hd2 : lonGo (sturmL xs) lo hi b = false := by
        rw [gb]
        exact Bool.eq_false_iff.mpr hd
      have e := stop hd2
      refine ⟨_, rfl, _, rfl, (by show 2 ≤ sizeLine; decide), fun r hr2 => ?_⟩
      refine k _ _ (s1.trans (s2.trans (s3.trans (s4.trans (Same.new s5 hr2))))) ⟨r, rfl, ?_⟩
      rw [e]
      exact upd_same
abbrev nS : List Str := ["equation", "rank", "near", "bits", "wanted"]
theorem g47 : FnScope nS ["equation", "rank"] (defScope (top 43)) := (⟨rfl, rfl, rfl, by decide +kernel, rfl, by decide +kernel, by decide +kernel⟩)
abbrev spStrG : Sp := Prm (α := Addr × List Int × Int) (fun a => [.ref a.1, .int a.2.2]) (fun a H => TI H a.1 a.2.1 ∧ okStr a.2.1 a.2.2 = true) (fun a H v H' => ∃ r, v = .ref r ∧ TI H' r [(strL a.2.1 a.2.2).1, ((strL a.2.1 a.2.2).2 : Int)])
theorem c_strG (D : Df K mg "stretch_of" (top 43)) (B : Bl mg) (CL : Cal P w K mg base 5 "lonely_stretch" ["equation", "rank"] spLoneG) (CF : Cal P w K mg base 3 "refined" ["equation", "near", "bits", "wanted"] spRefG) : Cal P w K mg base 6 "stretch_of" ["equation", "rank"] spStrG := by
  refine mkC D g47 (fun _ _ _ _ _ _ us hl => match us, hl with | [_, _], _ => rfl) (fun _ => rfl) (fun f cdv A outer s H a Q E hr h k => ?_)
  obtain ⟨p, xs, rank⟩ := a
  obtain ⟨h, ok⟩ := h
  have h : TI H p xs := h
  obtain ⟨o1, o2⟩ := Bool.and_eq_true_iff.mp (show okStr xs rank = true from ok)
  obtain ⟨tb, htb⟩ := B.bits_
  refine ⟨_, pss_cons (ps_asg (pe_cl CL hr (pa_cons (pv 0) (pa_cons (pv 1) pa_nil))) (pg_tup rfl (pgs_cons ((pg_name (i := 2) (FnScope.nd g47) rfl (Or.inl rfl))) (pgs_cons ((pg_name (i := 3) (FnScope.nd g47) rfl (Or.inl rfl))) pgs_nil))))
    (pss_cons ((ps_set (i := 4) (FnScope.nd g47) rfl (Or.inl rfl) (pe_callB (call_max2 rfl) (by rfl) B.max_ PyProof.Rows.boot_max (pa_cons (pv 3) (pa_cons (pe_glob (v := .int 64) (by rfl) htb ⟨_, rfl⟩) pa_nil)))))
    (pss_one (ps_ret (pe_tup (pa_cons (pe_cl CF hr (pa_cons (pv 0) (pa_cons (pv 2) (pa_cons (pv 3) (pa_cons (pv 4) pa_nil))))) (pa_cons (pv 4) pa_nil)))))), ?_⟩
  refine ⟨_, rfl, _, rfl, (p, xs, rank), rfl, ⟨h, o1⟩, ?_⟩
  rintro _ H1 s1 ⟨r, rfl, hr1⟩
  refine ⟨r, _, rfl, SqT.of hr1, rfl, _, _, rfl, _, _, rfl, rfl, ?_⟩
  have em : (if (64 : Int) > ((lonL xs rank).2 : Int) then (64 : Int) else ((lonL xs rank).2 : Int)) = ((max (lonL xs rank).2 64 : Nat) : Int) := by
    split <;> omega
  refine ⟨_, rfl, _, _, rfl, ?_⟩
  refine ⟨_, rfl, _, rfl, _, rfl, _, rfl, (p, xs, (lonL xs rank).1, (lonL xs rank).2, max (lonL xs rank).2 64), ?_, ⟨TI.same s1 h, o2⟩, ?_⟩
  · show [V.ref p, V.int _, V.int _, V.int (if (64 : Int) > ((lonL xs rank).2 : Int) then (64 : Int) else ((lonL xs rank).2 : Int))] = [V.ref p, V.int _, V.int _, V.int ((max (lonL xs rank).2 64 : Nat) : Int)]
    rw [em]
  rintro _ H2 s2 rfl
  refine ⟨_, rfl, (by show 2 ≤ sizeLine; decide), fun r2 hr2 => ?_⟩
  refine k _ _ (s1.trans (Same.new s2 hr2)) ⟨r2, rfl, ?_⟩
  show upd H2 r2 (.tup [.int (refL xs (lonL xs rank).1 (lonL xs rank).2 (max (lonL xs rank).2 64)), .int (if (64 : Int) > ((lonL xs rank).2 : Int) then (64 : Int) else ((lonL xs rank).2 : Int))]) r2 = some (.tup [.int _, .int ((max (lonL xs rank).2 64 : Nat) : Int)])
  rw [em]
  exact upd_same
end
end Xq

/-! Polynomials of any degree: divisors. -/
namespace Xq
open PySem PySem.Spec PyProof.Rows L2
def dvS (n : Int) : Nat → List Int
  | 0 => []
  | k + 1 => dvS n k ++ (bif Nat.beq (n.natAbs % (1 + k)) 0 then [((1 + k : Nat) : Int)] else [])
theorem dv_iff (n : Int) (k : Nat) : n % ((1 + k : Nat) : Int) = 0 ↔ n.natAbs % (1 + k) = 0 := by
  rw [← Int.dvd_iff_emod_eq_zero, Int.ofNat_dvd_left, Nat.dvd_iff_mod_eq_zero]
theorem dv_yes {n : Int} {k : Nat} {α : Type} {a b : α} (h : n % ((1 + k : Nat) : Int) = 0) : (bif Nat.beq (n.natAbs % (1 + k)) 0 then a else b) = a := by
  rw [(dv_iff n k).mp h]
  rfl
theorem dv_no {n : Int} {k : Nat} {α : Type} {a b : α} (h : ¬ n % ((1 + k : Nat) : Int) = 0) : (bif Nat.beq (n.natAbs % (1 + k)) 0 then a else b) = b := by
  have e : Nat.beq (n.natAbs % (1 + k)) 0 = false := by
    cases z : Nat.beq (n.natAbs % (1 + k)) 0 with
    | false => rfl
    | true => exact absurd ((dv_iff n k).mpr (Nat.eq_of_beq_eq_true z)) h
  rw [e]
  rfl
theorem dvS_len (n : Int) : ∀ k, (dvS n k).length ≤ k
  | 0 => Nat.le_refl _
  | k + 1 => by
    have := dvS_len n k
    show (dvS n k ++ _).length ≤ k + 1
    rw [List.length_append]
    cases Nat.beq (n.natAbs % (1 + k)) 0
    · simp; omega
    · simp; omega
def dvG (m i : Nat) : List Nat := bif Nat.beq (Nat.mod m i) 0 then [i] else []
/-- the divisors of m from k down to 1, ahead of acc: a plain recursor over plain Nat operations, quick in the kernel -/
def dvR (m : Nat) (k : Nat) : Nat → List Nat → List Nat := Nat.rec (motive := fun _ => Nat → List Nat → List Nat) (fun _ acc => acc) (fun _ ih i acc => ih (Nat.pred i) (bif Nat.beq (Nat.mod m i) 0 then i :: acc else acc)) k
theorem dvR_eq (m : Nat) : ∀ k acc, dvR m k k acc = ((List.range k).flatMap fun j => dvG m (1 + j)) ++ acc
  | 0, acc => rfl
  | k + 1, acc => by
    have e : dvR m (k + 1) (k + 1) acc = dvR m k k (dvG m (1 + k) ++ acc) := by
      show dvR m k k (bif Nat.beq (Nat.mod m (k + 1)) 0 then (k + 1) :: acc else acc) = _
      unfold dvG
      rw [Nat.add_comm 1 k]
      cases Nat.beq (Nat.mod m (k + 1)) 0 <;> rfl
    rw [e, dvR_eq m k, List.range_succ, List.flatMap_append, List.append_assoc]
    congr 1
    simp
theorem dvS_eq (n : Int) : ∀ k, dvS n k = ((List.range k).flatMap fun j => dvG n.natAbs (1 + j)).map Int.ofNat
  | 0 => rfl
  | k + 1 => by
    rw [List.range_succ, List.flatMap_append, List.map_append, ← dvS_eq n k]
    show dvS n k ++ _ = _
    congr 1
    show (bif Nat.beq (n.natAbs % (1 + k)) 0 then [((1 + k : Nat) : Int)] else []) = List.map _ (List.flatMap _ [k])
    rw [List.flatMap_cons, List.flatMap_nil, List.append_nil]
    show _ = List.map _ (bif Nat.beq (n.natAbs % (1 + k)) 0 then [1 + k] else [])
    cases Nat.beq (n.natAbs % (1 + k)) 0 <;> rfl
/-- what divisors tells -/
def dvL (n : Int) : List Int := (dvR n.natAbs n.natAbs n.natAbs []).map Int.ofNat
theorem dvL_eq {n : Int} (h : n.natAbs ≤ 1000) : dvS n n.natAbs = dvL n := by
  unfold dvL
  rw [dvS_eq, dvR_eq, List.append_nil]
section
variable {P : Program} {w : World} {K : PySem.W.Frag} {mg : Str → Option Value} {base : Heap}
theorem g55 : FnScope ["number", "low"] ["number"] (defScope (top 51)) := (⟨rfl, rfl, rfl, by decide +kernel, rfl, by decide +kernel, by decide +kernel⟩)
abbrev spDivG : Sp := Prm (α := Int) (fun i => [.int i]) (fun i _ => i.natAbs ≤ 1000) (fun i H v H' => ∃ q, v = .ref q ∧ LI H' q (dvL i))
theorem c_divG (D : Df K mg "divisors" (top 51)) (B : Bl mg) : Cal P w K mg base 1 "divisors" ["number"] spDivG := by
  refine mkC D g55 (fun _ _ _ _ _ _ us hl => match us, hl with | [_], _ => rfl) (fun _ => rfl) (fun f cdv A outer s H n Q E hr h k => ?_)
  have h : n.natAbs ≤ 1000 := h
  refine ⟨_, pss_one (ps_ret (pe_lc (own := [("low", 1)]) (g := gName 1) (tt := tTest (tOp rEq (tOp (rI (fun _ j => 0 < j) fun i j => .int (i % j)) (tVar 0) (tVar 1)) (tC (.int 0)))) (te := tVar 1) rfl g55.nd
      (pi_range2 (by rfl) B.range_ (pa_cons pe_int (pa_cons (pe_op op_add (pe_callB call_abs (by rfl) B.abs_ PyProof.Rows.boot_abs (pa_cons (pv 0) pa_nil)) pe_int) pa_nil)))
      (blkOk_by (N := ["number", "low"]) (sc := defScope (top 51)) (by decide +kernel)) (fun _ _ _ _ _ => (pg_name (i := 1) (FnScope.nd g55) rfl (Or.inl rfl))) (fun _ _ _ _ _ => pts_one ((pt_cmpR op_eq (pe_op op_mod (pv 0) (pv 1)) pe_int (nomark _))))
      (fun _ _ _ _ _ => pv 1))), ?_⟩
  have ea : (if n < 0 then -n else n) = (n.natAbs : Int) := by
    split <;> omega
  have en : ((if n < 0 then -n else n) + 1 - 1).toNat = n.natAbs := by
    rw [ea]
    omega
  refine ⟨_, rfl, n, rfl, _, _, rfl, rfl, _, _, rfl, ⟨by decide, by decide, by omega, by omega⟩, fun D hD => ?_⟩
  rw [en]
  refine lc_range (lo := 1) (fun i H' => Same H H' ∧ H' D = some (.lst ((dvS n i).map V.int))) ⟨same_new hD, upd_same⟩ (fun i H' hi e => ?_) (fun H' e => k _ _ e.1 ⟨D, rfl, by rw [← dvL_eq h]; exact e.2⟩)
  obtain ⟨s1, e1⟩ := e
  have ei : ((1 : Int) + (i : Int)) = ((1 + i : Nat) : Int) := by omega
  refine ⟨rfl, ?_⟩
  refine ⟨_, rfl, _, rfl, _, _, rfl, rfl, (by show (0 : Int) < 1 + (i : Int); omega), rfl, _, rfl, ?_⟩
  by_cases hz : n % ((1 + i : Nat) : Int) = 0
  · rw [decide_eq_true (show V.int (n % (1 + (i : Int))) = V.int 0 by rw [ei, hz])]
    refine iteT ⟨_, rfl, _, e1, ?_, Same.put s1 hD, ?_⟩
    · rw [List.length_map]
      exact sz_lt (Nat.le_trans (dvS_len n i) (by omega))
    · rw [upd_same]
      show some (HO.lst _) = some (HO.lst (List.map V.int (dvS n i ++ _)))
      rw [dv_yes hz, List.map_append, ei]
      rfl
  · rw [decide_eq_false (show ¬ V.int (n % (1 + (i : Int))) = V.int 0 from fun q => hz (ei ▸ V.int.inj q))]
    refine iteF ⟨s1, ?_⟩
    rw [e1]
    show some (HO.lst _) = some (HO.lst (List.map V.int (dvS n i ++ _)))
    rw [dv_no hz, List.append_nil]
end
end Xq

/-! Polynomials of any degree: linear_factor, where there is none. -/
namespace Xq
open PySem PySem.Spec PyProof.Rows L2
/-- no fraction's root -/
def okLin (xs : List Int) : Bool := decide (2 ≤ xs.length) && decide (xs.length ≤ 1000) && decide ((xs.getD 0 0).natAbs ≤ 1000) && decide ((xs.getLastD 0).natAbs ≤ 1000) && !decide (xs.getD 0 0 = 0) &&
  (dvL (xs.getD 0 0)).all fun t => (dvL (xs.getLastD 0)).all fun b => !decide (Nat.gcd t.natAbs b.natAbs = 1) || (okVB xs t b && okVB xs (-t) b && !decide (valL xs t b = 0) && !decide (valL xs (-t) b = 0))
section
variable {P : Program} {w : World} {K : PySem.W.Frag} {mg : Str → Option Value} {base : Heap}
abbrev nLf : List Str := ["terms", "bottoms", "top", "bottom", "side"]
theorem g56 : FnScope nLf ["terms"] (defScope (top 52)) := (⟨rfl, rfl, rfl, by decide +kernel, rfl, by decide +kernel, by decide +kernel⟩)
abbrev spLinG : Sp := Prm (α := Addr × List Int) (fun a => [.ref a.1]) (fun a H => TI H a.1 a.2 ∧ okLin a.2 = true) (fun a H v H' => v = .non)
theorem c_linG (D : Df K mg "linear_factor" (top 52)) (B : Bl mg) (CD : Cal P w K mg base 1 "divisors" ["number"] spDivG) (C : Cal P w K mg base 1 "value_at" ["terms", "top", "bottom"] spValG) : Cal P w K mg base 2 "linear_factor" ["terms"] spLinG := by
  refine mkC D g56 (fun _ _ _ _ _ _ us hl => match us, hl with | [_], _ => rfl) (fun _ => rfl) (fun f cdv A outer s H a Q E hr h k => ?_)
  obtain ⟨p, xs⟩ := a
  obtain ⟨h, ok⟩ := h
  have h : TI H p xs := h
  have h0 : H p = some (.tup (xs.map V.int)) := h
  have k : ∀ v H', Same H H' → v = .non → Q v H' := k
  have ok : okLin xs = true := ok
  unfold okLin at ok
  simp only [Bool.and_eq_true, Bool.not_eq_true', decide_eq_true_eq, decide_eq_false_iff_not] at ok
  obtain ⟨⟨⟨⟨⟨l2, l1⟩, d0⟩, dl⟩, n0⟩, al⟩ := ok
  have call : ∀ {H1 : Hp} {t b : Int} {Qv : VK}, Same H H1 → okVB xs t b = true → (∀ H2, Same H1 H2 → Qv (.int (valL xs t b)) H2) → spValG [.ref p, .int t, .int b] H1 Qv E0 := fun {H1 t b Qv} s1 o kk => by
    refine ⟨(p, xs, t, b), rfl, ⟨TI.same s1 h, okVB_ok o⟩, ?_⟩
    rintro _ H2 s2 rfl
    exact kk _ s2
  refine ⟨_, pss_cons (ps_if ((pt_cmpR op_eq ((pe_ix ix_tup (pv 0) pe_int (fun _ _ => rfl))) pe_int (nomark _))) pss_nv pss_nil)
    (pss_cons ((ps_set (i := 1) (FnScope.nd g56) rfl (Or.inl rfl) (pe_cl CD hr (pa_cons ((pe_ix ix_tup (pv 0) (pe_un un_neg pe_int) (fun _ _ => rfl))) pa_nil))))
    (pss_cons (ps_for PassesOwn.never rfl (pi_list (pe_cl CD hr (pa_cons ((pe_ix ix_tup (pv 0) pe_int (fun _ _ => rfl))) pa_nil))) ((pg_name (i := 2) (FnScope.nd g56) rfl (Or.inl rfl)))
      (pss_one (ps_for PassesOwn.never rfl (pi_list (pv 1)) ((pg_name (i := 3) (FnScope.nd g56) rfl (Or.inl rfl)))
        (pss_cons (ps_if ((pt_cmpR op_ne (pe_callBfun cr_gcd (by rfl) B.gcd_ (pa_cons (pv 2) (pa_cons (pv 3) pa_nil))) pe_int (nomark _))) (pss_one ps_continue) pss_nil)
        (pss_one (ps_for PassesOwn.never rfl (pi_tup (pe_tup (pa_cons (pv 2) (pa_cons (pe_un un_neg (pv 2)) pa_nil)))) ((pg_name (i := 4) (FnScope.nd g56) rfl (Or.inl rfl)))
          (pss_one (ps_if ((pt_cmpR op_eq (pe_cl C hr (pa_cons (pv 0) (pa_cons (pv 4) (pa_cons (pv 3) pa_nil)))) pe_int (nomark _))) pss_nv pss_nil))))))))
    (pss_one (ps_ret pe_non)))), ?_⟩
  have nz : ∀ {v : Int}, ¬ v = 0 → decide (V.int v = V.int 0) = false := fun {v} e => decide_eq_false fun q => e (V.int.inj q)
  refine ⟨_, rfl, p, _, _, _, rfl, rfl, SqT.of h0, atI_nat (j := 0) (getD_map (by omega)), rfl, _, rfl, ?_⟩
  rw [nz n0]
  refine iteF ⟨_, rfl, _, rfl, p, _, _, _, rfl, rfl, SqT.of h0, at_lastD (by omega), xs.getLastD 0, rfl, dl, ?_⟩
  rintro _ H1 s1 ⟨bo, rfl, hbo⟩
  have hbo : H1 bo = some (.lst ((dvL (xs.getLastD 0)).map V.int)) := hbo
  have h1 := s1 _ _ h0
  refine ⟨_, rfl, p, _, _, _, rfl, rfl, SqT.of h1, atI_nat (j := 0) (getD_map (by omega)), xs.getD 0 0, rfl, d0, ?_⟩
  rintro _ H2 s2 ⟨to, rfl, hto⟩
  have hto : H2 to = some (.lst ((dvL (xs.getD 0 0)).map V.int)) := hto
  have hbo2 := s2 _ _ hbo
  have s12 := s1.trans s2
  refine ⟨to, rfl, ⟨_, SqL.of hto⟩, for_list (xs := (dvL (xs.getD 0 0)).map V.int) (fun i σ H' => Same H2 H' ∧ ∃ z2 z3 z4 : Option V, σ = [some (.ref p), some (.ref bo), z2, z3, z4]) ⟨Same.refl _, none, none, none, rfl⟩ (fun i σ H' _ e => SqL.of (e.1 _ _ hto)) ?_ ?_⟩
  · rintro i x σ H3 hx ⟨s3, z2, z3, z4, rfl⟩
    obtain ⟨t, ht, rfl⟩ := at_map hx
    have alt := List.all_eq_true.mp al t (List.mem_of_getElem? ht)
    have hbo3 := s3 _ _ hbo2
    refine ⟨_, rfl, bo, rfl, ⟨_, SqL.of hbo3⟩, for_list (xs := (dvL (xs.getLastD 0)).map V.int) (fun i σ H' => Same H2 H' ∧ ∃ z3 z4 : Option V, σ = [some (.ref p), some (.ref bo), some (.int t), z3, z4]) ⟨s3, z3, z4, rfl⟩ (fun i σ H' _ e => SqL.of (e.1 _ _ hbo2)) ?_ ?_⟩
    · rintro j y σ H4 hy ⟨s4, z3, z4, rfl⟩
      obtain ⟨b, hb, rfl⟩ := at_map hy
      have alb := List.all_eq_true.mp alt b (List.mem_of_getElem? hb)
      refine ⟨_, rfl, _, rfl, t, b, rfl, rfl, _, rfl, ?_⟩
      by_cases hg : Nat.gcd t.natAbs b.natAbs = 1
      · rw [decide_eq_true hg, Bool.not_true, Bool.false_or] at alb
        simp only [Bool.and_eq_true, Bool.not_eq_true', decide_eq_false_iff_not] at alb
        obtain ⟨⟨⟨o1, o2⟩, v1⟩, v2⟩ := alb
        rw [decide_eq_true (show V.int ((Nat.gcd t.natAbs b.natAbs : Nat) : Int) = V.int 1 by rw [hg]; rfl)]
        refine iteF ⟨_, rfl, _, rfl, t, rfl, (by show 2 ≤ sizeLine; decide), fun a na => ?_⟩
        have t1 := same_new (o := .tup [.int t, .int (-t)]) na
        have ha : upd H4 a (.tup [.int t, .int (-t)]) a = some (.tup [.int t, .int (-t)]) := upd_same
        have s5 := s12.trans (s4.trans t1)
        refine ⟨a, rfl, ⟨_, SqT.of ha⟩, for_unr (xs := [.int t, .int (-t)]) walk_tup ?_⟩
        refine ⟨SqT.of ha, ?_⟩
        refine ⟨_, rfl, _, rfl, _, rfl, call s5 o1 fun H6 s6 => ⟨rfl, _, rfl, ?_⟩⟩
        rw [nz v1]
        refine iteF ⟨SqT.of (s6 _ _ ha), ?_⟩
        refine ⟨_, rfl, _, rfl, _, rfl, call (s5.trans s6) o2 fun H7 s7 => ⟨rfl, _, rfl, ?_⟩⟩
        rw [nz v2]
        exact iteF ⟨SqT.of (s7 _ _ (s6 _ _ ha)), s4.trans (t1.trans (s6.trans s7)), _, _, rfl⟩
      · rw [decide_eq_false (show ¬ V.int ((Nat.gcd t.natAbs b.natAbs : Nat) : Int) = V.int 1 from fun q => hg (by have := V.int.inj q; omega))]
        exact iteT ⟨s4, _, _, rfl⟩
    · rintro σ H4 ⟨s4, z3, z4, rfl⟩
      exact ⟨s4, _, _, _, rfl⟩
  · rintro σ H3 ⟨s3, z2, z3, z4, rfl⟩
    exact k _ _ (s12.trans s3) rfl
end
end Xq

/-! whole_roots. -/
namespace Xq
open PySem PySem.Spec PyProof.Rows L2
theorem cr_isqrt {X : Cx} : CallR X (.builtin "math.isqrt") (fun vs H Q => ∃ a : Int, vs = [.int a] ∧ 0 ≤ a ∧ a < 2 ^ 64 ∧ Q (.int ((Float64.isqrt a.toNat : Nat) : Int)) H) := by
  intro pins s σ H vs us Q I r h
  obtain ⟨a, rfl, h0, h1, q⟩ := h
  cases r with
  | cons r1 r2 =>
  cases r2
  obtain ⟨t, rfl⟩ := r1
  exact PySem.W.mg_isqrt h0 h1 ⟨.int _, H, I.tok _, ⟨_, rfl⟩, q⟩
def inn (c l s : Int) : Int := l * l - 4 * s * c
def wid (c l s : Int) : Int := ((Float64.isqrt (inn c l s).toNat : Nat) : Int)
/-- what whole_roots tells -/
def wr1 (s t : Int) : List Int := if t % (2 * s) = 0 then [t.fdiv (2 * s)] else []
def wrL (c l s : Int) : List Int := if inn c l s < 0 then [] else if ¬ wid c l s * wid c l s = inn c l s then [] else wr1 s (wid c l s - l) ++ wr1 s (-(wid c l s) - l)
def okWr (c l s : Int) : Bool := smI 4000 c && smI 4000 l && smI 4000 s && decide (inn c l s < 2 ^ 64) && (decide (inn c l s < 0) || (smI 4000 (wid c l s) && (!decide (wid c l s * wid c l s = inn c l s) || !decide (s = 0))))
theorem fm0 (z d : Int) : z.fmod d = 0 ↔ z % d = 0 := by
  rw [← Int.dvd_iff_emod_eq_zero, ← Int.dvd_iff_fmod_eq_zero]
section
variable {P : Program} {w : World} {K : PySem.W.Frag} {mg : Str → Option Value} {base : Heap}
abbrev nWr : List Str := ["constant", "linear", "square", "inner", "width", "tops", "top"]
theorem g59 : FnScope nWr ["constant", "linear", "square"] (defScope (top 55)) := (⟨rfl, rfl, rfl, by decide +kernel, rfl, by decide +kernel, by decide +kernel⟩)
abbrev spWrG : Sp := Prm (α := Int × Int × Int) (fun ⟨c, l, s⟩ => [.int c, .int l, .int s]) (fun ⟨c, l, s⟩ H => okWr c l s = true) (fun ⟨c, l, s⟩ H v H' => ∃ q, v = .ref q ∧ LI H' q (wrL c l s))
theorem c_wrG (D : Df K mg "whole_roots" (top 55)) (B : Bl mg) (iq : mg "isqrt" = some (.builtin "math.isqrt")) : Cal P w K mg base 1 "whole_roots" ["constant", "linear", "square"] spWrG := by
  refine mkC D g59 (fun _ _ _ _ _ _ us hl => match us, hl with | [_, _, _], _ => rfl) (fun _ => rfl) (fun f cdv A outer s H a Q E hr ok k => ?_)
  obtain ⟨c, l, sq⟩ := a
  have ok : okWr c l sq = true := ok
  unfold okWr at ok
  simp only [Bool.and_eq_true, decide_eq_true_eq] at ok
  obtain ⟨⟨⟨⟨oc, ol⟩, os⟩, oi⟩, or'⟩ := ok
  have sc := smI_ok (a := 4000) oc (by decide)
  have sl := smI_ok (a := 4000) ol (by decide)
  have ss := smI_ok (a := 4000) os (by decide)
  have k : ∀ v H', Same H H' → (∃ q, v = .ref q ∧ LI H' q (wrL c l sq)) → Q v H' := k
  refine ⟨_, pss_cons ((ps_set (i := 3) (FnScope.nd g59) rfl (Or.inl rfl) (pe_op op_sub (pe_op op_mulW (pv 1) (pv 1)) (pe_op op_mulW (pe_op op_mulW pe_int (pv 2)) (pv 0)))))
    (pss_cons (ps_if ((pt_cmpR op_lt (pv 3) pe_int (nomark _))) (pss_one (ps_ret (pe_lst pa_nil))) pss_nil)
    (pss_cons ((ps_set (i := 4) (FnScope.nd g59) rfl (Or.inl rfl) (pe_callBfun cr_isqrt (by rfl) iq (pa_cons (pv 3) pa_nil))))
    (pss_cons (ps_if ((pt_cmpR op_ne (pe_op op_mulW (pv 4) (pv 4)) (pv 3) (nomark _))) (pss_one (ps_ret (pe_lst pa_nil))) pss_nil)
    (pss_cons ((ps_set (i := 5) (FnScope.nd g59) rfl (Or.inl rfl) (pe_tup (pa_cons (pe_op op_sub (pv 4) (pv 1)) (pa_cons (pe_op op_sub (pe_un un_neg (pv 4)) (pv 1)) pa_nil)))))
    (pss_one (ps_ret (pe_lc (own := [("top", 6)]) (g := gName 6) (tt := tTest (tOp rEq (tOp (rI (fun _ j => j ≠ 0) fun i j => .int (i.fmod j)) (tVar 6) (tOp (rI CMulW fun i j => .int (i * j)) (tC (.int 2)) (tVar 2))) (tC (.int 0)))) (te := tOp (rI CDivX fun i j => .int (i.fdiv j)) (tVar 6) (tOp (rI CMulW fun i j => .int (i * j)) (tC (.int 2)) (tVar 2))) rfl g59.nd
      (pi_tup (pv 5))
      (blkOk_by (N := nWr) (sc := defScope (top 55)) (by decide +kernel)) (fun _ _ _ _ _ => (pg_name (i := 6) (FnScope.nd g59) rfl (Or.inl rfl))) (fun _ _ _ _ _ => pts_one ((pt_cmpR op_eq (pe_op op_modN (pv 6) (pe_op op_mulW pe_int (pv 2))) pe_int (nomark _))))
      (fun _ _ _ _ _ => pe_op op_fdivX (pv 6) (pe_op op_mulW pe_int (pv 2)))))))))), ?_⟩
  have c4 : CMulW 4 sq := cm (a := 4) (by decide) ss
  have s4 : Sm 4004 (4 * sq) := sm_mul (a := 4) (by decide) ss
  have c2 : CMulW 2 sq := cm (a := 4) (by decide) ss
  have nil : ∀ {H' : Hp}, Same H H' → wrL c l sq = [] → ∀ q, H' q = none → Q (.ref q) (upd H' q (.lst [])) := fun {H'} s1 e q hq => by
    refine k _ _ (Same.new s1 hq) ⟨q, rfl, ?_⟩
    rw [e]
    exact upd_same
  refine ⟨_, rfl, _, rfl, _, _, rfl, rfl, cm sl sl, _, rfl, _, _, rfl, rfl, c4, _, rfl, _, _, rfl, rfl, cm s4 sc, _, _, rfl, rfl, ?_⟩
  refine ⟨_, rfl, _, _, rfl, rfl, _, rfl, ?_⟩
  by_cases h0 : inn c l sq < 0
  · rw [decide_eq_true (show (l * l - 4 * sq * c) < 0 from h0)]
    refine iteT ⟨by decide, fun q hq => nil (Same.refl _) ?_ q hq⟩
    unfold wrL
    rw [if_pos h0]
  rw [decide_eq_false (show ¬ (l * l - 4 * sq * c) < 0 from h0)]
  rw [decide_eq_false h0, Bool.false_or] at or'
  obtain ⟨ow, or2⟩ := Bool.and_eq_true_iff.mp or'
  have sw := smI_ok (a := 4000) ow (by decide)
  refine iteF ⟨_, rfl, _, rfl, (by show (0 : Int) ≤ inn c l sq; omega), oi, ?_⟩
  show tSeq _ _ _ [some (.int c), some (.int l), some (.int sq), some (.int (inn c l sq)), some (.int (wid c l sq)), none, none] H
  refine ⟨_, rfl, _, rfl, _, _, rfl, rfl, cm sw sw, _, rfl, rfl, _, rfl, ?_⟩
  by_cases h1 : wid c l sq * wid c l sq = inn c l sq
  · rw [decide_eq_true h1, Bool.not_true, Bool.false_or] at or2
    have hs : ¬ sq = 0 := by
      rw [Bool.not_eq_true'] at or2
      exact of_decide_eq_false or2
    rw [decide_eq_true (show V.int (wid c l sq * wid c l sq) = V.int (inn c l sq) by rw [h1])]
    refine iteF ⟨_, rfl, _, rfl, _, _, rfl, rfl, _, rfl, _, rfl, _, rfl, _, _, rfl, rfl, (by show 2 ≤ sizeLine; decide), fun t ht => ?_⟩
    have s1 := same_new (o := .tup [.int (wid c l sq - l), .int (-(wid c l sq) - l)]) ht
    have h10 : upd H t (.tup [.int (wid c l sq - l), .int (-(wid c l sq) - l)]) t = some (.tup ([wid c l sq - l, -(wid c l sq) - l].map V.int)) := upd_same
    generalize upd H t (.tup [.int (wid c l sq - l), .int (-(wid c l sq) - l)]) = H1 at *
    have ew : wrL c l sq = wr1 sq (wid c l sq - l) ++ wr1 sq (-(wid c l sq) - l) := by
      unfold wrL
      rw [if_neg h0, if_neg (fun z => z h1)]
    have dz : CDivX 0 (2 * sq) := ⟨by omega, Nat.lt_of_lt_of_le (log_lt (sm_mul (a := 4) (i := 2) (by decide) ss) (by decide)) (by decide)⟩
    refine ⟨_, rfl, t, rfl, ⟨_, SqT.of h10⟩, fun D hD => lc_tup (xs := [wid c l sq - l, -(wid c l sq) - l].map V.int) (fun i H' => Same H1 H' ∧ H' D = some (.lst ((([wid c l sq - l, -(wid c l sq) - l].take i).flatMap (wr1 sq)).map V.int))) ⟨same_new hD, upd_same⟩ (fun i H' _ e => SqT.of (e.1 _ _ h10)) (fun i x H' hx e => ?_) (fun H' e => ?_)⟩
    · obtain ⟨s2, e2⟩ := e
      obtain ⟨z, hz, rfl⟩ := at_map hx
      have li := lt_of_at hz
      have tk : (([wid c l sq - l, -(wid c l sq) - l].take (i + 1)).flatMap (wr1 sq)) = (([wid c l sq - l, -(wid c l sq) - l].take i).flatMap (wr1 sq)) ++ wr1 sq z := by
        rw [List.take_succ, hz, List.flatMap_append]
        simp
      have ll : ((([wid c l sq - l, -(wid c l sq) - l].take i).flatMap (wr1 sq)).map V.int).length ≤ 2 := by
        rw [List.length_map]
        have h1 : ∀ t, (wr1 sq t).length ≤ 1 := fun t => by unfold wr1; split <;> simp
        have := h1 (wid c l sq - l)
        have := h1 (-(wid c l sq) - l)
        match i, li with
        | 0, _ => simp
        | 1, _ => simp; omega
      refine ⟨rfl, ?_⟩
      refine ⟨_, rfl, _, rfl, _, _, rfl, rfl, c2, _, _, rfl, rfl, (by show 2 * sq ≠ 0; omega), rfl, _, rfl, ?_⟩
      by_cases hm : z % (2 * sq) = 0
      · rw [decide_eq_true (show V.int (z.fmod (2 * sq)) = V.int 0 by rw [(fm0 _ _).mpr hm])]
        refine iteT ⟨_, rfl, _, rfl, _, _, rfl, rfl, c2, _, _, rfl, rfl, dz, _, e2, Nat.lt_of_le_of_lt ll (by decide), Same.put s2 hD, ?_⟩
        rw [upd_same, tk, List.map_append]
        unfold wr1
        rw [if_pos hm]
        rfl
      · rw [decide_eq_false (show ¬ V.int (z.fmod (2 * sq)) = V.int 0 from fun q => hm ((fm0 _ _).mp (V.int.inj q)))]
        refine iteF ⟨s2, ?_⟩
        rw [e2, tk]
        unfold wr1
        rw [if_neg hm, List.append_nil]
    · obtain ⟨s2, e2⟩ := e
      refine k _ _ (s1.trans s2) ⟨D, rfl, ?_⟩
      rw [ew]
      have e3 := e2
      rw [List.length_map, List.take_length] at e3
      show H' D = _
      rw [e3]
      simp
  · rw [decide_eq_false (show ¬ V.int (wid c l sq * wid c l sq) = V.int (inn c l sq) from fun q => h1 (V.int.inj q))]
    refine iteT ⟨by decide, fun q hq => nil (Same.refl _) ?_ q hq⟩
    unfold wrL
    rw [if_neg h0, if_pos h1]
end
end Xq

/-! divided, where it tells None. -/
namespace Xq
open PySem PySem.Spec PySem.Calls PyProof.Rows L2
theorem truth_ints {prog : Program} {w : World} {A : Around} {ns : List Int} {its : List Value} (r : Vals (ns.map V.int) its) :
    TruthOf prog w A (fun i v => its.toArray[i]? = some v) (fun i => ns.getD i 0 != 0) := fun i v s Q E hv hq => by
  have hv' : its[i]? = some v := by simpa using hv
  have hl := r.length
  rw [List.length_map] at hl
  have hi : i < its.length := by
    rcases Nat.lt_or_ge i its.length with q | q
    · exact q
    · rw [List.getElem?_eq_none q] at hv'
      cases hv'
  obtain ⟨u, hu, ru⟩ := r.get (i := i) (x := V.int (ns.getD i 0)) (by
    have hi2 : i < ns.length := by omega
    rw [List.getElem?_map, List.getElem?_eq_getElem hi2, List.getD_eq_getElem?_getD, List.getElem?_eq_getElem hi2]
    rfl)
  rw [hv'] at hu
  cases hu
  obtain ⟨t, rfl⟩ := ru
  exact PyProof.Rows.truthy_int hq
theorem any_rangeI : ∀ ns : List Int, (List.range ns.length).any (fun i => ns.getD i 0 != 0) = ns.any fun x => x != 0
  | [] => rfl
  | b :: bs => by
    rw [List.length_cons, List.range_succ_eq_map, List.any_cons, List.any_map, List.any_cons, ← any_rangeI bs]
    all_goals rfl
/-- any, of ints -/
theorem cr_anyI {X : Cx} (hc : X.calm = true) : CallR X (.builtin "any") (fun vs H Q => ∃ (a : Addr) (ns : List Int), vs = [V.ref a] ∧ SqL X.K H a (ns.map V.int) ∧ Q (.bl (ns.any fun x => x != 0)) H) := by
  intro pins s σ H vs us Q I r h
  obtain ⟨a, ns, rfl, hs, q⟩ := h
  obtain ⟨its, rv, hl, _⟩ := I.list hs
  rw [Vals.ref1 r]
  have hb := rv.length
  rw [List.length_map] at hb
  refine call_any_walk (iter_any hl.isList fun s₂ e2 st hne => ?_)
  subst e2
  refine ⟨_, _, _, _, _, _, _, rfl, Walks.list (A := X.A.in1) (I.ok.hd hc) _ a hne its.toArray, st, truth_ints rv, fun h' tk hk => ?_⟩
  refine ⟨.bl _, H, I.kept fun b o eo => hk b o (fun hmem => ?_) (Heap.get?_push_of_some _ eo), ?_, q⟩
  · rcases List.mem_cons.mp hmem with e1 | hmem
    · exact absurd (e1 ▸ Heap.lt_size eo) (Nat.lt_irrefl _)
    · cases hmem
  · show Value.bool _ = Value.bool _
    rw [← any_rangeI, List.size_toArray, hb]
end Xq

/-! divided, where it tells None. -/
namespace Xq
open PySem PySem.Spec PySem.Calls PyProof.Rows L2
def qD (ys rest : List Int) : Int := rest.getLastD 0 / ys.getLastD 0
def nxD (ys rest : List Int) : List Int := (stG (fun o t => o - qD ys rest * t) ys (rest.length - ys.length) rest ys.length).dropLast
/-- so many turns, and None at the end -/
def divN (ys : List Int) : Nat → List Int → Bool
  | 0, rest => decide (rest.length < ys.length) && rest.any fun x => x != 0
  | n + 1, rest => (decide (rest.length < ys.length) && rest.any fun x => x != 0) ||
      (decide (ys.length ≤ rest.length) && smB 4000 rest && decide (rest.length ≤ 1000) && smI 4000 (qD ys rest) && (!decide (rest.getLastD 0 % ys.getLastD 0 = 0) || divN ys n (nxD ys rest)))
def okDv (xs ys : List Int) : Bool := decide (0 < ys.getLastD 0) && decide (1 ≤ ys.length) && decide (ys.length ≤ 1000) && smB 4000 ys && divN ys 20 xs
section
variable {P : Program} {w : World} {K : PySem.W.Frag} {mg : Str → Option Value} {base : Heap}
abbrev nDv : List Str := ["one", "other", "rest", "found", "factor", "left", "shift", "at", "term"]
theorem g37 : FnScope nDv ["one", "other"] (defScope (top 33)) := (⟨rfl, rfl, rfl, by decide +kernel, rfl, by decide +kernel, by decide +kernel⟩)
abbrev spDvG : Sp := Prm (α := Addr × Addr × List Int × List Int) (fun ⟨p, q, xs, ys⟩ => [.ref p, .ref q]) (fun ⟨p, q, xs, ys⟩ H => TI H p xs ∧ TI H q ys ∧ okDv xs ys = true) (fun ⟨p, q, xs, ys⟩ H v H' => v = .non)
theorem c_dvG (D : Df K mg "divided" (top 33)) (B : Bl mg) (wl : mg "list" = none) (wa : mg "any" = none) : Cal P w K mg base 1 "divided" ["one", "other"] spDvG := by
  refine mkC D g37 (fun _ _ _ _ _ _ us hl => match us, hl with | [_, _], _ => rfl) (fun _ => rfl) (fun f cdv A outer s H a Q E hr h k => ?_)
  obtain ⟨p, q, xs, ys⟩ := a
  obtain ⟨h1, h2, ok⟩ := h
  have h10 : H p = some (.tup (xs.map V.int)) := h1
  have h20 : H q = some (.tup (ys.map V.int)) := h2
  have k : ∀ v H', Same H H' → v = .non → Q v H' := k
  have ok : okDv xs ys = true := ok
  unfold okDv at ok
  simp only [Bool.and_eq_true, decide_eq_true_eq] at ok
  obtain ⟨⟨⟨⟨b0, b1⟩, b2⟩, b3⟩, b4⟩ := ok
  have sy := smB_ok (a := 400000) b3 (by decide)
  refine ⟨_, pss_cons (ps_par (i := 2) (j := 3) rfl g37.nd rfl rfl (by decide) rfl rfl (pa_cons (pe_callTy call_list_of (by rfl) wl PyProof.Rows.boot_list (pa_cons (pv 0) pa_nil)) (pa_cons (pe_lst pa_nil) pa_nil)) rfl)
    (pss_cons (ps_whI PassesOwn.never ((pt_cmpR op_ge ((pe_callB call_len_seq (by rfl) (Bl.len_ B) PySem.boot_len (pa_cons (pv 2) pa_nil))) ((pe_callB call_len_seq (by rfl) (Bl.len_ B) PySem.boot_len (pa_cons (pv 1) pa_nil))) (nomark _)))
      (pss_cons (ps_asg (pe_callB call_divmodW (by rfl) B.divmod_ PyProof.Rows.boot_divmod (pa_cons ((pe_ix ix_list (pv 2) (pe_un un_neg pe_int) (fun _ _ => rfl))) (pa_cons ((pe_ix ix_tup (pv 1) (pe_un un_neg pe_int) (fun _ _ => rfl))) pa_nil))) (pg_tup rfl (pgs_cons ((pg_name (i := 4) (FnScope.nd g37) rfl (Or.inl rfl))) (pgs_cons ((pg_name (i := 5) (FnScope.nd g37) rfl (Or.inl rfl))) pgs_nil))))
      (pss_cons (ps_if ((pt_cmpR op_ne (pv 5) pe_int (nomark _))) (pss_one (ps_ret pe_non)) pss_nil)
      (pss_cons (ps_expr (pe_bm PySem.F.plainAttrs_list PySem.F.slot_list_append PySem.F.type_list_append mt_append (pv 3) (pa_cons (pv 4) pa_nil)))
      (pss_cons ((ps_set (i := 6) (FnScope.nd g37) rfl (Or.inl rfl) (pe_op op_sub ((pe_callB call_len_seq (by rfl) (Bl.len_ B) PySem.boot_len (pa_cons (pv 2) pa_nil))) ((pe_callB call_len_seq (by rfl) (Bl.len_ B) PySem.boot_len (pa_cons (pv 1) pa_nil))))))
      (pss_cons (ps_for PassesOwn.never rfl (pi_enumT (by rfl) B.enumerate_ (pa_cons (pv 1) pa_nil)) (pg_tup rfl (pgs_cons ((pg_name (i := 7) (FnScope.nd g37) rfl (Or.inl rfl))) (pgs_cons ((pg_name (i := 8) (FnScope.nd g37) rfl (Or.inl rfl))) pgs_nil)))
        (pss_one (ps_augS (pv 2) (pe_op op_add (pv 6) (pv 7)) get_list (pe_op op_mulW (pv 4) (pv 8)) ip_sub set_list)))
      (pss_one (ps_expr (pe_bm0 PySem.F.plainAttrs_list PySem.F.slot_list_pop PySem.F.type_list_pop mt_pop (pv 2))))))))))
    (pss_cons (ps_if (pt_val (pe_callB (cr_anyI rfl) (by rfl) wa PyProof.Rows.boot_any (pa_cons (pv 2) pa_nil))) (pss_one (ps_ret pe_non)) pss_nil)
    (pss_one (ps_ret (pe_callTy call_tuple_of (by rfl) B.tuple_ PyProof.Rows.boot_tuple (pa_cons (pe_revG (pv 3)) pa_nil)))))), ?_⟩
  refine ⟨_, rfl, p, _, rfl, .inr (SqT.of h10), fun r hr0 => ⟨by decide, fun fd hfd => ⟨_, _, rfl, ?_⟩⟩⟩
  have s1 := same_new (o := .lst (xs.map V.int)) hr0
  have s2 := Same.new (o := .lst []) s1 hfd
  have nf : r ≠ fd := fun e => by rw [← e, upd_same] at hfd; cases hfd
  have f0 : H fd = none := new_of s1 hfd
  have r0 : H r = none := hr0
  have er : upd (upd H r (.lst (xs.map V.int))) fd (.lst []) r = some (.lst (xs.map V.int)) := by
    rw [upd_ne nf]
    exact upd_same
  have ef : upd (upd H r (.lst (xs.map V.int))) fd (.lst []) fd = some (.lst (([] : List Int).map V.int)) := upd_same
  generalize upd (upd H r (.lst (xs.map V.int))) fd (.lst []) = H0 at *
  show tSeq _ _ _ [some (.ref p), some (.ref q), some (.ref r), some (.ref fd), none, none, none, none, none] H0
  refine ⟨fun m σ H' => ∃ (rs fs : List Int) (z4 z5 z6 z7 z8 : Option V), σ = [some (.ref p), some (.ref q), some (.ref r), some (.ref fd), z4, z5, z6, z7, z8] ∧ Same H H' ∧ H' r = some (.lst (rs.map V.int)) ∧ H' fd = some (.lst (fs.map V.int)) ∧ divN ys m rs = true ∧ fs.length + m ≤ 20, ⟨20, xs, [], none, none, none, none, none, rfl, s2, er, ef, b4, by decide⟩, ?_⟩
  rintro m σ H1 ⟨rs, fs, z4, z5, z6, z7, z8, rfl, s3, e1, e2, ok1, lf⟩
  have h21 := s3 _ _ h20
  have lr' : (rs.map V.int).length = rs.length := List.length_map ..
  have ly' : (ys.map V.int).length = ys.length := List.length_map ..
  refine ⟨_, rfl, r, _, rfl, .inl (SqL.of e1), _, rfl, q, _, rfl, .inr (SqT.of h21), _, _, rfl, rfl, _, rfl, ?_⟩
  by_cases hlt : rs.length < ys.length
  · rw [decide_eq_false (show ¬ ((((rs.map V.int).length : Nat) : Int) ≥ (((ys.map V.int).length : Nat) : Int)) by rw [lr', ly']; omega)]
    have an : (rs.any fun x => x != 0) = true := by
      cases m with
      | zero => exact (Bool.and_eq_true_iff.mp ok1).2
      | succ m =>
        rcases Bool.or_eq_true_iff.mp ok1 with z | z
        · exact (Bool.and_eq_true_iff.mp z).2
        · have z1 := (Bool.and_eq_true_iff.mp (Bool.and_eq_true_iff.mp (Bool.and_eq_true_iff.mp (Bool.and_eq_true_iff.mp z).1).1).1).1
          exact absurd (of_decide_eq_true z1) (by omega)
    refine iteF ⟨_, rfl, r, rs, rfl, SqL.of e1, _, rfl, ?_⟩
    rw [an]
    exact iteT (k _ _ s3 rfl)
  · rw [decide_eq_true (show ((((rs.map V.int).length : Nat) : Int) ≥ (((ys.map V.int).length : Nat) : Int)) by rw [lr', ly']; omega)]
    cases m with
    | zero => exact absurd (of_decide_eq_true (Bool.and_eq_true_iff.mp ok1).1) hlt
    | succ m =>
      have z : (decide (ys.length ≤ rs.length) && smB 4000 rs && decide (rs.length ≤ 1000) && smI 4000 (qD ys rs) && (!decide (rs.getLastD 0 % ys.getLastD 0 = 0) || divN ys m (nxD ys rs))) = true := by
        rcases Bool.or_eq_true_iff.mp ok1 with z | z
        · exact absurd (of_decide_eq_true (Bool.and_eq_true_iff.mp z).1) hlt
        · exact z
      obtain ⟨z, z5⟩ := Bool.and_eq_true_iff.mp z
      obtain ⟨z, z4⟩ := Bool.and_eq_true_iff.mp z
      obtain ⟨z, z3⟩ := Bool.and_eq_true_iff.mp z
      obtain ⟨z1, z2⟩ := Bool.and_eq_true_iff.mp z
      have lx : rs.length ≤ 1000 := of_decide_eq_true z3
      have sr := smB_ok (a := 4000) z2 (by decide)
      have sq := smI_ok (a := 400000) z4 (by decide)
      have l1 : 1 ≤ rs.length := by omega
      have dp : CDivP (rs.getLastD 0) (ys.getLastD 0) := divp_ok b0 (Nat.le_trans (PyProof.Rows.intBits_le (sr _ (last_mem l1))) (by omega))
      refine iteT ⟨_, rfl, _, rfl, r, _, _, _, rfl, rfl, SqL.of e1, at_lastD l1, _, rfl, _, rfl, q, _, _, _, rfl, rfl, SqT.of h21, at_lastD b1, _, _, rfl, dp, fun t ht => ?_⟩
      have t1 := same_new (o := .tup [.int (rs.getLastD 0 / ys.getLastD 0), .int (rs.getLastD 0 % ys.getLastD 0)]) ht
      have nt1 : r ≠ t := ne_of_none e1 ht
      have nt2 : fd ≠ t := ne_of_none e2 ht
      have s4 := s3.trans t1
      have e3 := (upd_ne (o := .tup [.int (rs.getLastD 0 / ys.getLastD 0), .int (rs.getLastD 0 % ys.getLastD 0)]) (H := H1) nt1).trans e1
      have e4 := (upd_ne (o := .tup [.int (rs.getLastD 0 / ys.getLastD 0), .int (rs.getLastD 0 % ys.getLastD 0)]) (H := H1) nt2).trans e2
      refine ⟨t, _, rfl, SqT.of upd_same, rfl, _, _, rfl, _, _, rfl, rfl, ?_⟩
      generalize upd H1 t (.tup [.int (rs.getLastD 0 / ys.getLastD 0), .int (rs.getLastD 0 % ys.getLastD 0)]) = H2 at *
      refine ⟨_, rfl, rfl, _, rfl, ?_⟩
      by_cases hz : rs.getLastD 0 % ys.getLastD 0 = 0
      · rw [decide_eq_true (show V.int (rs.getLastD 0 % ys.getLastD 0) = V.int 0 by rw [hz])]
        have okn : divN ys m (nxD ys rs) = true := by
          rw [decide_eq_true hz] at z5
          exact z5
        have n3 : fd ≠ r := fun e => nf e.symm
        refine iteF ⟨_, rfl, .inl ⟨rfl, _, SqL.of e4⟩, _, rfl, fd, _, _, rfl, rfl, e4, ?_, ?_⟩
        · rw [List.length_map]
          exact Nat.lt_of_le_of_lt (show fs.length ≤ 20 by omega) (by decide)
        have s5 : Same H (upd H2 fd (.lst (fs.map V.int ++ [V.int (rs.getLastD 0 / ys.getLastD 0)]))) := Same.put s4 f0
        have e5 : upd H2 fd (.lst (fs.map V.int ++ [V.int (rs.getLastD 0 / ys.getLastD 0)])) r = some (.lst (rs.map V.int)) := by
          rw [upd_ne nf]
          exact e3
        have e6 : upd H2 fd (.lst (fs.map V.int ++ [V.int (rs.getLastD 0 / ys.getLastD 0)])) fd = some (.lst ((fs ++ [rs.getLastD 0 / ys.getLastD 0]).map V.int)) := by
          rw [upd_same, List.map_append]
          rfl
        generalize upd H2 fd (.lst (fs.map V.int ++ [V.int (rs.getLastD 0 / ys.getLastD 0)])) = H3 at *
        have h23 := s5 _ _ h20
        refine ⟨_, rfl, r, _, rfl, .inl (SqL.of e5), _, rfl, q, _, rfl, .inr (SqT.of h23), _, _, rfl, rfl, ?_⟩
        have en : ((((rs.map V.int).length : Nat) : Int) - (((ys.map V.int).length : Nat) : Int)) = ((rs.length - ys.length : Nat) : Int) := by
          rw [lr', ly']
          omega
        show (tSeq _ _) _ [some (.ref p), some (.ref q), some (.ref r), some (.ref fd), some (.int (qD ys rs)), some (.int (rs.getLastD 0 % ys.getLastD 0)), some (.int ((((rs.map V.int).length : Nat) : Int) - (((ys.map V.int).length : Nat) : Int))), z7, z8] H3
        rw [en]
        refine ⟨_, rfl, q, _, rfl, SqT.of h23, for_enum (xs := ys.map V.int) (fun i σ H' => Same H H' ∧ H' r = some (.lst ((stG (fun o t => o - qD ys rs * t) ys (rs.length - ys.length) rs i).map V.int)) ∧ H' fd = some (.lst ((fs ++ [qD ys rs]).map V.int)) ∧ ∃ y z : Option V, σ = [some (.ref p), some (.ref q), some (.ref r), some (.ref fd), some (.int (qD ys rs)), some (.int (rs.getLastD 0 % ys.getLastD 0)), some (.int ((rs.length - ys.length : Nat) : Int)), y, z]) ⟨s5, e5, e6, _, _, rfl⟩ (fun i σ H' _ e => SqT.of (e.1 _ _ h20)) ?_ ?_⟩
        · rintro i x σ H4 hx ⟨s6, e7, e8, y, z, rfl⟩ T hT
          obtain ⟨b, hb, rfl⟩ := at_map hx
          have hi := lt_of_at hb
          have s7 := Same.new (o := .tup [.int (i : Nat), .int b]) s6 hT
          have nT : r ≠ T := ne_of_none e7 hT
          have nT2 : fd ≠ T := ne_of_none e8 hT
          have e9 : upd H4 T (.tup [.int (i : Nat), .int b]) r = _ := (upd_ne nT).trans e7
          have e10 : upd H4 T (.tup [.int (i : Nat), .int b]) fd = _ := (upd_ne nT2).trans e8
          have li : i + (rs.length - ys.length) < (stG (fun o t => o - qD ys rs * t) ys (rs.length - ys.length) rs i).length := by
            rw [stG_len]
            omega
          have ei : (((rs.length - ys.length : Nat) : Int) + (i : Int)) = ((i + (rs.length - ys.length) : Nat) : Int) := by omega
          refine ⟨T, _, rfl, SqT.of upd_same, rfl, _, _, rfl, _, _, rfl, rfl, _, rfl, _, rfl, _, rfl, _, _, rfl, rfl, r, _, _, V.int ((stG (fun o t => o - qD ys rs * t) ys (rs.length - ys.length) rs i).getD (i + (rs.length - ys.length)) 0), rfl, rfl, SqL.of e9, by rw [ei]; exact atI_nat (getD_map li), ?_⟩
          refine ⟨_, rfl, _, rfl, _, _, rfl, rfl, cm sq (sy b (List.mem_of_getElem? hb)), _, _, rfl, rfl, r, _, _, i + (rs.length - ys.length), rfl, rfl, e9, by rw [ei]; exact ixN_nat (by rw [List.length_map]; exact li), ?_⟩
          refine ⟨Same.put s7 r0, ?_, ?_, _, _, rfl⟩
          · rw [upd_same, set_map]
            show some (HO.lst _) = some (HO.lst (List.map V.int (List.set _ _ _)))
            rw [getD_of hb]
          · rw [upd_ne n3]
            exact e10
        · rintro σ H4 ⟨s6, e7, e8, y, z, rfl⟩
          rw [ly'] at e7
          refine ⟨_, rfl, .inl ⟨rfl, _, SqL.of e7⟩, r, _, V.int ((stG (fun o t => o - qD ys rs * t) ys (rs.length - ys.length) rs ys.length).getD (rs.length - 1) 0), rfl, rfl, e7, ?_, ?_⟩
          · rw [List.length_map, stG_len]
            exact getD_map (by rw [stG_len]; omega)
          · refine ⟨m, Nat.lt_succ_self m, nxD ys rs, fs ++ [qD ys rs], _, _, _, _, _, rfl, Same.put s6 r0, ?_, ?_, okn, ?_⟩
            · rw [upd_same, ← List.map_dropLast]
              rfl
            · rw [upd_ne n3]
              exact e8
            · rw [List.length_append, List.length_singleton]
              omega
      · rw [decide_eq_false (show ¬ V.int (rs.getLastD 0 % ys.getLastD 0) = V.int 0 from fun q => hz (V.int.inj q))]
        exact iteT (k _ _ s4 rfl)
end
end Xq

/-! middles; quadratic_factor, where there is none. -/
namespace Xq
open PySem PySem.Spec PyProof.Rows L2
def mLo (xs : List Int) (f : Int) : Int := (xs.getD 0 0).fdiv f
def mHi (xs : List Int) (l : Int) : Int := (xs.getLastD 0).fdiv l
/-- what middles tells -/
def midL (xs : List Int) (f l : Int) : List Int :=
  if xs.length = 5 then wrL (f * (xs.getD 2 0 - f * mHi xs l - l * mLo xs f)) (-(xs.getD 1 0)) (mLo xs f)
  else wrL (f * (l * (xs.getD 2 0 - l * mLo xs f) - f * xs.getD 4 0)) (f * f * mHi xs l - l * xs.getD 1 0) (l * mLo xs f)
def okMid (xs : List Int) (f l : Int) : Bool :=
  decide (5 ≤ xs.length) && decide (xs.length ≤ 1000) && smB 4000 xs && smI 4000 f && smI 4000 l && !decide (f = 0) && !decide (l = 0) && smI 4000 (mLo xs f) && smI 4000 (mHi xs l) &&
  if xs.length = 5 then smI 4000 (xs.getD 2 0 - f * mHi xs l - l * mLo xs f) && okWr (f * (xs.getD 2 0 - f * mHi xs l - l * mLo xs f)) (-(xs.getD 1 0)) (mLo xs f)
  else smI 4000 (xs.getD 2 0 - l * mLo xs f) && smI 4000 (l * (xs.getD 2 0 - l * mLo xs f) - f * xs.getD 4 0) && okWr (f * (l * (xs.getD 2 0 - l * mLo xs f) - f * xs.getD 4 0)) (f * f * mHi xs l - l * xs.getD 1 0) (l * mLo xs f)
/-- no factor of degree 2 -/
def okQu (xs : List Int) : Bool := decide (5 ≤ xs.length) && decide (xs.length ≤ 1000) && decide ((xs.getD 0 0).natAbs ≤ 1000) && decide ((xs.getLastD 0).natAbs ≤ 1000) &&
  (dvL (xs.getD 0 0)).all fun s => (dvL (xs.getLastD 0)).all fun l => [s, -s].all fun f => okMid xs f l && (midL xs f l).all fun m => okDv xs [f, m, l]
theorem divx_ok {i j : Int} (h : ¬ j = 0) (hs : Sm 4000 j) : CDivX i j := ⟨h, Nat.lt_of_lt_of_le (log_lt hs (by decide)) (by decide)⟩
theorem getD_sm {xs : List Int} {n i : Nat} (h : ∀ x ∈ xs, Sm n x) (hi : i < xs.length) : Sm n (xs.getD i 0) := by
  rw [List.getD_eq_getElem?_getD, List.getElem?_eq_getElem hi]
  exact h _ (List.getElem_mem hi)
section
variable {P : Program} {w : World} {K : PySem.W.Frag} {mg : Str → Option Value} {base : Heap}
abbrev nMi : List Str := ["terms", "first", "last", "lowest", "highest", "constant"]
theorem g58 : FnScope nMi ["terms", "first", "last"] (defScope (top 54)) := (⟨rfl, rfl, rfl, by decide +kernel, rfl, by decide +kernel, by decide +kernel⟩)
abbrev spMidG : Sp := Prm (α := Addr × List Int × Int × Int) (fun ⟨p, xs, f, l⟩ => [.ref p, .int f, .int l]) (fun ⟨p, xs, f, l⟩ H => TI H p xs ∧ okMid xs f l = true) (fun ⟨p, xs, f, l⟩ H v H' => ∃ q, v = .ref q ∧ LI H' q (midL xs f l))
theorem c_midG (D : Df K mg "middles" (top 54)) (B : Bl mg) (CW : Cal P w K mg base 1 "whole_roots" ["constant", "linear", "square"] spWrG) : Cal P w K mg base 2 "middles" ["terms", "first", "last"] spMidG := by
  refine mkC D g58 (fun _ _ _ _ _ _ us hl => match us, hl with | [_, _, _], _ => rfl) (fun _ => rfl) (fun f cdv A outer s H a Q E hr h k => ?_)
  obtain ⟨p, xs, c, l⟩ := a
  obtain ⟨h, ok⟩ := h
  have h0 : H p = some (.tup (xs.map V.int)) := h
  have k : ∀ v H', Same H H' → (∃ q, v = .ref q ∧ LI H' q (midL xs c l)) → Q v H' := k
  have ok : okMid xs c l = true := ok
  unfold okMid at ok
  simp only [Bool.and_eq_true, decide_eq_true_eq, Bool.not_eq_true', decide_eq_false_iff_not] at ok
  obtain ⟨⟨⟨⟨⟨⟨⟨⟨⟨l5, l1⟩, bx⟩, bc⟩, bl⟩, nc⟩, nl⟩, blo⟩, bhi⟩, ok⟩ := ok
  have sx := smB_ok (a := 4000) bx (by decide)
  have sc := smI_ok (a := 4000) bc (by decide)
  have sl := smI_ok (a := 4000) bl (by decide)
  have slo := smI_ok (a := 4000) blo (by decide)
  have shi := smI_ok (a := 4000) bhi (by decide)
  refine ⟨_, pss_cons (ps_par (i := 3) (j := 4) rfl g58.nd rfl rfl (by decide) rfl rfl (pa_cons (pe_op op_fdivX ((pe_ix ix_tup (pv 0) pe_int (fun _ _ => rfl))) (pv 1)) (pa_cons (pe_op op_fdivX ((pe_ix ix_tup (pv 0) (pe_un un_neg pe_int) (fun _ _ => rfl))) (pv 2)) pa_nil)) rfl)
    (pss_cons (ps_if ((pt_cmpR op_eq ((pe_callB call_len_seq (by rfl) (Bl.len_ B) PySem.boot_len (pa_cons (pv 0) pa_nil))) pe_int (nomark _)))
      (pss_cons ((ps_set (i := 5) (FnScope.nd g58) rfl (Or.inl rfl) (pe_op op_mulW (pv 1) (pe_op op_sub (pe_op op_sub ((pe_ix ix_tup (pv 0) pe_int (fun _ _ => rfl))) (pe_op op_mulW (pv 1) (pv 4))) (pe_op op_mulW (pv 2) (pv 3))))))
      (pss_one (ps_ret (pe_cl CW hr (pa_cons (pv 5) (pa_cons (pe_un un_neg ((pe_ix ix_tup (pv 0) pe_int (fun _ _ => rfl)))) (pa_cons (pv 3) pa_nil))))))) pss_nil)
    (pss_cons ((ps_set (i := 5) (FnScope.nd g58) rfl (Or.inl rfl) (pe_op op_mulW (pv 1) (pe_op op_sub (pe_op op_mulW (pv 2) (pe_op op_sub ((pe_ix ix_tup (pv 0) pe_int (fun _ _ => rfl))) (pe_op op_mulW (pv 2) (pv 3)))) (pe_op op_mulW (pv 1) ((pe_ix ix_tup (pv 0) pe_int (fun _ _ => rfl))))))))
    (pss_one (ps_ret (pe_cl CW hr (pa_cons (pv 5) (pa_cons (pe_op op_sub (pe_op op_mulW (pe_op op_mulW (pv 1) (pv 1)) (pv 4)) (pe_op op_mulW (pv 2) ((pe_ix ix_tup (pv 0) pe_int (fun _ _ => rfl))))) (pa_cons (pe_op op_mulW (pv 2) (pv 3)) pa_nil)))))))), ?_⟩
  refine ⟨_, rfl, p, _, _, _, rfl, rfl, SqT.of h0, atI_nat (j := 0) (getD_map (by omega)), _, rfl, _, _, rfl, rfl, divx_ok nc sc, ?_⟩
  refine ⟨_, rfl, _, rfl, p, _, _, _, rfl, rfl, SqT.of h0, at_lastD (by omega), _, rfl, _, _, rfl, rfl, divx_ok nl sl, _, _, rfl, ?_⟩
  show (tSeq _ _) _ [some (.ref p), some (.int c), some (.int l), some (.int (mLo xs c)), some (.int (mHi xs l)), none] H
  have lx' : (xs.map V.int).length = xs.length := List.length_map ..
  refine ⟨_, rfl, p, _, rfl, .inr (SqT.of h0), rfl, _, rfl, ?_⟩
  by_cases e5 : xs.length = 5
  · rw [if_pos e5] at ok
    rw [decide_eq_true (show V.int (((xs.map V.int).length : Nat) : Int) = V.int 5 by rw [lx', e5]; rfl)]
    obtain ⟨o1, o2⟩ := Bool.and_eq_true_iff.mp ok
    have s1 := smI_ok (a := 4000) o1 (by decide)
    refine iteT ?_
    refine ⟨_, rfl, _, rfl, p, _, _, _, rfl, rfl, SqT.of h0, atI_nat (j := 2) (getD_map (by omega)), _, rfl, _, rfl, _, _, rfl, rfl, cm sc shi, _, _, rfl, rfl, _, rfl, _, rfl, _, _, rfl, rfl, cm sl slo, _, _, rfl, rfl, _, _, rfl, rfl, cm sc s1, ?_⟩
    refine ⟨_, rfl, _, rfl, p, _, _, _, rfl, rfl, SqT.of h0, atI_nat (j := 1) (getD_map (by omega)), _, rfl, _, rfl, ?_⟩
    refine ⟨(_, _, _), rfl, o2, ?_⟩
    rintro _ H1 s1 ⟨q, rfl, hq⟩
    refine k _ _ s1 ⟨q, rfl, ?_⟩
    unfold midL
    rw [if_pos e5]
    exact hq
  · rw [if_neg e5] at ok
    rw [decide_eq_false (show ¬ V.int (((xs.map V.int).length : Nat) : Int) = V.int 5 from fun q => e5 (by have := V.int.inj q; rw [lx'] at this; omega))]
    obtain ⟨o, o3⟩ := Bool.and_eq_true_iff.mp ok
    obtain ⟨o1, o2⟩ := Bool.and_eq_true_iff.mp o
    have s1 := smI_ok (a := 4000) o1 (by decide)
    have s2 := smI_ok (a := 4000) o2 (by decide)
    refine iteF ?_
    have scc : Sm 8000 (c * c) := sm_mul sc sc
    refine ⟨_, rfl, _, rfl, _, rfl, p, _, _, _, rfl, rfl, SqT.of h0, atI_nat (j := 2) (getD_map (by omega)), _, rfl, _, rfl, _, _, rfl, rfl, cm sl slo, _, _, rfl, rfl, _, _, rfl, rfl, cm sl s1, ?_⟩
    refine ⟨_, rfl, _, rfl, p, _, _, _, rfl, rfl, SqT.of h0, atI_nat (j := 4) (getD_map (by omega)), _, _, rfl, rfl, cm sc (getD_sm sx (by omega)), _, _, rfl, rfl, _, _, rfl, rfl, cm sc s2, ?_⟩
    refine ⟨_, rfl, _, rfl, _, rfl, _, _, rfl, rfl, cm sc sc, _, rfl, _, _, rfl, rfl, cm scc shi, _, rfl, _, rfl, p, _, _, _, rfl, rfl, SqT.of h0, atI_nat (j := 1) (getD_map (by omega)), _, _, rfl, rfl, cm sl (getD_sm sx (by omega)), _, _, rfl, rfl, ?_⟩
    refine ⟨_, rfl, _, rfl, _, _, rfl, rfl, cm sl slo, ?_⟩
    refine ⟨(_, _, _), rfl, o3, ?_⟩
    rintro _ H1 s1 ⟨q, rfl, hq⟩
    refine k _ _ s1 ⟨q, rfl, ?_⟩
    unfold midL
    rw [if_neg e5]
    exact hq
abbrev nQu : List Str := ["terms", "lasts", "size", "last", "first", "middle", "factor"]
theorem g57 : FnScope nQu ["terms"] (defScope (top 53)) := (⟨rfl, rfl, rfl, by decide +kernel, rfl, by decide +kernel, by decide +kernel⟩)
abbrev spQuG : Sp := Prm (α := Addr × List Int) (fun a => [.ref a.1]) (fun a H => TI H a.1 a.2 ∧ okQu a.2 = true) (fun a H v H' => v = .non)
theorem c_quG (D : Df K mg "quadratic_factor" (top 53)) (B : Bl mg) (CD : Cal P w K mg base 1 "divisors" ["number"] spDivG) (CM : Cal P w K mg base 2 "middles" ["terms", "first", "last"] spMidG) (CV : Cal P w K mg base 1 "divided" ["one", "other"] spDvG) : Cal P w K mg base 3 "quadratic_factor" ["terms"] spQuG := by
  refine mkC D g57 (fun _ _ _ _ _ _ us hl => match us, hl with | [_], _ => rfl) (fun _ => rfl) (fun f cdv A outer s H a Q E hr h k => ?_)
  obtain ⟨p, xs⟩ := a
  obtain ⟨h, ok⟩ := h
  have h : TI H p xs := h
  have h0 : H p = some (.tup (xs.map V.int)) := h
  have k : ∀ v H', Same H H' → v = .non → Q v H' := k
  have ok : okQu xs = true := ok
  unfold okQu at ok
  simp only [Bool.and_eq_true, decide_eq_true_eq] at ok
  obtain ⟨⟨⟨⟨l5, l1⟩, d0⟩, dl⟩, al⟩ := ok
  refine ⟨_, pss_cons ((ps_set (i := 1) (FnScope.nd g57) rfl (Or.inl rfl) (pe_cl CD hr (pa_cons ((pe_ix ix_tup (pv 0) (pe_un un_neg pe_int) (fun _ _ => rfl))) pa_nil))))
    (pss_cons (ps_for PassesOwn.never rfl (pi_list (pe_cl CD hr (pa_cons ((pe_ix ix_tup (pv 0) pe_int (fun _ _ => rfl))) pa_nil))) ((pg_name (i := 2) (FnScope.nd g57) rfl (Or.inl rfl)))
      (pss_one (ps_for PassesOwn.never rfl (pi_list (pv 1)) ((pg_name (i := 3) (FnScope.nd g57) rfl (Or.inl rfl)))
        (pss_one (ps_for PassesOwn.never rfl (pi_tup (pe_tup (pa_cons (pv 2) (pa_cons (pe_un un_neg (pv 2)) pa_nil)))) ((pg_name (i := 4) (FnScope.nd g57) rfl (Or.inl rfl)))
          (pss_one (ps_for PassesOwn.never rfl (pi_list (pe_cl CM hr (pa_cons (pv 0) (pa_cons (pv 4) (pa_cons (pv 3) pa_nil))))) ((pg_name (i := 5) (FnScope.nd g57) rfl (Or.inl rfl)))
            (pss_cons ((ps_set (i := 6) (FnScope.nd g57) rfl (Or.inl rfl) (pe_tup (pa_cons (pv 4) (pa_cons (pv 5) (pa_cons (pv 3) pa_nil))))))
            (pss_one (ps_if (pt_cmpR op_notN (pe_cl CV hr (pa_cons (pv 0) (pa_cons (pv 6) pa_nil))) pe_non (nomark _)) pss_nv pss_nil))))))))))
    (pss_one (ps_ret pe_non))), ?_⟩
  refine ⟨_, rfl, _, rfl, p, _, _, _, rfl, rfl, SqT.of h0, at_lastD (by omega), xs.getLastD 0, rfl, dl, ?_⟩
  rintro _ H1 s1 ⟨bo, rfl, hbo⟩
  have hbo : H1 bo = some (.lst ((dvL (xs.getLastD 0)).map V.int)) := hbo
  have h1 := s1 _ _ h0
  refine ⟨_, rfl, p, _, _, _, rfl, rfl, SqT.of h1, atI_nat (j := 0) (getD_map (by omega)), xs.getD 0 0, rfl, d0, ?_⟩
  rintro _ H2 s2 ⟨to, rfl, hto⟩
  have hto : H2 to = some (.lst ((dvL (xs.getD 0 0)).map V.int)) := hto
  have hbo2 := s2 _ _ hbo
  have s12 := s1.trans s2
  refine ⟨to, rfl, ⟨_, SqL.of hto⟩, for_list (xs := (dvL (xs.getD 0 0)).map V.int) (fun i σ H' => Same H2 H' ∧ ∃ z2 z3 z4 z5 z6 : Option V, σ = [some (.ref p), some (.ref bo), z2, z3, z4, z5, z6]) ⟨Same.refl _, none, none, none, none, none, rfl⟩ (fun i σ H' _ e => SqL.of (e.1 _ _ hto)) ?_ ?_⟩
  · rintro i x σ H3 hx ⟨s3, z2, z3, z4, z5, z6, rfl⟩
    obtain ⟨t, ht, rfl⟩ := at_map hx
    have alt := List.all_eq_true.mp al t (List.mem_of_getElem? ht)
    have hbo3 := s3 _ _ hbo2
    refine ⟨_, rfl, bo, rfl, ⟨_, SqL.of hbo3⟩, for_list (xs := (dvL (xs.getLastD 0)).map V.int) (fun i σ H' => Same H2 H' ∧ ∃ z3 z4 z5 z6 : Option V, σ = [some (.ref p), some (.ref bo), some (.int t), z3, z4, z5, z6]) ⟨s3, z3, z4, z5, z6, rfl⟩ (fun i σ H' _ e => SqL.of (e.1 _ _ hbo2)) ?_ ?_⟩
    · rintro j y σ H4 hy ⟨s4, z3, z4, z5, z6, rfl⟩
      obtain ⟨b, hb, rfl⟩ := at_map hy
      have alb := List.all_eq_true.mp alt b (List.mem_of_getElem? hb)
      refine ⟨_, rfl, _, rfl, t, rfl, (by show 2 ≤ sizeLine; decide), fun a na => ?_⟩
      have t1 := same_new (o := .tup [.int t, .int (-t)]) na
      have ha : upd H4 a (.tup [.int t, .int (-t)]) a = some (.tup ([t, -t].map V.int)) := upd_same
      generalize upd H4 a (.tup [.int t, .int (-t)]) = H5 at *
      refine ⟨a, rfl, ⟨_, SqT.of ha⟩, for_tup (xs := [t, -t].map V.int) (fun i σ H' => Same H5 H' ∧ ∃ z4 z5 z6 : Option V, σ = [some (.ref p), some (.ref bo), some (.int t), some (.int b), z4, z5, z6]) ⟨Same.refl _, z4, z5, z6, rfl⟩ (fun i σ H' _ e => SqT.of (e.1 _ _ ha)) ?_ ?_⟩
      · rintro i2 x2 σ H6 hx2 ⟨s6, z4, z5, z6, rfl⟩
        obtain ⟨f1, hf1, rfl⟩ := at_map hx2
        have alf := List.all_eq_true.mp alb f1 (List.mem_of_getElem? hf1)
        obtain ⟨om, alm⟩ := Bool.and_eq_true_iff.mp alf
        have s7 : Same H H6 := s12.trans (s4.trans (t1.trans s6))
        refine ⟨_, rfl, _, rfl, _, rfl, (p, xs, f1, b), rfl, ⟨TI.same s7 h, om⟩, ?_⟩
        rintro _ H7 s8 ⟨mo, rfl, hmo⟩
        have hmo : H7 mo = some (.lst ((midL xs f1 b).map V.int)) := hmo
        refine ⟨mo, rfl, ⟨_, SqL.of hmo⟩, for_list (xs := (midL xs f1 b).map V.int) (fun i σ H' => Same H7 H' ∧ ∃ z5 z6 : Option V, σ = [some (.ref p), some (.ref bo), some (.int t), some (.int b), some (.int f1), z5, z6]) ⟨Same.refl _, z5, z6, rfl⟩ (fun i σ H' _ e => SqL.of (e.1 _ _ hmo)) ?_ ?_⟩
        · rintro i3 x3 σ H8 hx3 ⟨s9, z5, z6, rfl⟩
          obtain ⟨m1, hm1, rfl⟩ := at_map hx3
          have odv := List.all_eq_true.mp alm m1 (List.mem_of_getElem? hm1)
          refine ⟨_, rfl, _, rfl, _, rfl, (by show 3 ≤ sizeLine; decide), fun fa nfa => ?_⟩
          have u1 := same_new (o := .tup [.int f1, .int m1, .int b]) nfa
          have hfa : upd H8 fa (.tup [.int f1, .int m1, .int b]) fa = some (.tup ([f1, m1, b].map V.int)) := upd_same
          generalize upd H8 fa (.tup [.int f1, .int m1, .int b]) = H9 at *
          have s10 : Same H H9 := s7.trans (s8.trans (s9.trans u1))
          refine ⟨_, rfl, _, rfl, (p, fa, xs, [f1, m1, b]), rfl, ⟨TI.same s10 h, hfa, odv⟩, ?_⟩
          rintro _ HA sA rfl
          exact ⟨rfl, _, rfl, iteF ⟨s9.trans (u1.trans sA), _, _, rfl⟩⟩
        · rintro σ H8 ⟨s9, z5, z6, rfl⟩
          exact ⟨s6.trans (s8.trans s9), _, _, _, rfl⟩
      · rintro σ H6 ⟨s6, z4, z5, z6, rfl⟩
        exact ⟨s4.trans (t1.trans s6), _, _, _, _, rfl⟩
    · rintro σ H4 ⟨s4, z3, z4, z5, z6, rfl⟩
      exact ⟨s4, _, _, _, _, _, rfl⟩
  · rintro σ H3 ⟨s3, z2, z3, z4, z5, z6, rfl⟩
    exact k _ _ (s12.trans s3) rfl
end
end Xq

/-! wrong_term, least_factor, is_least of any equation. -/
namespace Xq
open PySem PySem.Spec PyProof.Rows L2
/-- an equation's terms -/
def okE (xs : List Int) : Bool := decide (2 ≤ xs.length) && decide (xs.length ≤ 6) && (xs.all fun x => decide (-1000 ≤ x) && decide (x ≤ 1000)) && !decide (xs.getLastD 0 = 0)
def okLf (xs : List Int) : Bool := decide (xs.length = 2) || (okLin xs && (decide (xs.length < 5) || okQu xs))
def okLe (xs : List Int) : Bool := decide (1 ≤ xs.length) && decide (xs.length ≤ 1000) && decide (0 ≤ xs.getLastD 0) && decide (gcdL xs = 1) && okLf xs && SeqAt.shaped (dT xs) && (dT xs).canLay0
section
variable {P : Program} {w : World} {K : PySem.W.Frag} {mg : Str → Option Value} {base : Heap}
abbrev spWrongG : Sp := Prm (α := Addr × List Int) (fun a => [.ref a.1]) (fun a H => TI H a.1 a.2 ∧ okE a.2 = true) (fun _ H v H' => v = .non)
theorem getD_last {xs : List Int} (h : 1 ≤ xs.length) : xs.getD (xs.length - 1) 0 = xs.getLastD 0 := by
  rcases List.eq_nil_or_concat xs with e | ⟨l, z, e⟩
  · rw [e] at h
    exact absurd h (by decide)
  · rw [e, List.concat_eq_append]
    simp
theorem c_wrongG (D : Df K mg "wrong_term" (top 22)) (B : Bl mg) (C : Cal P w K mg base 2 "is_term" ["value"] spIsTerm) : Cal P w K mg base 3 "wrong_term" ["equation"] spWrongG := by
  refine mkC D s22 (fun _ _ _ _ _ _ us hl => match us, hl with | [_], _ => rfl) (fun _ => rfl) (fun f cdv A outer s H a Q E hr h k => ?_)
  obtain ⟨p, xs⟩ := a
  obtain ⟨h, ok⟩ := h
  have k : ∀ v H', Same H H' → v = .non → Q v H' := k
  have h0 : H p = some (.tup (xs.map V.int)) := h
  have ok : okE xs = true := ok
  unfold okE at ok
  simp only [Bool.and_eq_true, decide_eq_true_eq, Bool.not_eq_true', decide_eq_false_iff_not] at ok
  obtain ⟨⟨⟨l2, l6⟩, al⟩, nz⟩ := ok
  obtain ⟨t, ht⟩ := B.deg_
  refine ⟨_, pss_cons (ps_for PassesOwn.never rfl (pi_enumT (by rfl) B.enumerate_ (pa_cons (pv 0) pa_nil)) (pg_tup rfl (pgs_cons ((pg_name (i := 1) (FnScope.nd s22) rfl (Or.inl rfl))) (pgs_cons ((pg_name (i := 2) (FnScope.nd s22) rfl (Or.inl rfl))) pgs_nil)))
      (pss_one (ps_if (PW.pt (pw_or ((pt_cmpR op_gt (pv 1) (pe_glob (v := .int 5) (by rfl) ht ⟨_, rfl⟩) (nomark _))) (pw_or1 (pt_not (pt_val (pe_cl C hr (pa_cons (pv 2) pa_nil))))))) pss_nv pss_nil)))
    (pss_cons ((ps_set (i := 3) (FnScope.nd s22) rfl (Or.inl rfl) (pe_op op_sub ((pe_callB call_len_seq (by rfl) (Bl.len_ B) PySem.boot_len (pa_cons (pv 0) pa_nil))) pe_int)))
    (pss_one (ps_ret (pe_ifExp ((pt_cmpR op_eq ((pe_ix ix_tup (pv 0) (pv 3) (fun _ _ => rfl))) pe_int (nomark _))) pe_nv pe_non)))), ?_⟩
  have lx' : (xs.map V.int).length = xs.length := List.length_map ..
  refine ⟨_, rfl, p, _, rfl, SqT.of h0, for_enum (xs := xs.map V.int) (fun i σ H' => Same H H' ∧ ∃ y z u : Option V, σ = [some (.ref p), y, z, u]) ⟨Same.refl _, none, none, none, rfl⟩ (fun i σ H' _ e => SqT.of (e.1 _ _ h0)) ?_ ?_⟩
  · rintro i x σ H3 hx ⟨s3, y, z, u, rfl⟩ T hT
    obtain ⟨b, hb, rfl⟩ := at_map hx
    have hi := lt_of_at hb
    have s4 := Same.new (o := .tup [.int (i : Nat), .int b]) s3 hT
    have bb := List.all_eq_true.mp al b (List.mem_of_getElem? hb)
    simp only [Bool.and_eq_true, decide_eq_true_eq] at bb
    refine ⟨T, _, rfl, SqT.of upd_same, rfl, _, _, rfl, _, _, rfl, rfl, ?_⟩
    refine ⟨_, rfl, _, _, rfl, rfl, _, rfl, ?_⟩
    rw [decide_eq_false (show ¬ ((i : Int) > 5) by omega)]
    refine iteF ⟨_, rfl, b, rfl, bb, ?_⟩
    rintro _ _ - ⟨rfl, rfl⟩
    exact ⟨_, rfl, iteF ⟨s4, _, _, _, rfl⟩⟩
  · rintro σ H3 ⟨s3, y, z, u, rfl⟩
    have h2 := s3 _ _ h0
    have en : ((((xs.map V.int).length : Nat) : Int) - 1) = ((xs.length - 1 : Nat) : Int) := by
      rw [lx']
      omega
    refine ⟨_, rfl, p, _, rfl, .inr (SqT.of h2), _, _, rfl, rfl, ?_⟩
    refine ⟨_, rfl, _, rfl, p, _, _, _, rfl, rfl, SqT.of h2, by rw [en]; exact atI_nat (getD_map (show xs.length - 1 < xs.length by omega)), rfl, _, rfl, ?_⟩
    rw [getD_last (by omega), decide_eq_false (show ¬ V.int (xs.getLastD 0) = V.int 0 from fun q => nz (V.int.inj q))]
    exact iteF (k _ _ s3 rfl)
theorem g54 : FnScope ["terms", "found"] ["terms"] (defScope (top 50)) := (⟨rfl, rfl, rfl, by decide +kernel, rfl, by decide +kernel, by decide +kernel⟩)
abbrev spLfG : Sp := Prm (α := Addr × List Int) (fun a => [.ref a.1]) (fun a H => TI H a.1 a.2 ∧ okLf a.2 = true) (fun a H v H' => v = .ref a.1)
theorem c_lfG (D : Df K mg "least_factor" (top 50)) (B : Bl mg) (C : Cal P w K mg base 2 "linear_factor" ["terms"] spLinG) (CQ : Cal P w K mg base 3 "quadratic_factor" ["terms"] spQuG) : Cal P w K mg base 4 "least_factor" ["terms"] spLfG := by
  refine mkC D g54 (fun _ _ _ _ _ _ us hl => match us, hl with | [_], _ => rfl) (fun _ => rfl) (fun f cdv A outer s H a Q E hr h k => ?_)
  obtain ⟨p, xs⟩ := a
  obtain ⟨h, ok⟩ := h
  have h : TI H p xs := h
  have k : ∀ v H', Same H H' → v = .ref p → Q v H' := k
  have h0 : H p = some (.tup (xs.map V.int)) := h
  have ok : okLf xs = true := ok
  have lx' : (xs.map V.int).length = xs.length := List.length_map ..
  refine ⟨_, pss_cons (ps_if ((pt_cmpR op_eq ((pe_callB call_len_seq (by rfl) (Bl.len_ B) PySem.boot_len (pa_cons (pv 0) pa_nil))) pe_int (nomark _))) (pss_one (ps_ret (pv 0))) pss_nil)
    (pss_cons ((ps_set (i := 1) (FnScope.nd g54) rfl (Or.inl rfl) (pe_cl C hr (pa_cons (pv 0) pa_nil))))
    (pss_cons (ps_if (PW.pt (pw_and (pt_cmpR op_isN (pv 1) pe_non (nomark _)) (pw_and1 ((pt_cmpR op_ge ((pe_callB call_len_seq (by rfl) (Bl.len_ B) PySem.boot_len (pa_cons (pv 0) pa_nil))) pe_int (nomark _)))))) (pss_one ((ps_set (i := 1) (FnScope.nd g54) rfl (Or.inl rfl) (pe_cl CQ hr (pa_cons (pv 0) pa_nil))))) pss_nil)
    (pss_one (ps_ret (pe_ifExp (pt_cmpR op_isN (pv 1) pe_non (nomark _)) (pv 0) pe_nv))))), ?_⟩
  refine ⟨_, rfl, p, _, rfl, .inr (SqT.of h0), rfl, _, rfl, ?_⟩
  by_cases e2 : xs.length = 2
  · rw [decide_eq_true (show V.int (((xs.map V.int).length : Nat) : Int) = V.int 2 by rw [lx', e2]; rfl)]
    exact iteT ⟨_, rfl, k _ _ (Same.refl _) rfl⟩
  · rw [decide_eq_false (show ¬ V.int (((xs.map V.int).length : Nat) : Int) = V.int 2 from fun q => e2 (by have := V.int.inj q; rw [lx'] at this; omega))]
    unfold okLf at ok
    rw [decide_eq_false e2, Bool.false_or] at ok
    obtain ⟨o1, o2⟩ := Bool.and_eq_true_iff.mp ok
    refine iteF ⟨_, rfl, (p, xs), rfl, ⟨h, o1⟩, ?_⟩
    rintro _ H1 s1 rfl
    refine ⟨_, rfl, rfl, _, rfl, iteT ⟨_, rfl, p, _, rfl, .inr (SqT.of (s1 _ _ h0)), _, _, rfl, rfl, _, rfl, ?_⟩⟩
    by_cases e5 : xs.length < 5
    · rw [decide_eq_false (show ¬ ((((xs.map V.int).length : Nat) : Int) ≥ 5) by rw [lx']; omega)]
      exact iteF ⟨_, rfl, rfl, _, rfl, iteT ⟨_, rfl, k _ _ s1 rfl⟩⟩
    · rw [decide_eq_true (show ((((xs.map V.int).length : Nat) : Int) ≥ 5) by rw [lx']; omega)]
      rw [decide_eq_false e5, Bool.false_or] at o2
      refine iteT ⟨_, rfl, (p, xs), rfl, ⟨TI.same s1 h, o2⟩, ?_⟩
      rintro _ H2 s2 rfl
      exact ⟨_, rfl, rfl, _, rfl, iteT ⟨_, rfl, k _ _ (s1.trans s2) rfl⟩⟩
theorem g52 : FnScope ["equation"] ["equation"] (defScope (top 48)) := (⟨rfl, rfl, rfl, by decide +kernel, rfl, by decide +kernel, by decide +kernel⟩)
abbrev spLeG : Sp := Prm (α := Addr × List Int) (fun a => [.ref a.1]) (fun a H => TI H a.1 a.2 ∧ okLe a.2 = true) (fun a H v H' => v = .bl true)
theorem c_leastG (D : Df K mg "is_least" (top 48)) (CG : Cal P w K mg base 1 "common_divisor" ["terms"] spGcd) (CL : Cal P w K mg base 4 "least_factor" ["terms"] spLfG) : Cal P w K mg base 5 "is_least" ["equation"] spLeG := by
  refine mkC D g52 (fun _ _ _ _ _ _ us hl => match us, hl with | [_], _ => rfl) (fun _ => rfl) (fun f cdv A outer s H a Q E hr h k => ?_)
  obtain ⟨p, xs⟩ := a
  obtain ⟨h, ok⟩ := h
  have h : TI H p xs := h
  have h0 : H p = some (.tup (xs.map V.int)) := h
  have k : ∀ v H', Same H H' → v = .bl true → Q v H' := k
  have ok : okLe xs = true := ok
  unfold okLe at ok
  simp only [Bool.and_eq_true, decide_eq_true_eq] at ok
  obtain ⟨⟨⟨⟨⟨⟨l0, l1⟩, ps⟩, hg⟩, ol⟩, sh⟩, cl⟩ := ok
  have hu : (A.deeper (envOfC "is_least" (defScope (top 48)) s.heap.objs.size f cdv)).units + 64 < cLine := by have := hr.un; omega
  refine ⟨_, pss_cons (ps_if (PW.pt (pw_or ((pt_cmpR op_lt ((pe_ix ix_tup (pv 0) (pe_un un_neg pe_int) (fun _ _ => rfl))) pe_int (nomark _))) (pw_or1 ((pt_cmpR op_ne (pe_cl CG hr (pa_cons (pv 0) pa_nil)) pe_int (nomark _)))))) pss_nv pss_nil)
    (pss_one (ps_ret (pe_cmpR (op_eqD hu) (pe_cl CL hr (pa_cons (pv 0) pa_nil)) (pv 0) (nomark _)))), ?_⟩
  refine ⟨_, rfl, _, rfl, p, _, _, _, rfl, rfl, SqT.of h0, at_lastD l0, _, _, rfl, rfl, _, rfl, ?_⟩
  rw [decide_eq_false (show ¬ (xs.getLastD 0 < 0) by omega)]
  refine iteF ⟨_, rfl, (p, xs), rfl, .inr h, ?_⟩
  rintro _ _ - ⟨rfl, rfl⟩
  refine ⟨rfl, _, rfl, ?_⟩
  show (if (!decide (V.int ((gcdL xs : Nat) : Int) = V.int 1)) = true then _ else _)
  rw [hg]
  refine iteF ⟨_, rfl, (p, xs), rfl, ⟨h, ol⟩, ?_⟩
  rintro _ H1 s1 rfl
  have h1 := s1 _ _ h0
  refine ⟨_, rfl, dT xs, dT xs, .tup (SqT.of h1) (dp_ints xs), .tup (SqT.of h1) (dp_ints xs), sh, sh, k _ _ s1 ?_⟩
  rw [SeqAt.eqv_refl _ cl]
end
end Xq

namespace Xq
open PySem PySem.Spec PyProof.Rows L2
/-! ### texts of ints -/
/-- the text of an int -/
abbrev W (i : Int) : Str := Str.ofString (toString i)
theorem tlW_nat (n : Nat) : TL.tl (W (n : Int)) = TL.numL n := TL.tl_num n
theorem tlW_neg {i : Int} (h : i < 0) : TL.tl (W i) = 45 :: TL.numL i.natAbs := by
  obtain ⟨m, rfl⟩ : ∃ m : Nat, i = Int.negSucc m := by
    cases i with
    | ofNat k => exact absurd h (by have := Int.natCast_nonneg k; show ¬ ((k : Int) < 0); omega)
    | negSucc m => exact ⟨m, rfl⟩
  rw [TL.tl_ofString]
  have e : (toString (Int.negSucc m) : String) = "-" ++ Nat.repr (m + 1) := rfl
  rw [e, String.toList_append, List.map_append, Nat.toList_repr]
  rfl
theorem tlW (i : Int) : TL.tl (W i) = (if i < 0 then [45] else []) ++ TL.numL i.natAbs := by
  by_cases h : i < 0
  · rw [if_pos h, tlW_neg h]
    rfl
  · rw [if_neg h, List.nil_append]
    have e : i = ((i.natAbs : Nat) : Int) := by omega
    have q := tlW_nat i.natAbs
    rw [← e] at q
    exact q
theorem free32 (i : Int) : 32 ∉ TL.tl (W i) := int_text_free' 32 ⟨by decide, by decide⟩ i
theorem len4 {i : Int} (h : i.natAbs ≤ 1000) : (TL.numL i.natAbs).length ≤ 4 := TL.numL_len (by decide) (by omega)
/-- the digits of it -/
def Dg (i : Int) : Str := ⟨(TL.numL i.natAbs).toArray⟩
theorem rm_minus (i : Int) : Txt.removeprefix (W i) (Str.ofString "-") = Dg i := by
  have e1 : (Str.ofString "-").cps.toList = [45] := rfl
  have e2 : (Str.ofString "-").length = 1 := rfl
  unfold Txt.removeprefix
  rw [PySem.StrLaws.subAt_eq, e1, e2, List.drop_zero]
  by_cases h : i < 0
  · have q : (W i).cps.toList = 45 :: TL.numL i.natAbs := tlW_neg h
    rw [q]
    have e3 : (List.take 1 (45 :: TL.numL i.natAbs) == [45]) = true := by simp
    rw [e3, if_pos rfl]
    unfold Txt.affix
    have hl : (W i).length = (TL.numL i.natAbs).length + 1 := by
      rw [TL.len_tl, show TL.tl (W i) = _ from q]
      rfl
    rw [hl]
    have e4 : ((TL.numL i.natAbs).length + 1 - 1 == (TL.numL i.natAbs).length + 1) = false := by
      rw [beq_eq_false_iff_ne]
      omega
    show (if ((TL.numL i.natAbs).length + 1 - 1 == (TL.numL i.natAbs).length + 1) = true then _ else _) = _
    rw [e4, if_neg (by decide)]
    refine TL.ext_tl ?_
    rw [TL.tl_strSub, show TL.tl (W i) = _ from q]
    show List.take ((TL.numL i.natAbs).length + 1 - 1) (TL.numL i.natAbs) = TL.numL i.natAbs
    rw [Nat.add_sub_cancel, List.take_length]
  · have q : (W i).cps.toList = TL.numL i.natAbs := by
      have z := tlW i
      rw [if_neg h] at z
      exact z
    rw [q]
    have e3 : (List.take 1 (TL.numL i.natAbs) == [45]) = false := by
      have hn := TL.numL_ne i.natAbs
      have hf := TL.numL_free (n := i.natAbs) (s := 45) (.inl (by decide))
      cases e : TL.numL i.natAbs with
      | nil => exact absurd e hn
      | cons a r =>
        rw [e] at hf
        rw [beq_eq_false_iff_ne]
        intro z
        have z2 : a = 45 := by simpa using z
        exact hf (by rw [z2]; exact List.mem_cons_self)
    rw [e3, if_neg (by decide)]
    show W i = _
    exact TL.ext_tl q
theorem dg_ascii (i : Int) : Txt.isascii (Dg i) = true := by
  unfold Txt.isascii Dg
  rw [List.all_toArray, List.all_eq_true]
  intro c hc
  have h := TL.numL_digits _ c hc
  exact decide_eq_true (by omega)
theorem ten_digits : ∀ k, k < 10 → Unicode.isDigit (48 + k) = true := by decide +kernel
theorem dg_digit (i : Int) : Txt.isdigit (Dg i) = true := by
  unfold Txt.isdigit
  have hl : (Dg i).length > 0 := by
    rw [TL.len_tl]
    exact List.length_pos_iff.mpr (TL.numL_ne _)
  rw [decide_eq_true hl, Bool.true_and]
  unfold Dg
  rw [List.all_toArray, List.all_eq_true]
  intro c hc
  have h := TL.numL_digits _ c hc
  obtain ⟨k, rfl⟩ : ∃ k, c = 48 + k := ⟨c - 48, by omega⟩
  exact ten_digits k (by omega)
theorem dg_len {i : Int} (h : i.natAbs ≤ 1000) : (Dg i).length ≤ 4 := by
  rw [TL.len_tl]
  exact len4 h
theorem w_len {i : Int} (h : i.natAbs ≤ 1000) : (W i).length ≤ 5 := by
  rw [TL.len_tl, tlW]
  have q := len4 h
  rw [List.length_append]
  split
  · show 1 + _ ≤ 5
    omega
  · show 0 + _ ≤ 5
    omega
theorem w_int {i : Int} (h : i.natAbs ≤ 1000) : PySem.intText? (W i) = some i := by
  have hl := w_len h
  by_cases hi : i < 0
  · have e := PySem.intText_neg (x := W i) (cs := TL.numL i.natAbs) (tlW_neg hi) (TL.numL_digits _) (TL.numL_ne _) (by omega)
    rw [TL.numL_val] at e
    refine e.trans ?_
    congr 1
    omega
  · have e : i = ((i.natAbs : Nat) : Int) := by omega
    have q := TL.int_num (n := i.natAbs) (by have := len4 h; omega)
    rw [← e] at q
    exact q
theorem len1000 : (W 1000).length = 4 := by decide +kernel
end Xq

/-! integer_of; told_by of any shape. -/
namespace Xq
open PySem PySem.Spec PyProof.Rows L2
theorem cut3 (a b c : V) (l : List V) : cutV (a :: b :: c :: l) (some 3) none = l := by
  unfold cutV
  have e1 : HT.sIx (a :: b :: c :: l).length 0 (some 3) = 3 := by
    unfold HT.sIx
    simp
    try omega
  have e2 : HT.sIx (a :: b :: c :: l).length (a :: b :: c :: l).length none = l.length + 3 := rfl
  rw [e1, e2]
  simp
/-- the text t tells rank r of xs, and it is a shape -/
def okT (t : Str) (r : Int) (xs : List Int) : Bool := decide (Txt.split t (Str.ofString " ") = Str.ofString "root" :: W r :: Str.ofString "of" :: xs.map W) && decide (t.length ≤ 600) && decide (r.natAbs ≤ 1000) && okE xs && okLe xs && okS xs &&
  okUB (sturmL xs) && okChB (sturmL xs) 0 1 && okChB (sturmL xs) (reachL ((sturmL xs).headD [])) 1 && decide (upL (sturmL xs) 0 1 ≤ r) && decide (r < allL (sturmL xs))
section
variable {P : Program} {w : World} {K : PySem.W.Frag} {mg : Str → Option Value} {base : Heap}
theorem s63 : FnScope ["word", "digits"] ["word"] (defScope (top 63)) := (⟨rfl, rfl, rfl, by decide +kernel, rfl, by decide +kernel, by decide +kernel⟩)
abbrev spIntOf : Sp := Prm (α := Int) (fun i => [.str (W i)]) (fun i _ => i.natAbs ≤ 1000) (fun i H v H' => v = .int i ∧ H' = H)
theorem c_intof (D : Df K mg "integer_of" (top 63)) (B : Bl mg) : Cal P w K mg base 1 "integer_of" ["word"] spIntOf := by
  refine mkC D s63 (fun _ _ _ _ _ _ us hl => match us, hl with | [_], _ => rfl) (fun _ => rfl) (fun f cdv A outer s H i Q E hr h k => ?_)
  have h : i.natAbs ≤ 1000 := h
  obtain ⟨tt, htt⟩ := B.term_
  refine ⟨_, pss_cons ((ps_set (i := 1) (FnScope.nd s63) rfl (Or.inl rfl) (pe_m1 PySem.F.slot_str_removeprefix PySem.F.type_str_removeprefix mt_removeprefix (pv 0) pe_str)))
    (pss_cons (ps_if (PW.pt (pw_or (pt_not (pt_val (pe_m0 PySem.F.slot_str_isascii PySem.F.type_str_isascii mt_isascii (pv 1))))
      (pw_or (pt_not (pt_val (pe_m0 PySem.F.slot_str_isdigit PySem.F.type_str_isdigit mt_isdigit (pv 1))))
      (pw_or1 ((pt_cmpR op_gt ((pe_callB call_len_str (by rfl) (Bl.len_ B) PySem.boot_len (pa_cons (pv 1) pa_nil))) ((pe_callB call_len_str (by rfl) (Bl.len_ B) PySem.boot_len (pa_cons (pe_callTy call_str_int (by rfl) B.str_ PyProof.Rows.boot_str (pa_cons (pe_glob (v := .int 1000) (by rfl) htt ⟨_, rfl⟩) pa_nil)) pa_nil))) (nomark _))))))) pss_nv pss_nil)
    (pss_one (ps_ret (pe_ifExp ((pt_cmpR op_eq (pe_callTy call_str_int (by rfl) B.str_ PyProof.Rows.boot_str (pa_cons (pe_callTy call_int_str (by rfl) B.int_ PyProof.Rows.boot_int (pa_cons (pv 0) pa_nil)) pa_nil)) (pv 0) (nomark _)))
      (pe_callTy call_int_str (by rfl) B.int_ PyProof.Rows.boot_int (pa_cons (pv 0) pa_nil)) pe_nv)))), ?_⟩
  have w5 := w_len h
  have sl : (640 : Nat) ≤ sizeLine := by decide
  refine ⟨_, rfl, ⟨_, rfl⟩, _, _, rfl, rfl, by omega, ?_⟩
  rw [rm_minus]
  refine ⟨_, rfl, ⟨_, rfl⟩, _, rfl, rfl, trivial, _, rfl, ?_⟩
  rw [dg_ascii]
  refine iteF ⟨_, rfl, ⟨_, rfl⟩, _, rfl, rfl, trivial, _, rfl, ?_⟩
  rw [dg_digit]
  have d4 := dg_len h
  refine iteF ⟨_, rfl, _, rfl, by omega, _, rfl, (by decide +kernel), _, rfl, ?_, _, _, rfl, rfl, _, rfl, ?_⟩
  · rw [show Str.length (Str.ofString (toString (1000 : Int))) = 4 from len1000]
    omega
  have ng : ¬ (((Dg i).length : Int) > (((W 1000).length : Nat) : Int)) := by
    rw [len1000]
    omega
  refine ite2 (fun hb => absurd (of_decide_eq_true hb) ng) (fun _ => ?_)
  have l2 : i.natAbs.log2 < 1920 := Nat.lt_of_lt_of_le (PySem.Flt.log2_lt_of (show 0 < 10 by decide) (show i.natAbs < 2 ^ 10 by omega)) (by decide)
  refine ⟨_, rfl, _, i, rfl, w_int h, by omega, i, rfl, l2, _, rfl, rfl, _, rfl, ?_⟩
  rw [decide_eq_true rfl]
  exact iteT ⟨_, rfl, _, i, rfl, w_int h, by omega, k _ _ (Same.refl _) ⟨rfl, rfl⟩⟩
abbrev nT : List Str := ["text", "words", "rank", "equation", "chain", "word"]
theorem s62 : FnScope nT ["text"] (defScope (top 62)) := (⟨rfl, rfl, rfl, by decide +kernel, rfl, by decide +kernel, by decide +kernel⟩)
abbrev spToldG : Sp := Prm (α := Str × Int × List Int) (fun a => [.str a.1]) (fun a H => okT a.1 a.2.1 a.2.2 = true) (fun a H v H' => ∃ r q, v = .ref r ∧ H' r = some (.tup [.int a.2.1, .ref q]) ∧ TI H' q a.2.2)
theorem c_toldG (D : Df K mg "told_by" (top 62)) (B : Bl mg) (CI : Cal P w K mg base 1 "integer_of" ["word"] spIntOf) (CW : Cal P w K mg base 3 "wrong_term" ["equation"] spWrongG)
    (CL : Cal P w K mg base 5 "is_least" ["equation"] spLeG) (CS : Cal P w K mg base 4 "sturm_chain" ["terms"] spSturmG) (CU : Cal P w K mg base 3 "roots_up_to" ["chain", "top", "bottom"] spUpG) (CA : Cal P w K mg base 4 "roots_in_all" ["chain"] spAllG) :
    Cal P w K mg base 6 "told_by" ["text"] spToldG := by
  refine mkC D s62 (fun _ _ _ _ _ _ us hl => match us, hl with | [_], _ => rfl) (fun _ => rfl) (fun f cdv A outer s H a Q E hr h k => ?_)
  obtain ⟨tx, rk, xs⟩ := a
  have h : okT tx rk xs = true := h
  unfold okT at h
  simp only [Bool.and_eq_true, decide_eq_true_eq] at h
  obtain ⟨⟨⟨⟨⟨⟨⟨⟨⟨⟨hsp, ht⟩, hrk⟩, oE⟩, oLe⟩, oS⟩, oU⟩, oC0⟩, oC1⟩, up⟩, al⟩ := h
  have oE' := oE
  unfold okE at oE'
  simp only [Bool.and_eq_true, decide_eq_true_eq, Bool.not_eq_true', decide_eq_false_iff_not] at oE'
  obtain ⟨⟨⟨l2, l6⟩, alx⟩, nz⟩ := oE'
  refine ⟨_, pss_cons ((ps_set (i := 1) (FnScope.nd s62) rfl (Or.inl rfl) (pe_ifExp (pt_val (pe_isi (v := .ty "str") (by rfl) B.isinstance_ (pv 0) (by rfl) B.str_ PyProof.Rows.boot_str rfl)) (pe_split (pv 0) pe_str) pe_nv)))
    (pss_cons (ps_if (PW.pt (pw_or ((pt_cmpR op_lt ((pe_callB call_len_seq (by rfl) (Bl.len_ B) PySem.boot_len (pa_cons (pv 1) pa_nil))) pe_int (nomark _))) (pw_or ((pt_cmpR op_ne ((pe_ix ix_list (pv 1) pe_int (fun _ _ => rfl))) pe_str (nomark _))) (pw_or1 ((pt_cmpR op_ne ((pe_ix ix_list (pv 1) pe_int (fun _ _ => rfl))) pe_str (nomark _))))))) pss_nv pss_nil)
    (pss_cons (ps_par (i := 2) (j := 3) rfl s62.nd rfl rfl (by decide) rfl rfl (pa_cons (pe_cl CI hr (pa_cons ((pe_ix ix_list (pv 1) pe_int (fun _ _ => rfl))) pa_nil)) (pa_cons (pe_callTy call_tuple_of (by rfl) B.tuple_ PyProof.Rows.boot_tuple (pa_cons
        (pe_lc (own := [("word", 5)]) (g := gName 5) (tt := tYes) (te := tCall spIntOf [] E0 (tCons (tVar 5) tNil)) rfl s62.nd (pi_list (pe_slice sl_list (pv 1) (po_some pe_int) po_none))
          (blkOk_by (N := nT) (sc := defScope (top 62)) (by decide +kernel)) (fun _ _ _ _ _ => (pg_name (i := 5) (FnScope.nd s62) rfl (Or.inl rfl))) (fun _ _ _ _ _ => pts_nil)
          (fun _ _ _ _ _ => pe_cl CI hr (pa_cons (pv 5) pa_nil))) pa_nil)) pa_nil)) rfl)
    (pss_cons (ps_if (PW.pt (pw_or (pt_cmpR op_isN (pv 2) pe_non (nomark _)) (pw_or ((pt_cmpR op_lt ((pe_callB call_len_seq (by rfl) (Bl.len_ B) PySem.boot_len (pa_cons (pv 3) pa_nil))) pe_int (nomark _))) (pw_or (pt_cmpR op_notN (pe_cl CW hr (pa_cons (pv 3) pa_nil)) pe_non (nomark _)) (pw_or1 (pt_not (pt_val (pe_cl CL hr (pa_cons (pv 3) pa_nil))))))))) pss_nv pss_nil)
    (pss_cons ((ps_set (i := 4) (FnScope.nd s62) rfl (Or.inl rfl) (pe_cl CS hr (pa_cons (pv 3) pa_nil))))
    (pss_cons (ps_if (pt_not (pt_chain op_le op_lt (pe_cl CU hr (pa_cons (pv 4) (pa_cons pe_int (pa_cons pe_int pa_nil)))) (pv 2) (pe_cl CA hr (pa_cons (pv 4) pa_nil)))) pss_nv pss_nil)
    (pss_one (ps_ret (pe_tup (pa_cons (pv 2) (pa_cons (pv 3) pa_nil)))))))))), ?_⟩
  have sl : (1000 : Nat) ≤ sizeLine := by decide
  refine ⟨_, rfl, _, _, _, _, true, rfl, .ty _, .base (.str _), kit_ty (by decide +kernel), _, rfl, iteT ?_⟩
  refine ⟨_, rfl, ⟨_, rfl⟩, _, _, rfl, rfl, rfl, (by show tx.length + 2 ≤ sizeLine; omega), fun ws hws => ?_⟩
  rw [hsp]
  have s1 := same_new (o := .lst ((Str.ofString "root" :: W rk :: Str.ofString "of" :: xs.map W).map V.str)) hws
  have w1 : upd H ws (.lst ((Str.ofString "root" :: W rk :: Str.ofString "of" :: xs.map W).map V.str)) ws = some (.lst (V.str (Str.ofString "root") :: V.str (W rk) :: V.str (Str.ofString "of") :: (xs.map W).map V.str)) := upd_same
  generalize upd H ws (.lst ((Str.ofString "root" :: W rk :: Str.ofString "of" :: xs.map W).map V.str)) = H0 at *
  refine ⟨_, rfl, ws, _, rfl, .inl (SqL.of w1), _, _, rfl, rfl, _, rfl, ?_⟩
  rw [decide_eq_false (show ¬ (((V.str (Str.ofString "root") :: V.str (W rk) :: V.str (Str.ofString "of") :: (xs.map W).map V.str).length : Nat) : Int) < 3 by simp only [List.length_cons]; omega)]
  refine iteF ?_
  refine ⟨_, rfl, ws, _, _, .str (Str.ofString "root"), rfl, rfl, SqL.of w1, atI_nat (j := 0) rfl, rfl, _, rfl, ?_⟩
  rw [decide_eq_true (show (.str (Str.ofString "root") : V) = .str "root" from rfl)]
  refine iteF ⟨_, rfl, ws, _, _, .str (Str.ofString "of"), rfl, rfl, SqL.of w1, atI_nat (j := 2) rfl, rfl, _, rfl, ?_⟩
  rw [decide_eq_true (show (.str (Str.ofString "of") : V) = .str "of" from rfl)]
  refine iteF ⟨_, rfl, ws, _, _, .str (W rk), rfl, rfl, SqL.of w1, atI_nat (j := 1) rfl, ?_⟩
  refine ⟨rk, rfl, hrk, ?_⟩
  rintro _ HX - ⟨rfl, eH⟩
  have eH : H0 = HX := eH.symm
  subst eH
  refine ⟨_, rfl, _, rfl, ws, _, rfl, SqL.of w1, fun t ht => ?_⟩
  rw [cut3]
  have s2 := Same.new (o := .lst ((xs.map W).map V.str)) s1 ht
  have w2 : upd H0 t (.lst ((xs.map W).map V.str)) t = some (.lst ((xs.map W).map V.str)) := upd_same
  generalize upd H0 t (.lst ((xs.map W).map V.str)) = H1 at *
  refine ⟨t, rfl, ⟨_, SqL.of w2⟩, fun D2 hD => lc_list (xs := (xs.map W).map V.str) (fun i H' => Same H1 H' ∧ H' D2 = some (.lst ((xs.take i).map V.int))) ⟨same_new hD, upd_same⟩ (fun i H' _ e => SqL.of (e.1 _ _ w2)) (fun i x H' hx e => ?_) (fun H' e => ?_)⟩
  · obtain ⟨s3, e3⟩ := e
    rw [List.map_map, List.getElem?_map] at hx
    have hi : i < xs.length := by
      rcases Nat.lt_or_ge i xs.length with q | q
      · exact q
      · rw [List.getElem?_eq_none q] at hx
        cases hx
    rw [List.getElem?_eq_getElem hi] at hx
    cases hx
    have bb := List.all_eq_true.mp alx xs[i] (List.getElem_mem hi)
    simp only [Bool.and_eq_true, decide_eq_true_eq] at bb
    refine ⟨rfl, _, rfl, xs[i], rfl, (by show (xs[i]).natAbs ≤ 1000; omega), ?_⟩
    rintro _ _ - ⟨rfl, rfl⟩
    refine ⟨_, e3, ?_, Same.put s3 hD, ?_⟩
    · rw [List.length_map, List.length_take]
      omega
    · rw [upd_same, List.take_succ, List.getElem?_eq_getElem hi, List.map_append]
      rfl
  · obtain ⟨s3, e3⟩ := e
    rw [List.length_map, List.length_map, List.take_length] at e3
    refine ⟨D2, _, rfl, .inl ⟨SqL.of e3, fun q hq => ?_⟩⟩
    have s4 := Same.new (o := .tup (xs.map V.int)) (s2.trans s3) hq
    have q4 : TI (upd H' q (.tup (xs.map V.int))) q xs := upd_same
    have q40 : upd H' q (.tup (xs.map V.int)) q = some (.tup (xs.map V.int)) := upd_same
    generalize upd H' q (.tup (xs.map V.int)) = H4 at *
    have lx' : (xs.map V.int).length = xs.length := List.length_map ..
    refine ⟨_, _, rfl, ?_⟩
    refine ⟨_, rfl, rfl, _, rfl, iteF ?_⟩
    refine ⟨_, rfl, q, _, rfl, .inr (SqT.of q40), _, _, rfl, rfl, _, rfl, ?_⟩
    rw [decide_eq_false (show ¬ ((((xs.map V.int).length : Nat) : Int) < 2) by rw [lx']; omega)]
    refine iteF ⟨_, rfl, (q, xs), rfl, ⟨q4, oE⟩, ?_⟩
    rintro _ H5 s5 rfl
    refine ⟨rfl, _, rfl, iteF ?_⟩
    have q5 := TI.same s5 q4
    refine ⟨_, rfl, (q, xs), rfl, ⟨q5, oLe⟩, ?_⟩
    rintro _ H6 s6 rfl
    have q6 := TI.same s6 q5
    refine ⟨_, rfl, iteF ?_⟩
    refine ⟨_, rfl, (q, xs), rfl, ⟨q6, oS⟩, ?_⟩
    rintro _ H7 s7 ⟨c, rfl, hc⟩
    have hc : Chn H7 c (sturmL xs) := hc
    refine ⟨_, rfl, (c, sturmL xs, 0, 1), rfl, ⟨hc, okUB_ok oU, okChB_ok oC0⟩, ?_⟩
    rintro _ H8 s8 rfl
    refine ⟨_, rfl, _, _, rfl, rfl, _, rfl, ?_⟩
    rw [decide_eq_true up]
    refine iteT ⟨_, rfl, (c, sturmL xs), rfl, ⟨hc.same s8, okUB_ok oU, okChB_ok oC1⟩, ?_⟩
    rintro _ H9 s9 rfl
    refine ⟨_, _, rfl, rfl, _, rfl, ?_⟩
    rw [decide_eq_true al]
    refine iteF ⟨_, rfl, _, rfl, (by show 2 ≤ sizeLine; decide), fun r hr9 => ?_⟩
    have sa := s5.trans (s6.trans (s7.trans (s8.trans (Same.new (o := .tup [.int rk, .ref q]) s9 hr9))))
    refine k _ _ (s4.trans sa) ⟨r, q, rfl, upd_same, ?_⟩
    exact TI.same sa q4
end
end Xq

/-! The class Shape, for any shape. -/
namespace Xq
open PySem PySem.Spec PyProof.Rows L2
/-- o.f as a target -/
def gFld (K : PySem.W.Frag) (to : TE) (f : Str) : TG := fun v σ H Q => to σ H fun x H2 => ∃ a C dx fs, x = .ref a ∧ H2 a = some (.ins C dx fs) ∧ Cls K C ∧ NoAttr K C f ∧ fs.length < 1000 ∧ Q σ (upd H2 a (.ins C dx (putF f v fs)))
theorem pg_fld {X : Cx} {o : Expr} {f : Str} {pos : Pos} {to : TE} (ho : PE X o to) : PG X (.Attribute o f pos) (gFld X.K to f) := by
  refine ⟨fun pins s σ H v u Q I r h => ?_⟩
  refine PySem.W.kas_attr (thn (ho.run pins s σ H _ I h) fun ov s2 ⟨x, H2, I2, rx, a, C, dx, fs, ex, ea, c, n, l, q2⟩ => ?_)
  subst ex
  obtain rfl : ov = Value.ref a := rx
  exact setattr_ok I2 ea c n l r fun s3 I3 => ⟨σ, _, I3, q2⟩
/-- the class as it stands behind the top -/
structure ShC (K : PySem.W.Frag) (mg : Str → Option Value) (C : Addr) : Prop where
  cl : Cls K C
  n1 : NoAttr K C "_text"
  n2 : NoAttr K C "_rank"
  n3 : NoAttr K C "_equation"
  n4 : NoAttr K C "_near"
  n5 : NoAttr K C "_bits"
  mgC : mg "Shape" = some (.ref C)
  mkS : ∃ f fd, Mk K C f ∧ Fun K "__init__" "Shape.__init__" (inClass (top 57) 0) f fd
  txt : ∃ p f fd, PropOf K C "text" p f ∧ Fun K "text" "Shape.text" (inClass (top 57) 2) f fd
  eqn : ∃ p f fd, PropOf K C "equation" p f ∧ Fun K "equation" "Shape.equation" (inClass (top 57) 3) f fd
  deg : ∃ p f fd, PropOf K C "degree" p f ∧ Fun K "degree" "Shape.degree" (inClass (top 57) 4) f fd
  rnk : ∃ p f fd, PropOf K C "rank" p f ∧ Fun K "rank" "Shape.rank" (inClass (top 57) 5) f fd
  flo : ∃ f fd, Meth K C "floor_at" f ∧ Fun K "floor_at" "Shape.floor_at" (inClass (top 57) 6) f fd
  c1 : PySem.W.findIn K (.ref C) "__class__" = some (some (.builtin "object.__class__"))
  c2 : PySem.W.specialIn K (.builtin "object.__class__") "__get__" = some (some (.builtin "getset_descriptor.__get__"))
  c3 : PySem.W.takesIn K (.builtin "object.__class__") = some true
  c4 : PySem.W.mroIn K C (.type "object") = some true
  kit : PySem.W.kitOne K (.ref C) (.ref C) = some true
def fsG (t : Str) (q : Addr) (r : Int) (xs : List Int) : List (Str × V) := [("_text", .str t), ("_rank", .int r), ("_equation", .ref q), ("_near", .int (strL xs r).1), ("_bits", .int ((strL xs r).2 : Int))]
/-- a shape at a -/
def ShpG (C : Addr) (H : Hp) (a : Addr) (t : Str) (r : Int) (xs : List Int) : Prop := ∃ dx q, H a = some (.ins C dx (fsG t q r xs)) ∧ TI H q xs
theorem ShpG.same {C : Addr} {H H' : Hp} {a : Addr} {t : Str} {r : Int} {xs : List Int} (s : Same H H') (h : ShpG C H a t r xs) : ShpG C H' a t r xs := by
  obtain ⟨dx, q, h1, h2⟩ := h
  exact ⟨dx, q, s _ _ h1, TI.same s h2⟩
section
variable {P : Program} {w : World} {K : PySem.W.Frag} {mg : Str → Option Value} {base : Heap} {C : Addr}
theorem sI : FnScope ["self", "text", "told"] ["self", "text"] (defScope (inClass (top 57) 0)) := (⟨rfl, rfl, rfl, by decide +kernel, rfl, by decide +kernel, by decide +kernel⟩)
def spInitG (C : Addr) : Sp := fun vs H Q _ => ∃ (H0 : Hp) (a dx : Addr) (t : Str) (r : Int) (xs : List Int), vs = [.ref a, .str t] ∧ Same H0 H ∧ H0 a = none ∧ H a = some (.ins C dx []) ∧ okT t r xs = true ∧ okStr xs r = true ∧ ∀ H', Same H0 H' → ShpG C H' a t r xs → Q .non H'
theorem ok_initG {f : Addr} {fd : FuncData} (F : Fun K "__init__" "Shape.__init__" (inClass (top 57) 0) f fd) (S : ShC K mg C) (CT : Cal P w K mg base 6 "told_by" ["text"] spToldG) (CS : Cal P w K mg base 6 "stretch_of" ["equation", "rank"] spStrG) :
    FnOk P w K mg base CX0 7 f fd ["self", "text"] (spInitG C) := by
  refine F.ok sI (fun vs H Q E h => ?_) (fun cdv A outer s H vs Q E hr h => ?_)
  · obtain ⟨H0, a, dx, t, r, xs, rfl, _⟩ := h
    rfl
  · obtain ⟨H0, a, dx, t, rk, xs, rfl, s0, a0, ha, oT', oS, k⟩ := h
    refine ⟨_, pss_cons ((ps_set (i := 2) (FnScope.nd sI) rfl (Or.inl rfl) (pe_cl CT hr (pa_cons (pv 1) pa_nil))))
      (pss_cons (ps_if (pt_cmpR op_isN (pv 2) pe_non (nomark _)) pss_nv pss_nil)
      (pss_cons (ps_fld (pv 0) (pv 1) rfl)
      (pss_cons (ps_asg (pv 2) (pg_tup rfl (pgs_cons (pg_fld (pv 0)) (pgs_cons (pg_fld (pv 0)) pgs_nil))))
      (pss_one (ps_asg (pe_cl CS hr (pa_cons (pe_fld (pv 0) rfl) (pa_cons (pe_fld (pv 0) rfl) pa_nil))) (pg_tup rfl (pgs_cons (pg_fld (pv 0)) (pgs_cons (pg_fld (pv 0)) pgs_nil)))))))), ?_⟩
    refine ⟨_, rfl, (t, rk, xs), rfl, oT', ?_⟩
    rintro _ H1 s1 ⟨r, q, rfl, hr1, hq1⟩
    have hr1 : H1 r = some (.tup [.int rk, .ref q]) := hr1
    have hq1 : TI H1 q xs := hq1
    have a1 := s1 _ _ ha
    have nr : r ≠ a := fun e => by rw [e, a1] at hr1; cases hr1
    have nq : q ≠ a := fun e => by
      have z : H1 q = some (.tup (xs.map V.int)) := hq1
      rw [e, a1] at z
      cases z
    refine ⟨_, rfl, rfl, _, rfl, iteF ?_⟩
    refine ⟨_, rfl, _, rfl, a, C, dx, _, rfl, a1, S.cl, S.n1, by decide, ?_⟩
    have t2 := Same.put (o := .ins C dx [("_text", .str t)]) (s0.trans s1) a0
    refine ⟨_, rfl, r, _, rfl, SqT.of ((upd_ne nr).trans hr1), rfl, ?_⟩
    refine ⟨_, _, rfl, _, rfl, a, C, dx, _, rfl, upd_same, S.cl, S.n2, (by show 1 < 1000; decide), ?_⟩
    refine ⟨_, _, rfl, _, rfl, a, C, dx, _, rfl, upd_same, S.cl, S.n3, (by show 2 < 1000; decide), rfl, ?_⟩
    have t4 := Same.put (o := .ins C dx [("_text", .str t), ("_rank", .int rk), ("_equation", .ref q)]) (Same.put (o := .ins C dx [("_text", .str t), ("_rank", .int rk)]) t2 a0) a0
    have a4 : ∀ HH : Hp, (upd HH a (.ins C dx [("_text", .str t), ("_rank", .int rk), ("_equation", .ref q)])) a = some (.ins C dx [("_text", .str t), ("_rank", .int rk), ("_equation", .ref q)]) := fun _ => upd_same
    refine ⟨_, rfl, a, C, dx, _, _, rfl, a4 _, S.cl, S.n3, rfl, ?_⟩
    refine ⟨_, rfl, a, C, dx, _, _, rfl, a4 _, S.cl, S.n2, rfl, ?_⟩
    refine ⟨(q, xs, rk), rfl, ⟨?_, oS⟩, ?_⟩
    · show upd _ a _ q = _
      rw [upd_ne nq, upd_ne nq, upd_ne nq]
      exact hq1
    rintro _ H5 s5 ⟨r2, rfl, hr2⟩
    have hr2 : H5 r2 = some (.tup [.int (strL xs rk).1, .int ((strL xs rk).2 : Int)]) := hr2
    have a5 := s5 _ _ (a4 _)
    have nr2 : r2 ≠ a := fun e => by rw [e, a5] at hr2; cases hr2
    refine ⟨r2, _, rfl, SqT.of hr2, rfl, ?_⟩
    refine ⟨_, _, rfl, _, rfl, a, C, dx, _, rfl, a5, S.cl, S.n4, (by show 3 < 1000; decide), ?_⟩
    refine ⟨_, _, rfl, _, rfl, a, C, dx, _, rfl, upd_same, S.cl, S.n5, (by show 4 < 1000; decide), rfl, ?_⟩
    refine k _ (Same.put (Same.put (t4.trans s5) a0) a0) ⟨dx, q, upd_same, ?_⟩
    show upd _ a _ q = _
    rw [upd_ne nq, upd_ne nq]
    refine s5 _ _ ?_
    rw [upd_ne nq, upd_ne nq, upd_ne nq]
    exact hq1
/-- the getters -/
def spGet (C : Addr) (v : Str → Int → List Int → Addr → V) : Sp := fun vs H Q _ => ∃ (a : Addr) (t : Str) (r : Int) (xs : List Int), vs = [.ref a] ∧ ShpG C H a t r xs ∧ ∀ q, TI H q xs → Q (v t r xs q) H
abbrev spTxtG (C : Addr) : Sp := spGet C fun t _ _ _ => .str t
abbrev spEqnG (C : Addr) : Sp := spGet C fun _ _ _ q => .ref q
abbrev spDegG (C : Addr) : Sp := spGet C fun _ _ xs _ => .int ((xs.length : Int) - 1)
abbrev spRnkG (C : Addr) : Sp := spGet C fun _ r _ _ => .int r
theorem sTx : FnScope ["self"] ["self"] (defScope (inClass (top 57) 2)) := (⟨rfl, rfl, rfl, by decide +kernel, rfl, by decide +kernel, by decide +kernel⟩)
theorem sE : FnScope ["self"] ["self"] (defScope (inClass (top 57) 3)) := (⟨rfl, rfl, rfl, by decide +kernel, rfl, by decide +kernel, by decide +kernel⟩)
theorem sD : FnScope ["self"] ["self"] (defScope (inClass (top 57) 4)) := (⟨rfl, rfl, rfl, by decide +kernel, rfl, by decide +kernel, by decide +kernel⟩)
theorem sRk : FnScope ["self"] ["self"] (defScope (inClass (top 57) 5)) := (⟨rfl, rfl, rfl, by decide +kernel, rfl, by decide +kernel, by decide +kernel⟩)
theorem ok_txtG {f : Addr} {fd : FuncData} (F : Fun K "text" "Shape.text" (inClass (top 57) 2) f fd) (S : ShC K mg C) : FnOk P w K mg base CX0 1 f fd ["self"] (spTxtG C) := by
  refine F.ok sTx (fun vs H Q E h => ?_) (fun cdv A outer s H vs Q E hr h => ?_)
  · obtain ⟨a, t, r, xs, rfl, _⟩ := h
    rfl
  · obtain ⟨a, t, r, xs, rfl, ⟨dx, q, h1, h2⟩, k⟩ := h
    exact ⟨_, pss_one (ps_ret (pe_fld (pv 0) rfl)), _, rfl, a, C, dx, _, _, rfl, h1, S.cl, S.n1, rfl, k q h2⟩
theorem ok_eqnG {f : Addr} {fd : FuncData} (F : Fun K "equation" "Shape.equation" (inClass (top 57) 3) f fd) (S : ShC K mg C) : FnOk P w K mg base CX0 1 f fd ["self"] (spEqnG C) := by
  refine F.ok sE (fun vs H Q E h => ?_) (fun cdv A outer s H vs Q E hr h => ?_)
  · obtain ⟨a, t, r, xs, rfl, _⟩ := h
    rfl
  · obtain ⟨a, t, r, xs, rfl, ⟨dx, q, h1, h2⟩, k⟩ := h
    exact ⟨_, pss_one (ps_ret (pe_fld (pv 0) rfl)), _, rfl, a, C, dx, _, _, rfl, h1, S.cl, S.n3, rfl, k q h2⟩
theorem ok_rnkG {f : Addr} {fd : FuncData} (F : Fun K "rank" "Shape.rank" (inClass (top 57) 5) f fd) (S : ShC K mg C) : FnOk P w K mg base CX0 1 f fd ["self"] (spRnkG C) := by
  refine F.ok sRk (fun vs H Q E h => ?_) (fun cdv A outer s H vs Q E hr h => ?_)
  · obtain ⟨a, t, r, xs, rfl, _⟩ := h
    rfl
  · obtain ⟨a, t, r, xs, rfl, ⟨dx, q, h1, h2⟩, k⟩ := h
    exact ⟨_, pss_one (ps_ret (pe_fld (pv 0) rfl)), _, rfl, a, C, dx, _, _, rfl, h1, S.cl, S.n2, rfl, k q h2⟩
theorem ok_degG {f : Addr} {fd : FuncData} (F : Fun K "degree" "Shape.degree" (inClass (top 57) 4) f fd) (S : ShC K mg C) (B : Bl mg) : FnOk P w K mg base CX0 1 f fd ["self"] (spDegG C) := by
  refine F.ok sD (fun vs H Q E h => ?_) (fun cdv A outer s H vs Q E hr h => ?_)
  · obtain ⟨a, t, r, xs, rfl, _⟩ := h
    rfl
  · obtain ⟨a, t, r, xs, rfl, ⟨dx, q, h1, h2⟩, k⟩ := h
    have h20 : H q = some (.tup (xs.map V.int)) := h2
    have k2 := k q h2
    have lx : (xs.map V.int).length = xs.length := List.length_map ..
    refine ⟨_, pss_one (ps_ret (pe_op op_sub ((pe_callB call_len_seq (by rfl) (Bl.len_ B) PySem.boot_len (pa_cons (pe_fld (pv 0) rfl) pa_nil))) pe_int)), _, rfl, a, C, dx, _, _, rfl, h1, S.cl, S.n3, rfl, q, _, rfl, .inr (SqT.of h20), _, _, rfl, rfl, ?_⟩
    rw [lx]
    exact k2
theorem sFl : FnScope ["self", "bits"] ["self", "bits"] (defScope (inClass (top 57) 6)) := (⟨rfl, rfl, rfl, by decide +kernel, rfl, by decide +kernel, by decide +kernel⟩)
def spFloG (C : Addr) : Sp := fun vs H Q _ => ∃ (a : Addr) (t : Str) (r : Int) (xs : List Int), vs = [.ref a, .int 64] ∧ ShpG C H a t r xs ∧ (strL xs r).2 = 64 ∧ Q (.int (strL xs r).1) H
theorem ok_floG {f : Addr} {fd : FuncData} (F : Fun K "floor_at" "Shape.floor_at" (inClass (top 57) 6) f fd) (S : ShC K mg C) : FnOk P w K mg base CX0 1 f fd ["self", "bits"] (spFloG C) := by
  refine F.ok sFl (fun vs H Q E h => ?_) (fun cdv A outer s H vs Q E hr h => ?_)
  · obtain ⟨a, t, r, xs, rfl, _⟩ := h
    rfl
  · obtain ⟨a, t, r, xs, rfl, ⟨dx, q, h1, h2⟩, h3, k⟩ := h
    refine ⟨_, pss_cons (ps_if ((pt_cmpR op_eq (pv 1) (pe_fld (pv 0) rfl) (nomark _))) (pss_one (ps_ret (pe_fld (pv 0) rfl))) pss_nil) pss_nv, ?_⟩
    refine ⟨_, rfl, _, rfl, a, C, dx, _, _, rfl, h1, S.cl, S.n5, rfl, rfl, _, rfl, ?_⟩
    rw [decide_eq_true (show V.int 64 = V.int ((strL xs r).2 : Int) by rw [h3]; rfl)]
    exact iteT ⟨_, rfl, a, C, dx, _, _, rfl, h1, S.cl, S.n4, rfl, k⟩
/-! ### as they are used -/
section
variable {X : Cx} {e : Expr} {te : TE} {pos : Pos} {j : Nat}
theorem pe_txtG (S : ShC X.K X.mg C) (he : PE X e te) (hr : Room (j + 2) X.A) (hab : attributeBase e "text" X.env (eval e X.env) = eval e X.env := by rfl) :
    PE X (.Attribute e "text" pos) (tProp C (spTxtG C) [] E0 te) := by
  obtain ⟨p, f, fd, hp, F⟩ := S.txt
  exact pe_prop (pos := pos) he S.cl hp (ok_txtG (P := X.prog) (w := X.w) (base := X.base) F S) (hr.mono (by omega)) (F.binds (fun _ _ _ _ _ _ us hl => match us, hl with | [_], _ => rfl)) .nil pass0 hab
theorem pe_eqnG (S : ShC X.K X.mg C) (he : PE X e te) (hr : Room (j + 2) X.A) (hab : attributeBase e "equation" X.env (eval e X.env) = eval e X.env := by rfl) :
    PE X (.Attribute e "equation" pos) (tProp C (spEqnG C) [] E0 te) := by
  obtain ⟨p, f, fd, hp, F⟩ := S.eqn
  exact pe_prop (pos := pos) he S.cl hp (ok_eqnG (P := X.prog) (w := X.w) (base := X.base) F S) (hr.mono (by omega)) (F.binds (fun _ _ _ _ _ _ us hl => match us, hl with | [_], _ => rfl)) .nil pass0 hab
theorem pe_rnkG (S : ShC X.K X.mg C) (he : PE X e te) (hr : Room (j + 2) X.A) (hab : attributeBase e "rank" X.env (eval e X.env) = eval e X.env := by rfl) :
    PE X (.Attribute e "rank" pos) (tProp C (spRnkG C) [] E0 te) := by
  obtain ⟨p, f, fd, hp, F⟩ := S.rnk
  exact pe_prop (pos := pos) he S.cl hp (ok_rnkG (P := X.prog) (w := X.w) (base := X.base) F S) (hr.mono (by omega)) (F.binds (fun _ _ _ _ _ _ us hl => match us, hl with | [_], _ => rfl)) .nil pass0 hab
theorem pe_degG (S : ShC X.K X.mg C) (B : Bl X.mg) (he : PE X e te) (hr : Room (j + 2) X.A) (hab : attributeBase e "degree" X.env (eval e X.env) = eval e X.env := by rfl) :
    PE X (.Attribute e "degree" pos) (tProp C (spDegG C) [] E0 te) := by
  obtain ⟨p, f, fd, hp, F⟩ := S.deg
  exact pe_prop (pos := pos) he S.cl hp (ok_degG (P := X.prog) (w := X.w) (base := X.base) F S B) (hr.mono (by omega)) (F.binds (fun _ _ _ _ _ _ us hl => match us, hl with | [_], _ => rfl)) .nil pass0 hab
theorem pe_floG {apos : Pos} {e2 : Expr} {t : TE} {pl : Sem Bool} (S : ShC X.K X.mg C) (he : PE X e te) (h2 : PE X e2 t) (hr : Room (j + 1) X.A)
    (hst : starEach (e2 :: []) X.env = (false, eval e2 X.env) :: starEach [] X.env := by rfl)
    (ht : eval (.Call (.Attribute e "floor_at" apos) (e2 :: []) [] pos) X.env = (do
      let ov ← eval e X.env
      standAt apos.atName
      let (f, first) ← holding [ov] (getMethod ov "floor_at" pl)
      callWith pos f first (backTo pos (starEach (e2 :: []) X.env)) (backToKw pos (keywordEach [] X.env))) := by rfl) :
    PE X (.Call (.Attribute e "floor_at" apos) [e2] [] pos) (tMeth C "floor_at" (spFloG C) [] E0 te (tCons t tNil)) := by
  obtain ⟨f, fd, hm, F⟩ := S.flo
  exact pe_meth (pl := pl) he S.cl hm (ok_floG (P := X.prog) (w := X.w) (base := X.base) F S) (hr.mono (by omega)) (F.binds (fun _ _ _ _ _ _ us hl => match us, hl with | [_, _], _ => rfl)) .nil pass0 (pa_cons h2 pa_nil hst) hst rfl ht
theorem pe_mkG {p : Pos} {e2 : Expr} {t : TE} (S : ShC X.K X.mg C) (CT : Cal X.prog X.w X.K X.mg X.base 6 "told_by" ["text"] spToldG) (CS : Cal X.prog X.w X.K X.mg X.base 6 "stretch_of" ["equation", "rank"] spStrG) (h2 : PE X e2 t) (hr : Room (j + 8) X.A) (hg : Gl X "Shape")
    (hst : starEach (e2 :: []) X.env = (false, eval e2 X.env) :: starEach [] X.env := by rfl) :
    PE X (.Call (.Name "Shape" p) [e2] [] pos) (tMake C (spInitG C) [] E0 (tCons t tNil)) := by
  obtain ⟨f, fd, hm, F⟩ := S.mkS
  exact pe_make hm (ok_initG (P := X.prog) (w := X.w) (base := X.base) F S CT CS) (hr.mono (by omega)) hg S.mgC (F.binds (fun _ _ _ _ _ _ us hl => match us, hl with | [_, _], _ => rfl)) .nil pass0 (pa_cons h2 pa_nil hst) (by decide) hst rfl
end
theorem j55 : FnScope ["value"] ["value"] (defScope (top 58)) := (⟨rfl, rfl, rfl, by decide +kernel, rfl, by decide +kernel, by decide +kernel⟩)
abbrev spChkG (C : Addr) : Sp := Prm (α := Addr × Str × Int × List Int) (fun a => [.ref a.1]) (fun a H => ShpG C H a.1 a.2.1 a.2.2.1 a.2.2.2) (fun a H v H' => H' = H)
theorem c_chkG (D : Df K mg "check_shape" (top 58)) (B : Bl mg) (S : ShC K mg C) : Cal P w K mg base 1 "check_shape" ["value"] (spChkG C) := by
  refine mkC D j55 (fun _ _ _ _ _ _ us hl => match us, hl with | [_], _ => rfl) (fun _ => rfl) (fun f cdv A outer s H a Q E hr h k => ?_)
  obtain ⟨a, t, r, xs⟩ := a
  obtain ⟨dx, q, h1, h2⟩ := h
  refine ⟨_, pss_one (ps_if (pt_not (pt_val (pe_callB call_isi (by rfl) B.isinstance_ (by decide +kernel) (pa_cons (pv 0) (pa_cons (pe_glob (v := .ref C) (by rfl) S.mgC rfl) pa_nil))))) pss_nv pss_nil), ?_⟩
  refine ⟨_, rfl, _, _, _, _, true, rfl, .own _, .base (.ins h1 S.cl S.c1 S.c2 S.c3 S.c4), S.kit, _, rfl, iteF ?_⟩
  exact k _ _ (Same.refl _) rfl
end
end Xq

/-! Texts of shapes, for any equation: what is asked of them holds by itself. -/
namespace Xq
open PySem PySem.Spec PyProof.Rows L2
/-! texts -/
def wordsL (xs : List Int) : Str := Txt.join (Str.ofString " ") (xs.map W)
/-- what text_of tells -/
def txL (r : Int) (xs : List Int) : Str := ((((Str.empty ++ Str.ofString "root ") ++ W r) ++ Str.ofString " of ") ++ wordsL xs)
def okTx (r : Int) (xs : List Int) : Bool := decide (r.natAbs < 2 ^ 1000) && (xs.all fun x => decide (x.natAbs < 2 ^ 1000)) && decide (xs.length ≤ 100) && decide (((xs.map W).map (·.length)).sum + (xs.map W).length * (Str.ofString " ").length ≤ 16777216) &&
  decide ((Str.empty ++ Str.ofString "root ").length ≤ 600) && decide (((Str.empty ++ Str.ofString "root ") ++ W r).length ≤ 600) && decide ((((Str.empty ++ Str.ofString "root ") ++ W r) ++ Str.ofString " of ").length ≤ 600) && decide ((txL r xs).length ≤ 600) && decide ((wordsL xs).length ≤ 600)
theorem sp_tl : TL.tl (Str.ofString " ") = [32] := rfl
theorem tl_words : ∀ xs : List Int, TL.tl (wordsL xs) = TL.joinL [32] ((xs.map W).map TL.tl) := fun xs => by
  unfold wordsL
  rw [TL.join_eq, TL.tl_join, sp_tl]
theorem tl_root : TL.tl (Str.empty ++ Str.ofString "root ") = [114, 111, 111, 116, 32] := rfl
theorem tl_tx (r : Int) (xs : List Int) : TL.tl (txL r xs) = [114, 111, 111, 116, 32] ++ (TL.tl (W r) ++ ([32, 111, 102, 32] ++ TL.joinL [32] ((xs.map W).map TL.tl))) := by
  unfold txL
  rw [TL.tl_append, TL.tl_append, TL.tl_append, tl_root, tl_words, List.append_assoc, List.append_assoc]
  rfl
theorem tx_join (r : Int) {xs : List Int} (h : xs ≠ []) : txL r xs = Txt.join (Str.ofString " ") (Str.ofString "root" :: W r :: Str.ofString "of" :: xs.map W) := by
  refine TL.ext_tl ?_
  rw [tl_tx, TL.join_eq, TL.tl_join, sp_tl]
  cases xs with
  | nil => exact absurd rfl h
  | cons x l => 
    show _ = [114, 111, 111, 116] ++ ([32] ++ (TL.tl (W r) ++ ([32] ++ ([111, 102] ++ ([32] ++ TL.joinL [32] (((x :: l).map W).map TL.tl))))))
    simp only [List.cons_append, List.nil_append, List.append_assoc]
theorem split_tx (r : Int) {xs : List Int} (h : xs ≠ []) : Txt.split (txL r xs) (Str.ofString " ") = Str.ofString "root" :: W r :: Str.ofString "of" :: xs.map W := by
  rw [tx_join r h]
  refine TL.split_join (s := 32) (S := []) rfl (by decide +kernel) (by simp) ?_
  intro p hp
  rcases List.mem_cons.mp hp with rfl | hp
  · decide
  rcases List.mem_cons.mp hp with rfl | hp
  · exact free32 r
  rcases List.mem_cons.mp hp with rfl | hp
  · decide
  obtain ⟨x, _, rfl⟩ := List.mem_map.mp hp
  exact free32 x
theorem joinL_len : ∀ ps : List (List Nat), (TL.joinL [32] ps).length ≤ (ps.map (·.length)).sum + ps.length
  | [] => by decide
  | [p] => by
    show p.length ≤ p.length + 0 + 1
    omega
  | p :: q :: r => by
    have h := joinL_len (q :: r)
    show (p ++ ([32] ++ TL.joinL [32] (q :: r))).length ≤ _
    rw [List.length_append, List.length_append, List.map_cons, List.sum_cons]
    have e : (p :: q :: r).length = (q :: r).length + 1 := rfl
    rw [e]
    show p.length + (1 + _) ≤ _
    omega
theorem sum_le {c : Nat} : ∀ {l : List Nat}, (∀ x ∈ l, x ≤ c) → l.sum ≤ c * l.length
  | [], _ => by simp
  | x :: l, h => by
    have h1 := h x List.mem_cons_self
    have h2 := sum_le (l := l) fun y hy => h y (List.mem_cons_of_mem _ hy)
    rw [List.sum_cons, List.length_cons, Nat.mul_succ]
    omega
/-- the terms and the rank are small -/
def smX (xs : List Int) : Bool := decide (xs.length ≤ 6) && xs.all fun x => decide (x.natAbs ≤ 1000)
theorem smX_ok {xs : List Int} (h : smX xs = true) : xs.length ≤ 6 ∧ ∀ x ∈ xs, x.natAbs ≤ 1000 := by
  obtain ⟨h1, h2⟩ := Bool.and_eq_true_iff.mp h
  exact ⟨of_decide_eq_true h1, fun x hx => of_decide_eq_true (List.all_eq_true.mp h2 x hx)⟩
theorem words_sum {xs : List Int} (h6 : xs.length ≤ 6) (hx : ∀ x ∈ xs, x.natAbs ≤ 1000) : ((xs.map W).map (·.length)).sum ≤ 30 := by
  have h := sum_le (c := 5) (l := (xs.map W).map (·.length)) fun y hy => by
    obtain ⟨z, hz, rfl⟩ := List.mem_map.mp hy
    obtain ⟨x, hx', rfl⟩ := List.mem_map.mp hz
    exact w_len (hx x hx')
  rw [List.length_map, List.length_map] at h
  omega
theorem words_len {xs : List Int} (h6 : xs.length ≤ 6) (hx : ∀ x ∈ xs, x.natAbs ≤ 1000) : (wordsL xs).length ≤ 36 := by
  rw [TL.len_tl, tl_words]
  have h := joinL_len ((xs.map W).map TL.tl)
  have e : (((xs.map W).map TL.tl).map (·.length)) = (xs.map W).map (·.length) := by
    rw [List.map_map]
    refine List.map_congr_left fun s _ => ?_
    exact (TL.len_tl s).symm
  rw [e, List.length_map, List.length_map] at h
  have := words_sum h6 hx
  omega
theorem tx_len {r : Int} {xs : List Int} (hr : r.natAbs ≤ 1000) (h6 : xs.length ≤ 6) (hx : ∀ x ∈ xs, x.natAbs ≤ 1000) : (txL r xs).length ≤ 50 := by
  have hw := words_len h6 hx
  have hr' := w_len hr
  rw [TL.len_tl] at hw hr' ⊢
  rw [tl_words] at hw
  rw [tl_tx]
  simp only [List.length_append, List.length_cons, List.length_nil]
  omega
theorem okTx_of {r : Int} {xs : List Int} (hr : r.natAbs ≤ 1000) (h6 : xs.length ≤ 6) (hx : ∀ x ∈ xs, x.natAbs ≤ 1000) : okTx r xs = true := by
  have k10 : ∀ {n : Nat}, n ≤ 1000 → n < 2 ^ 1000 := fun {n} h => Nat.lt_of_le_of_lt h (by decide)
  have e1 : (Str.empty ++ Str.ofString "root ").length = 5 := rfl
  have e2 : (Str.ofString " of ").length = 4 := rfl
  have e3 : (Str.ofString " ").length = 1 := rfl
  have app : ∀ a b : Str, (a ++ b).length = a.length + b.length := fun a b => by
    rw [TL.len_tl, TL.len_tl, TL.len_tl, TL.tl_append, List.length_append]
  have hw := w_len hr
  unfold okTx
  simp only [Bool.and_eq_true, decide_eq_true_eq]
  refine ⟨⟨⟨⟨⟨⟨⟨⟨k10 hr, List.all_eq_true.mpr fun x h => decide_eq_true (k10 (hx x h))⟩, by omega⟩, ?_⟩, ?_⟩, ?_⟩, ?_⟩, Nat.le_trans (tx_len hr h6 hx) (by decide)⟩, Nat.le_trans (words_len h6 hx) (by decide)⟩
  · have := words_sum h6 hx
    rw [e3, List.length_map]
    omega
  · rw [e1]
    decide
  · rw [app, e1]
    omega
  · rw [app, app, e1, e2]
    omega
theorem W_inj {i j : Int} (hi : i.natAbs ≤ 1000) (hj : j.natAbs ≤ 1000) (h : W i = W j) : i = j := by
  have a := w_int hi
  rw [h, w_int hj] at a
  exact (Option.some.inj a).symm
/-- unlike shapes have unlike texts -/
theorem tx_inj {r r' : Int} {xs ys : List Int} (hr : r.natAbs ≤ 1000) (hr' : r'.natAbs ≤ 1000) (hx : ∀ x ∈ xs, x.natAbs ≤ 1000) (hy : ∀ x ∈ ys, x.natAbs ≤ 1000) (nx : xs ≠ []) (ny : ys ≠ []) (h : txL r xs = txL r' ys) : r = r' ∧ xs = ys := by
  have e := split_tx r nx
  rw [h, split_tx r' ny] at e
  injection e with _ e
  injection e with e1 e
  injection e with _ e
  refine ⟨(W_inj hr' hr e1).symm, ?_⟩
  clear nx ny h
  induction xs generalizing ys with
  | nil => cases ys with
    | nil => rfl
    | cons y l => cases e
  | cons x l ih => cases ys with
    | nil => cases e
    | cons y l' =>
      rw [List.map_cons, List.map_cons] at e
      injection e with e1 e2
      rw [W_inj (hy y List.mem_cons_self) (hx x List.mem_cons_self) e1, ih (fun z hz => hx z (List.mem_cons_of_mem _ hz)) (fun z hz => hy z (List.mem_cons_of_mem _ hz)) e2]
end Xq

/-! guessed and refined in general: where the sign changes once in a stretch, the floor is told. -/
namespace Xq
open PySem PySem.Spec PyProof.Rows L2
theorem foV_smK {K : Nat} {t b : Int} (ht : Sm K t) (hb : Sm K b) : ∀ (l : List Int), (∀ x ∈ l, Sm K x) → ∀ (k : Nat) (a : Int × Int), Sm k a.1 → Sm k a.2 → Sm (k + (K + 1) * l.length) (l.foldl (stV t b) a).1 ∧ Sm (k + (K + 1) * l.length) (l.foldl (stV t b) a).2
  | [], _, k, a, h1, h2 => ⟨h1, h2⟩
  | x :: l, hx, k, a, h1, h2 => by
    have hx0 := hx x List.mem_cons_self
    have q := foV_smK ht hb l (fun y hy => hx y (List.mem_cons_of_mem _ hy)) (k + (K + 1)) (stV t b a x) (sm_add (a := k + K) (sm_mul h1 ht) (sm_le (sm_mul hx0 h2) (by omega))) (sm_le (sm_mul h2 hb) (by omega))
    have e : k + (K + 1) + (K + 1) * l.length = k + (K + 1) * (x :: l).length := by
      rw [List.length_cons, Nat.mul_succ]
      omega
    rw [e] at q
    exact q
theorem val_sm {K : Nat} {xs : List Int} {t b : Int} (ht : Sm K t) (hb : Sm K b) (hx : ∀ x ∈ xs, Sm K x) : Sm (1 + (K + 1) * xs.length) (valL xs t b) := by
  have q := foV_smK ht hb xs.reverse (fun x h => hx x (List.mem_reverse.mp h)) 1 (0, 1) (by decide) (by decide)
  rw [List.length_reverse] at q
  exact q.1
theorem okVB_of {xs : List Int} {t b : Int} (l1 : 1 ≤ xs.length) (l8 : xs.length ≤ 8) (ht : Sm 900 t) (hb : Sm 900 b) (hx : ∀ x ∈ xs, Sm 900 x) : okVB xs t b = true := by
  have k : ∀ {x : Int}, Sm 900 x → smI 4000 x = true := fun {x} h => decide_eq_true (sm_le h (by decide))
  unfold okVB smB
  rw [decide_eq_true l1, decide_eq_true l8, k ht, k hb]
  exact List.all_eq_true.mpr fun x h => decide_eq_true (sm_le (hx x h) (by decide))
/-- in a stretch the sign changes once, at no fraction of a power of 2 -/
structure Fl (xs : List Int) (s : Bool) (F : Nat → Int) (b0 : Nat) : Prop where
  st : ∀ b, b0 ≤ b → F (b + 1) = 2 * F b ∨ F (b + 1) = 2 * F b + 1
  sg : ∀ b t, b0 ≤ b → F b0 * 2 ^ (b - b0) ≤ t → t ≤ (F b0 + 1) * 2 ^ (b - b0) → (ng xs t (pw b) = s ↔ t ≤ F b)
  nz : ∀ b t, b0 ≤ b → F b0 * 2 ^ (b - b0) ≤ t → t ≤ (F b0 + 1) * 2 ^ (b - b0) → valL xs t (pw b) ≠ 0
  l3 : 3 ≤ xs.length
  l8 : xs.length ≤ 8
  sm : ∀ x ∈ xs, Sm 30 x
  f0 : 0 ≤ F b0
  f1 : F b0 < 2 ^ 30
theorem two_pos (k : Nat) : (0 : Int) < 2 ^ k := Int.pow_pos (by decide)
theorem two_add (a b : Nat) : (2 : Int) ^ (a + b) = 2 ^ a * 2 ^ b := Int.pow_add ..
section
variable {xs : List Int} {s : Bool} {F : Nat → Int} {b0 : Nat}
theorem Fl.up (h : Fl xs s F b0) {b : Nat} (hb : b0 ≤ b) : ∀ j, F b * 2 ^ j ≤ F (b + j) ∧ F (b + j) + 1 ≤ (F b + 1) * 2 ^ j
  | 0 => by
    show F b * 1 ≤ F b ∧ F b + 1 ≤ (F b + 1) * 1
    omega
  | j + 1 => by
    obtain ⟨h1, h2⟩ := h.up hb j
    have e : (2 : Int) ^ (j + 1) = 2 ^ j * 2 := Int.pow_succ ..
    have a1 : F b * 2 ^ (j + 1) = F b * 2 ^ j * 2 := by rw [e, Int.mul_assoc]
    have a2 : (F b + 1) * 2 ^ (j + 1) = (F b + 1) * 2 ^ j * 2 := by rw [e, Int.mul_assoc]
    rw [a1, a2]
    show _ ≤ F (b + j + 1) ∧ F (b + j + 1) + 1 ≤ _
    rcases h.st (b + j) (by omega) with z | z <;> rw [z] <;> omega
/-- the finer stretch lies in the first one -/
theorem Fl.rng (h : Fl xs s F b0) {b k : Nat} (hb : b0 ≤ b) {t : Int} (h1 : F b * 2 ^ k ≤ t) (h2 : t ≤ (F b + 1) * 2 ^ k) : F b0 * 2 ^ (b + k - b0) ≤ t ∧ t ≤ (F b0 + 1) * 2 ^ (b + k - b0) := by
  obtain ⟨j, rfl⟩ : ∃ j, b = b0 + j := ⟨b - b0, by omega⟩
  obtain ⟨u1, u2⟩ := h.up (Nat.le_refl b0) j
  have e : b0 + j + k - b0 = j + k := by omega
  have p := two_pos k
  rw [e, two_add, ← Int.mul_assoc, ← Int.mul_assoc]
  exact ⟨Int.le_trans (Int.mul_le_mul_of_nonneg_right u1 (Int.le_of_lt p)) h1, Int.le_trans h2 (Int.mul_le_mul_of_nonneg_right u2 (Int.le_of_lt p))⟩
theorem Fl.sg' (h : Fl xs s F b0) {b k : Nat} (hb : b0 ≤ b) {t : Int} (h1 : F b * 2 ^ k ≤ t) (h2 : t ≤ (F b + 1) * 2 ^ k) : (ng xs t (pw (b + k)) = s ↔ t ≤ F (b + k)) ∧ valL xs t (pw (b + k)) ≠ 0 := by
  obtain ⟨r1, r2⟩ := h.rng hb h1 h2
  exact ⟨h.sg (b + k) t (by omega) r1 r2, h.nz (b + k) t (by omega) r1 r2⟩
theorem sm_of {a : Nat} {t : Int} (h0 : 0 ≤ t) (h1 : t < 2 ^ a) : Sm a t := by
  obtain ⟨n, rfl⟩ := Int.eq_ofNat_of_zero_le h0
  show n < 2 ^ a
  have e : ((2 : Int) ^ a) = ((2 ^ a : Nat) : Int) := by rw [Int.natCast_pow]; rfl
  rw [e] at h1
  exact Int.ofNat_lt.mp h1
/-- all that lies in the first stretch is small -/
theorem Fl.small (h : Fl xs s F b0) {b : Nat} (hb : b0 ≤ b) (lb : b ≤ 800) {t : Int} (h1 : F b0 * 2 ^ (b - b0) ≤ t) (h2 : t ≤ (F b0 + 1) * 2 ^ (b - b0)) : Sm 900 t ∧ 0 ≤ t := by
  have p := two_pos (b - b0)
  have t0 : 0 ≤ t := Int.le_trans (Int.mul_nonneg h.f0 (Int.le_of_lt p)) h1
  refine ⟨sm_of t0 (Int.lt_of_le_of_lt h2 ?_), t0⟩
  have a1 : (F b0 + 1) * 2 ^ (b - b0) ≤ 2 ^ 30 * 2 ^ (b - b0) := Int.mul_le_mul_of_nonneg_right (by have := h.f1; omega) (Int.le_of_lt p)
  refine Int.lt_of_le_of_lt a1 ?_
  rw [← two_add]
  exact Int.pow_lt_pow_of_lt (by decide) (by omega)
theorem pw_sm {b : Nat} (lb : b ≤ 800) : Sm 900 (pw b) := by
  have e : pw b = 2 ^ b := Int.one_mul _
  rw [e]
  exact sm_of (Int.le_of_lt (two_pos b)) (Int.pow_lt_pow_of_lt (by decide) (by omega))
theorem Fl.okv (h : Fl xs s F b0) {b : Nat} (hb : b0 ≤ b) (lb : b ≤ 800) {t : Int} (h1 : F b0 * 2 ^ (b - b0) ≤ t) (h2 : t ≤ (F b0 + 1) * 2 ^ (b - b0)) : okVB xs t (pw b) = true :=
  okVB_of (by have := h.l3; omega) h.l8 (h.small hb lb h1 h2).1 (pw_sm lb) fun x hx => sm_le (h.sm x hx) (by decide)
theorem Fl.val8 (h : Fl xs s F b0) {b : Nat} (hb : b0 ≤ b) (lb : b ≤ 800) {t : Int} (h1 : F b0 * 2 ^ (b - b0) ≤ t) (h2 : t ≤ (F b0 + 1) * 2 ^ (b - b0)) : Sm 7900 (valL xs t (pw b)) := by
  have q := val_sm (K := 900) (h.small hb lb h1 h2).1 (pw_sm lb) fun x hx => sm_le (h.sm x hx) (by decide)
  have := h.l8
  exact sm_le q (by omega)
theorem fdiv_in {X Y : Int} {k : Nat} (h : (X < 0 ∧ 0 < Y) ∨ (0 < X ∧ Y < 0)) : 0 ≤ (X * 2 ^ k).fdiv (X - Y) ∧ (X * 2 ^ k).fdiv (X - Y) < 2 ^ k := by
  have p := two_pos k
  have main : ∀ {a d : Int}, 0 ≤ a → a < d → 0 ≤ (a * 2 ^ k).fdiv d ∧ (a * 2 ^ k).fdiv d < 2 ^ k := fun {a d} h1 h2 => by
    rw [Int.fdiv_eq_ediv_of_nonneg _ (by omega)]
    refine ⟨Int.ediv_nonneg (Int.mul_nonneg h1 (Int.le_of_lt p)) (by omega), Int.ediv_lt_of_lt_mul (by omega) ?_⟩
    rw [Int.mul_comm]
    exact Int.mul_lt_mul_of_pos_left h2 p
  rcases h with ⟨h1, h2⟩ | ⟨h1, h2⟩
  · have e : (X * 2 ^ k).fdiv (X - Y) = ((-X) * 2 ^ k).fdiv (Y - X) := by
      rw [← Int.neg_fdiv_neg, Int.neg_mul, Int.neg_sub]
    rw [e]
    exact main (by omega) (by omega)
  · exact main (by omega) (by omega)
theorem Fl.gue (h : Fl xs s F b0) {b k : Nat} (hb : b0 ≤ b) (k1 : 1 ≤ k) (lb : b + k ≤ 800) :
    okG xs (F b) b k = true ∧ (gueL xs (F b) b k = none ∨ gueL xs (F b) b k = some (F (b + k))) ∧ (k = 1 → gueL xs (F b) b k = some (F (b + k))) := by
  have p := two_pos k
  -- both ends
  have A0 : F b * 2 ^ 0 ≤ F b := by show F b * 1 ≤ _; omega
  have A1 : F b ≤ (F b + 1) * 2 ^ 0 := by show F b ≤ (F b + 1) * 1; omega
  have B0 : F b * 2 ^ 0 ≤ F b + 1 := by show F b * 1 ≤ _; omega
  have B1 : F b + 1 ≤ (F b + 1) * 2 ^ 0 := by show F b + 1 ≤ (F b + 1) * 1; omega
  obtain ⟨sA, nA⟩ := h.sg' hb A0 A1
  obtain ⟨sB, nB⟩ := h.sg' hb B0 B1
  have sA : ng xs (F b) (pw b) = s := sA.mpr (Int.le_refl _)
  have sB : ¬ ng xs (F b + 1) (pw b) = s := fun e => by
    have z : F b + 1 ≤ F b := sB.mp e
    omega
  have nA : valL xs (F b) (pw b) ≠ 0 := nA
  have nB : valL xs (F b + 1) (pw b) ≠ 0 := nB
  have opp : (valL xs (F b) (pw b) < 0 ∧ 0 < valL xs (F b + 1) (pw b)) ∨ (0 < valL xs (F b) (pw b) ∧ valL xs (F b + 1) (pw b) < 0) := by
    rw [← sA] at sB
    unfold ng at sB
    by_cases c1 : valL xs (F b) (pw b) < 0
    · by_cases c2 : valL xs (F b + 1) (pw b) < 0
      · rw [decide_eq_true c1, decide_eq_true c2] at sB
        exact absurd rfl sB
      · exact .inl ⟨c1, by omega⟩
    · by_cases c2 : valL xs (F b + 1) (pw b) < 0
      · exact .inr ⟨by omega, c2⟩
      · rw [decide_eq_false c1, decide_eq_false c2] at sB
        exact absurd rfl sB
  obtain ⟨q0, q1⟩ := fdiv_in (k := k) opp
  have eP : plc xs (F b) b k = F b * 2 ^ k + (valL xs (F b) (pw b) * 2 ^ k).fdiv (valL xs (F b) (pw b) - valL xs (F b + 1) (pw b)) := rfl
  have eM : (F b + 1) * 2 ^ k = F b * 2 ^ k + 2 ^ k := by rw [Int.add_mul, Int.one_mul]
  obtain ⟨u1, u2⟩ := h.up hb k
  generalize hP : plc xs (F b) b k = Pl at *
  have P0 : F b * 2 ^ k ≤ Pl := by omega
  have P1 : Pl + 1 ≤ (F b + 1) * 2 ^ k := by omega
  have sP : ng xs Pl (pw (b + k)) = s ↔ Pl ≤ F (b + k) := (h.sg' hb P0 (by omega)).1
  have sP1 : ng xs (Pl + 1) (pw (b + k)) = s ↔ Pl + 1 ≤ F (b + k) := (h.sg' hb (by omega) P1).1
  have eA : adj xs (F b) b k = if Pl ≤ F (b + k) then (if Pl + 1 ≤ F (b + k) then Pl + 1 else Pl) else Pl - 1 := by
    unfold adj
    rw [hP, sA]
    by_cases c1 : Pl ≤ F (b + k)
    · rw [if_pos (sP.mpr c1), if_pos c1]
      by_cases c2 : Pl + 1 ≤ F (b + k)
      · rw [if_pos (sP1.mpr c2), if_pos c2]
      · rw [if_neg (fun z => c2 (sP1.mp z)), if_neg c2]
    · rw [if_neg (fun z => c1 (sP.mp z)), if_neg c1]
  have J0 : F b * 2 ^ k ≤ adj xs (F b) b k := by
    rw [eA]
    split
    · split <;> omega
    · omega
  have J1 : adj xs (F b) b k + 1 ≤ (F b + 1) * 2 ^ k := by
    rw [eA]
    split
    · split <;> omega
    · omega
  have sJ : ng xs (adj xs (F b) b k) (pw (b + k)) = s ↔ adj xs (F b) b k ≤ F (b + k) := (h.sg' hb J0 (by omega)).1
  have sJ1 : ng xs (adj xs (F b) b k + 1) (pw (b + k)) = s ↔ adj xs (F b) b k + 1 ≤ F (b + k) := (h.sg' hb (by omega) J1).1
  have eG : gueL xs (F b) b k = if adj xs (F b) b k = F (b + k) then some (F (b + k)) else none := by
    unfold gueL
    rw [sA]
    by_cases c1 : adj xs (F b) b k = F (b + k)
    · rw [if_pos (sJ.mpr (by omega)), if_neg (fun z => absurd (sJ1.mp z) (by omega)), if_pos c1, c1]
    · rw [if_neg c1]
      by_cases c2 : adj xs (F b) b k ≤ F (b + k)
      · rw [if_pos (sJ.mpr c2), if_pos (sJ1.mpr (by omega))]
      · rw [if_neg (fun z => c2 (sJ.mp z))]
  refine ⟨?_, ?_, ?_⟩
  · have bb : b ≤ 800 := by omega
    have rA := h.rng (k := 0) hb A0 A1
    have rB := h.rng (k := 0) hb B0 B1
    have rP := h.rng (k := k) hb P0 (by omega)
    have rP1 := h.rng (k := k) (t := Pl + 1) hb (by omega) P1
    have rJ := h.rng (k := k) hb J0 (by omega)
    have rJ1 := h.rng (k := k) (t := adj xs (F b) b k + 1) hb (by omega) J1
    have v1 := h.val8 hb bb rA.1 rA.2
    have v2 := h.val8 hb bb rB.1 rB.2
    unfold okG
    simp only [Bool.and_eq_true, decide_eq_true_eq, Bool.not_eq_true', decide_eq_false_iff_not]
    refine ⟨⟨⟨⟨⟨⟨⟨⟨⟨⟨decide_eq_true (sm_le (h.small hb bb rA.1 rA.2).1 (by decide)), by omega⟩, h.okv hb bb rA.1 rA.2⟩, h.okv hb bb rB.1 rB.2⟩, by omega⟩, decide_eq_true (sm_le v1 (by decide))⟩, decide_eq_true (sm_le (sm_sub v1 v2) (by decide))⟩,
      ?_⟩, ?_⟩, h.okv (by omega) lb rJ.1 rJ.2⟩, h.okv (by omega) lb rJ1.1 rJ1.2⟩
    · rw [hP]
      exact h.okv (by omega) lb rP.1 rP.2
    · rw [hP]
      exact h.okv (by omega) lb rP1.1 rP1.2
  · rw [eG]
    split
    · exact .inr rfl
    · exact .inl rfl
  · rintro rfl
    have e2 : (2 : Int) ^ 1 = 2 := rfl
    rw [eG, if_pos]
    rw [eA]
    rw [e2] at *
    split
    · split <;> omega
    · omega
theorem Fl.ref (h : Fl xs s F b0) {wd : Nat} (lw : wd ≤ 800) : ∀ (n b st : Nat), b0 ≤ b → b ≤ wd → 1 ≤ st → 2 * (wd - b) + min st (wd - b) ≤ n → okF xs wd n (F b) b st = true ∧ refS xs wd n (F b) b st = (F wd, wd)
  | 0, b, st, hb, hw, h1, hn => by
    have e : b = wd := by omega
    subst e
    exact ⟨decide_eq_true (Nat.le_refl _), rfl⟩
  | n + 1, b, st, hb, hw, h1, hn => by
    unfold okF refS
    by_cases e : wd ≤ b
    · have e' : b = wd := by omega
      subst e'
      rw [decide_eq_true e, if_pos e]
      exact ⟨rfl, rfl⟩
    · rw [decide_eq_false e, if_neg e, Bool.false_or]
      obtain ⟨o, d, one⟩ := h.gue (k := min st (wd - b)) hb (by omega) (by omega)
      rw [o, Bool.true_and]
      rcases d with d | d
      · rw [d]
        have k2 : 2 ≤ min st (wd - b) := by
          rcases Nat.lt_or_ge 1 (min st (wd - b)) with z | z
          · exact z
          · have := one (by omega)
            rw [d] at this
            cases this
        exact h.ref lw n b (min st (wd - b) / 2) hb hw (by omega) (by omega)
      · rw [d]
        exact h.ref lw n (b + min st (wd - b)) (2 * min st (wd - b)) (by omega) (by omega) (by omega) (by omega)
theorem Fl.refL (h : Fl xs s F b0) {wd : Nat} (lw : wd ≤ 800) (hw : b0 ≤ wd) : okRf xs (F b0) b0 wd = true ∧ refL xs (F b0) b0 wd = F wd := by
  obtain ⟨h1, h2⟩ := h.ref lw 20000 b0 1 (Nat.le_refl _) hw (Nat.le_refl _) (by omega)
  have l3 := h.l3
  have l8 := h.l8
  unfold okRf Xq.refL
  rw [if_neg (by omega), if_neg (by omega), h1, h2, decide_eq_true (show xs.length ≤ 1000 by omega), decide_eq_true (show wd ≤ 4000 by omega), Nat.sub_self]
  refine ⟨rfl, ?_⟩
  show F wd / 1 = F wd
  omega
end
end Xq

/-! Quadratic equations c + m x + x x: values, the chain, changes. -/
namespace Xq
open PySem PySem.Spec PyProof.Rows L2
theorem val3 (c m t b : Int) : valL [c, m, 1] t b = (t + m * b) * t + c * (b * b) := by
  show (((0 * t + 1 * 1) * t + m * (1 * b)) * t + c * (1 * b * b)) = _
  simp only [Int.zero_mul, Int.zero_add, Int.one_mul, Int.mul_one]
theorem val2 (m t b : Int) : valL [m, 2] t b = 2 * t + m * b := by
  show ((0 * t + 2 * 1) * t + m * (1 * b)) = _
  simp only [Int.zero_mul, Int.zero_add, Int.one_mul, Int.mul_one]
theorem val1 (t b : Int) : valL [1] t b = 1 := by
  show (0 * t + 1 * 1) = _
  simp only [Int.zero_mul, Int.zero_add, Int.one_mul]
def dis (c m : Int) : Int := m * m - 4 * c
theorem four (c m t b : Int) : 4 * valL [c, m, 1] t b = (2 * t + m * b) * (2 * t + m * b) - dis c m * (b * b) := by
  rw [val3]
  unfold dis
  grind
theorem nsq {D : Int} (h : ∀ u : Int, u * u ≠ D) : ∀ (k : Nat) (u : Int), u * u ≠ D * (2 ^ k * 2 ^ k)
  | 0, u, e => h u (by rw [e]; show D * (1 * 1) = D; omega)
  | k + 1, u, e => by
    have e2 : D * ((2 : Int) ^ (k + 1) * 2 ^ (k + 1)) = 4 * (D * (2 ^ k * 2 ^ k)) := by
      rw [Int.pow_succ]
      grind
    rw [e2] at e
    rcases Int.emod_two_eq u with z | z
    · obtain ⟨v, rfl⟩ : ∃ v, u = 2 * v := ⟨u / 2, by omega⟩
      refine nsq h k v ?_
      have : 2 * v * (2 * v) = 4 * (v * v) := by grind
      omega
    · obtain ⟨v, rfl⟩ : ∃ v, u = 2 * v + 1 := ⟨u / 2, by omega⟩
      have : (2 * v + 1) * (2 * v + 1) = 4 * (v * v) + 4 * v + 1 := by grind
      omega
theorem pw_eq (k : Nat) : pw k = 2 ^ k := Int.one_mul _
theorem nzq {c m : Int} (h : ∀ u : Int, u * u ≠ dis c m) (t : Int) (k : Nat) : valL [c, m, 1] t (pw k) ≠ 0 := fun e => by
  have q := four c m t (pw k)
  rw [e, pw_eq] at q
  exact nsq h k (2 * t + m * 2 ^ k) (by omega)
theorem der3 (c m : Int) : derL [c, m, 1] = [m, 2] := by
  show [((1 + 0 : Nat) : Int) * m, ((1 + 1 : Nat) : Int) * 1] = _
  simp
theorem trim_keep {xs : List Int} (h : xs.getLastD 0 ≠ 0) : trimI xs = xs := by
  cases e : xs.length with
  | zero =>
    cases xs with
    | nil => rfl
    | cons x l => cases e
  | succ n =>
    unfold trimI
    rw [e]
    unfold trimM
    have : xs.getD n 0 = xs.getLastD 0 := by
      rw [List.getD_eq_getElem?_getD, List.getLastD_eq_getLast?, List.getLast?_eq_getElem?, e]
      rfl
    rw [this, if_neg h, ← e, List.take_length]
theorem trim_drop (xs : List Int) : trimI (xs ++ [0]) = trimI xs := by
  unfold trimI
  rw [List.length_append]
  show (xs ++ [0]).take (trimM (xs ++ [0]) (xs.length + 1)) = _
  have h0 : ∀ m, m ≤ xs.length → trimM (xs ++ [0]) m = trimM xs m := fun m => by
    induction m with
    | zero => intro _; rfl
    | succ m ih =>
      intro hm
      unfold trimM
      have : (xs ++ [0]).getD m 0 = xs.getD m 0 := by
        rw [List.getD_eq_getElem?_getD, List.getD_eq_getElem?_getD, List.getElem?_append_left (by omega)]
      rw [this, ih (by omega)]
  have : (xs ++ [0]).getD xs.length 0 = 0 := by
    rw [List.getD_eq_getElem?_getD, List.getElem?_append_right (Nat.le_refl _), Nat.sub_self]
    rfl
  have e : trimM (xs ++ [0]) (xs.length + 1) = trimM xs xs.length := by
    rw [← h0 _ (Nat.le_refl _)]
    exact if_pos this
  rw [e, List.take_append_of_le_length (trimM_le xs xs.length)]
theorem nxt_a (c m : Int) : nxt [m, 2] [c, m, 1] = trimI [2 * c, m] := by
  show trimI [0 + 2 * c, 0 + 2 * m - 1 * m, 0 + 2 * 1 - 1 * 2] = _
  rw [show [0 + 2 * c, 0 + 2 * m - 1 * m, 0 + 2 * 1 - 1 * 2] = [2 * c, m] ++ [0] by simp; omega, trim_drop]
theorem nxt_b (c m : Int) : nxt [m, 2] [2 * c, m] = trimI [-(dis c m)] := by
  show trimI [0 + 2 * (2 * c) - m * m, 0 + 2 * m - m * 2] = _
  rw [show [0 + 2 * (2 * c) - m * m, 0 + 2 * m - m * 2] = [-(dis c m)] ++ [0] by unfold dis; simp; omega, trim_drop]
theorem nxt_c (m : Int) : nxt [1] [m, 2] = trimI [m] := by
  show trimI [0 + 1 * m, 0 + 1 * 2 - 2 * 1] = _
  rw [show [0 + 1 * m, 0 + 1 * 2 - 2 * 1] = [m] ++ [0] by simp, trim_drop]
theorem nxt_d (m : Int) : nxt [1] [m] = [] := by
  show trimI [0 + 1 * m - m * 1] = _
  rw [show [0 + 1 * m - m * 1] = [] ++ [0] by simp, trim_drop]
  rfl
theorem prim_neg {x : Int} (h : x < 0) : primL [x] = [-1] := by
  have e1 : gcdL [x] = x.natAbs := by
    show Nat.gcd 0 x.natAbs = _
    exact Nat.gcd_zero_left _
  unfold primL
  rw [e1]
  by_cases h1 : 1 < x.natAbs
  · rw [if_pos h1]
    show [Int.fdiv x (x.natAbs : Nat)] = [-1]
    have e2 : ((x.natAbs : Nat) : Int) = -x := by omega
    rw [e2, Int.fdiv_eq_ediv_of_nonneg _ (by omega)]
    have : x / (-x) = -1 := by
      rw [Int.ediv_neg, Int.ediv_self (by omega)]
    rw [this]
  · rw [if_neg h1]
    have : x = -1 := by omega
    rw [this]
/-- the conditions -/
structure Qd (c m : Int) : Prop where
  c1 : -1000 ≤ c
  c2 : c ≤ 1000
  m1 : -1000 ≤ m
  m2 : m ≤ 1000
  pos : 0 < dis c m
  ns : ∀ u : Int, u * u ≠ dis c m
theorem Qd.c0 {c m : Int} (h : Qd c m) : c ≠ 0 := fun e => by
  refine h.ns m ?_
  unfold dis
  rw [e]
  omega
theorem smB_of {xs : List Int} (h : ∀ x ∈ xs, x.natAbs ≤ 4000000) : smB 4000 xs = true :=
  List.all_eq_true.mpr fun x hx => decide_eq_true (Nat.lt_of_le_of_lt (h x hx) (Nat.lt_of_lt_of_le (show 4000000 < 2 ^ 22 by decide) (Nat.pow_le_pow_right (by decide) (by decide))))
section
variable {c m : Int}
theorem Qd.dis_le (h : Qd c m) : dis c m ≤ 1004000 := by
  have h1 : m * m ≤ 1000 * 1000 := by
    have := Int.natAbs_mul_self' m
    have l : m.natAbs ≤ 1000 := by
      have := h.m1
      have := h.m2
      omega
    have l2 : m.natAbs * m.natAbs ≤ 1000 * 1000 := Nat.mul_le_mul l l
    omega
  have := h.c1
  unfold dis
  omega
theorem g9 {x : Int} (hx : x.natAbs ≤ 4000000) : gcdL [x] < 2 ^ 9000 := by
  have e : gcdL [x] = x.natAbs := Nat.gcd_zero_left _
  rw [e]
  exact Nat.lt_of_le_of_lt hx (Nat.lt_of_lt_of_le (show 4000000 < 2 ^ 22 by decide) (Nat.pow_le_pow_right (by decide) (by decide)))
theorem g90 : gcdL [] < 2 ^ 9000 := by
  have e : gcdL [] = 0 := rfl
  rw [e]
  exact Nat.two_pow_pos 9000
theorem okR_stop {ys xs : List Int} (h1 : xs.length < ys.length) (h2 : gcdL xs < 2 ^ 9000) : ∀ n, okR ys n xs = true
  | 0 => by
    unfold okR
    rw [decide_eq_true h1, decide_eq_true h2]
    rfl
  | n + 1 => by
    unfold okR
    rw [decide_eq_true h1, decide_eq_true h2]
    rfl
theorem okR_step {ys xs : List Int} {n : Nat} (h1 : ys.length ≤ xs.length) (h2 : smB 4000 xs = true) (h3 : xs.length ≤ 1000) (h4 : okR ys n (nxt ys xs) = true) : okR ys (n + 1) xs = true := by
  unfold okR
  rw [decide_eq_true h1, h2, decide_eq_true h3, h4]
  simp
theorem remS_stop {ys xs : List Int} (h : xs.length < ys.length) : ∀ n, remS ys n xs = xs
  | 0 => rfl
  | n + 1 => if_pos h
theorem remS_step {ys xs : List Int} {n : Nat} (h : ys.length ≤ xs.length) : remS ys (n + 1) xs = remS ys n (nxt ys xs) := if_neg (by omega)
theorem okC_step {n : Nat} {b a : List Int} {r : List (List Int)} (h0 : SeqAt.shaped (dT b) = true) (h1 : (PyData.eqv (dT b) (.tuple []) == b.isEmpty) = true) (h2 : b.length ≤ 1000) (h3 : smB 4000 b = true) (h4 : okR b 20 a = true) {x : List Int} (hx : remL b 20 a = x) (h5 : x.length ≤ 1000) (h6 : r.length ≤ 100)
    (h7 : okC n ((x.map fun x => -x) :: b :: a :: r) = true) : okC (n + 1) (b :: a :: r) = true := by
  unfold okC
  rw [h0, h1, decide_eq_true h2, h3, h4, hx, decide_eq_true h5, decide_eq_true h6, h7]
  simp
theorem chS_step {n : Nat} {b a : List Int} {r : List (List Int)} (h : b.isEmpty = false) {x : List Int} (hx : remL b 20 a = x) : chS (n + 1) (b :: a :: r) = chS n ((x.map fun x => -x) :: b :: a :: r) := by
  show (if b.isEmpty then b :: a :: r else chS n (((remL b 20 a).map fun x => -x) :: b :: a :: r)) = _
  rw [h, hx]
  rfl
theorem Qd.rem1 (h : Qd c m) : remL [m, 2] 20 [c, m, 1] = [-1] ∧ okR [m, 2] 20 [c, m, 1] = true := by
  have e0 : dis c m = m * m - 4 * c := rfl
  have hp := h.pos
  have hc1 := h.c1
  have hc2 := h.c2
  have hm1 := h.m1
  have hm2 := h.m2
  have hd := h.dis_le
  have l32 : ([m, 2] : List Int).length ≤ [c, m, 1].length := Nat.le_succ 2
  have q1 : [c, m, 1].length ≤ 1000 := show 3 ≤ 1000 by decide
  have s3 : smB 4000 [c, m, 1] = true := smB_of fun x hx => by
    simp only [List.mem_cons, List.not_mem_nil, or_false] at hx
    omega
  by_cases z : m = 0
  · have nz : 2 * c ≠ 0 := by have := h.c0; omega
    have e1 : nxt [m, 2] [c, m, 1] = [2 * c] := by
      rw [nxt_a, z, show [2 * c, 0] = [2 * c] ++ [0] from rfl, trim_drop, trim_keep (xs := [2 * c]) nz]
    have hn : 2 * c < 0 := by
      rw [z] at e0
      have e0 : dis c 0 = 0 - 4 * c := e0
      rw [z] at hp
      omega
    have lt : ([2 * c] : List Int).length < [m, 2].length := Nat.lt_succ_self 1
    refine ⟨?_, okR_step l32 s3 q1 ?_⟩
    · unfold remL
      rw [remS_step l32, e1, remS_stop lt]
      exact prim_neg hn
    · rw [e1]
      exact okR_stop lt (g9 (by omega)) _
  · have e1 : nxt [m, 2] [c, m, 1] = [2 * c, m] := by
      rw [nxt_a, trim_keep (xs := [2 * c, m]) z]
    have e1' : nxt [m, 2] [2 * c, m] = [-(dis c m)] := by
      rw [nxt_b, trim_keep]
      show -(dis c m) ≠ 0
      omega
    have s2 : smB 4000 [2 * c, m] = true := smB_of fun x hx => by
      simp only [List.mem_cons, List.not_mem_nil, or_false] at hx
      omega
    have l22 : ([m, 2] : List Int).length ≤ [2 * c, m].length := Nat.le_refl 2
    have lt : ([-(dis c m)] : List Int).length < [m, 2].length := Nat.lt_succ_self 1
    refine ⟨?_, okR_step l32 s3 q1 ?_⟩
    · unfold remL
      rw [remS_step l32, e1, remS_step l22, e1', remS_stop lt]
      exact prim_neg (by omega)
    · rw [e1]
      refine okR_step l22 s2 (show 2 ≤ 1000 by decide) ?_
      rw [e1']
      exact okR_stop lt (g9 (by omega)) _
theorem Qd.rem2 (h : Qd c m) : remL [1] 20 [m, 2] = [] ∧ okR [1] 20 [m, 2] = true := by
  have hm1 := h.m1
  have hm2 := h.m2
  have s2 : smB 4000 [m, 2] = true := smB_of fun x hx => by
    simp only [List.mem_cons, List.not_mem_nil, or_false] at hx
    omega
  have l12 : ([1] : List Int).length ≤ [m, 2].length := Nat.le_succ 1
  have lt : ([] : List Int).length < [(1 : Int)].length := Nat.lt_succ_self 0
  by_cases z : m = 0
  · have e1 : nxt [1] [m, 2] = [] := by
      rw [nxt_c, z, show [(0 : Int)] = [] ++ [0] from rfl, trim_drop]
      rfl
    refine ⟨?_, okR_step l12 s2 (show 2 ≤ 1000 by decide) ?_⟩
    · unfold remL
      rw [remS_step l12, e1, remS_stop lt]
      rfl
    · rw [e1]
      exact okR_stop lt g90 _
  · have e1 : nxt [1] [m, 2] = [m] := by
      rw [nxt_c, trim_keep (xs := [m]) z]
    have s1 : smB 4000 [m] = true := smB_of fun x hx => by
      simp only [List.mem_cons, List.not_mem_nil, or_false] at hx
      omega
    have l11 : ([1] : List Int).length ≤ [m].length := Nat.le_refl 1
    refine ⟨?_, okR_step l12 s2 (show 2 ≤ 1000 by decide) ?_⟩
    · unfold remL
      rw [remS_step l12, e1, remS_step l11, nxt_d, remS_stop lt]
      rfl
    · rw [e1]
      refine okR_step l11 s1 (show 1 ≤ 1000 by decide) ?_
      rw [nxt_d]
      exact okR_stop lt g90 _
theorem Qd.chain (h : Qd c m) : sturmL [c, m, 1] = [[c, m, 1], [m, 2], [1]] ∧ okS [c, m, 1] = true := by
  obtain ⟨r1, o1⟩ := h.rem1
  obtain ⟨r2, o2⟩ := h.rem2
  have hm1 := h.m1
  have hm2 := h.m2
  refine ⟨?_, ?_⟩
  · unfold sturmL
    rw [der3, chS_step (n := 9) rfl r1]
    show (chS 9 ([1] :: [m, 2] :: [c, m, 1] :: [])).tail.reverse = _
    rw [chS_step (n := 8) rfl r2]
    rfl
  · have s2 : smB 4000 [m, 2] = true := smB_of fun x hx => by
      simp only [List.mem_cons, List.not_mem_nil, or_false] at hx
      omega
    have s1 : smB 4000 [1] = true := smB_of fun x hx => by
      simp only [List.mem_cons, List.not_mem_nil, or_false] at hx
      omega
    unfold okS
    rw [der3, okC_step (n := 9) (b := [m, 2]) (a := [c, m, 1]) (r := []) rfl rfl (show 2 ≤ 1000 by decide) s2 o1 r1 (show 1 ≤ 1000 by decide) (show 0 ≤ 100 by decide) (okC_step (n := 8) (b := [1]) (a := [m, 2]) (r := [[c, m, 1]]) rfl rfl (show 1 ≤ 1000 by decide) s1 o2 r2 (show 0 ≤ 1000 by decide) (show 1 ≤ 100 by decide) rfl)]
    rfl
end
end Xq

/-! The floors of a root where the sign changes once; lonely_stretch where a unit holds one root. -/
namespace Xq
open PySem PySem.Spec PyProof.Rows L2
/-- the floors, bit by bit -/
def flS (xs : List Int) (s : Bool) (z : Int) : Nat → Int
  | 0 => z
  | k + 1 => if ng xs (2 * flS xs s z k + 1) (pw (k + 1)) = s then 2 * flS xs s z k + 1 else 2 * flS xs s z k
structure Mo (xs : List Int) (s : Bool) (z : Int) : Prop where
  mono : ∀ (k : Nat) (t t' : Int), z * 2 ^ k ≤ t → t ≤ t' → t' ≤ (z + 1) * 2 ^ k → ng xs t' (pw k) = s → ng xs t (pw k) = s
  nz : ∀ (k : Nat) (t : Int), z * 2 ^ k ≤ t → t ≤ (z + 1) * 2 ^ k → valL xs t (pw k) ≠ 0
  lo : ng xs z (pw 0) = s
  hi : ng xs (z + 1) (pw 0) ≠ s
  hom : ∀ (k : Nat) (t : Int), ng xs (2 * t) (pw (k + 1)) = ng xs t (pw k)
  l3 : 3 ≤ xs.length
  l8 : xs.length ≤ 8
  sm : ∀ x ∈ xs, Sm 30 x
  z0 : 0 ≤ z
  z1 : z < 2 ^ 30
section
variable {xs : List Int} {s : Bool} {z : Int}
theorem Mo.inv (h : Mo xs s z) : ∀ k, z * 2 ^ k ≤ flS xs s z k ∧ flS xs s z k + 1 ≤ (z + 1) * 2 ^ k ∧ ng xs (flS xs s z k) (pw k) = s ∧ ng xs (flS xs s z k + 1) (pw k) ≠ s
  | 0 => ⟨show z * 1 ≤ z by omega, show z + 1 ≤ (z + 1) * 1 by omega, h.lo, h.hi⟩
  | k + 1 => by
    obtain ⟨a, b, c, d⟩ := h.inv k
    have e : (2 : Int) ^ (k + 1) = 2 ^ k * 2 := Int.pow_succ ..
    have a1 : z * 2 ^ (k + 1) = z * 2 ^ k * 2 := by rw [e, Int.mul_assoc]
    have a2 : (z + 1) * 2 ^ (k + 1) = (z + 1) * 2 ^ k * 2 := by rw [e, Int.mul_assoc]
    rw [← h.hom] at c d
    have e2 : 2 * (flS xs s z k + 1) = 2 * flS xs s z k + 1 + 1 := by omega
    rw [e2] at d
    rw [a1, a2]
    unfold flS
    by_cases q : ng xs (2 * flS xs s z k + 1) (pw (k + 1)) = s
    · rw [if_pos q]
      exact ⟨by omega, by omega, q, d⟩
    · rw [if_neg q]
      exact ⟨by omega, by omega, c, q⟩
theorem Mo.fl (h : Mo xs s z) : Fl xs s (flS xs s z) 0 where
  st := fun b _ => by
    by_cases q : ng xs (2 * flS xs s z b + 1) (pw (b + 1)) = s
    · exact .inr (if_pos q)
    · exact .inl (if_neg q)
  sg := fun b t _ h1 h2 => by
    obtain ⟨a, b', c, d⟩ := h.inv b
    have h1 : z * 2 ^ b ≤ t := h1
    have h2 : t ≤ (z + 1) * 2 ^ b := h2
    refine ⟨fun q => ?_, fun q => h.mono b t _ h1 q (by omega) c⟩
    rcases Int.lt_or_le (flS xs s z b) t with l | l
    · exact absurd (h.mono b _ t (by omega) (by omega) h2 q) d
    · exact l
  nz := fun b t _ h1 h2 => h.nz b t h1 h2
  l3 := h.l3
  l8 := h.l8
  sm := h.sm
  f0 := h.z0
  f1 := h.z1
theorem pw0 : pw 0 = 1 := rfl
/-- a root alone in its unit -/
structure Lo (cs : List (List Int)) (rank z R : Int) : Prop where
  okc : ∀ t, 0 ≤ t → t ≤ R → okChB cs t 1 = true
  up : ∀ t, 0 ≤ t → t ≤ R → (upL cs t 1 > rank ↔ t > z)
  one : chgL cs z 1 - chgL cs (z + 1) 1 ≤ 1
  z0 : 0 ≤ z
  z1 : z < R
theorem Lo.run {cs : List (List Int)} {rank R : Int} (h : Lo cs rank z R) : ∀ (n : Nat) (lo hi : Int), 0 ≤ lo → lo ≤ z → z < hi → hi ≤ R → hi - lo ≤ 2 ^ n → lonS cs rank n lo hi 0 = (z, 0) ∧ okLo cs rank n lo hi 0 = true
  | 0, lo, hi, a0, a, b, c, d => by
    have d : hi - lo ≤ 1 := d
    obtain rfl : lo = z := by omega
    obtain rfl : hi = lo + 1 := by omega
    refine ⟨rfl, ?_⟩
    have g : lonGo cs lo (lo + 1) 0 = false := by
      unfold lonGo
      rw [pw0, decide_eq_false (by omega), decide_eq_false (by have := h.one; omega)]
      rfl
    unfold okLo
    rw [pw0, h.okc _ a0 (by omega), h.okc _ (by omega) c, g]
    rfl
  | n + 1, lo, hi, a0, a, b, c, d => by
    have e : (2 : Int) ^ (n + 1) = 2 ^ n * 2 := Int.pow_succ ..
    rw [e] at d
    by_cases g1 : hi - lo = 1
    · obtain rfl : lo = z := by omega
      obtain rfl : hi = lo + 1 := by omega
      have g : lonGo cs lo (lo + 1) 0 = false := by
        unfold lonGo
        rw [pw0, decide_eq_false (by omega), decide_eq_false (by have := h.one; omega)]
        rfl
      unfold okLo lonS
      rw [pw0, h.okc _ a0 (by omega), h.okc _ (by omega) c, g]
      exact ⟨rfl, rfl⟩
    · have g : lonGo cs lo hi 0 = true := by
        unfold lonGo
        rw [decide_eq_true (by omega)]
        rfl
      have t : lonT lo hi 0 = (lo, hi, 0) := if_neg g1
      have em : lonM lo hi 0 = (lo + hi) / 2 := by
        unfold lonM
        rw [t]
      have m1 : lo < (lo + hi) / 2 := by omega
      have m2 : (lo + hi) / 2 < hi := by omega
      unfold okLo lonS
      rw [t, em, g]
      simp only
      rw [pw0, h.okc _ a0 (by omega), h.okc _ (by omega) c, h.okc ((lo + hi) / 2) (by omega) (by omega)]
      by_cases u : upL cs ((lo + hi) / 2) 1 > rank
      · have hu := (h.up _ (by omega) (by omega)).mp u
        obtain ⟨r1, r2⟩ := h.run n lo ((lo + hi) / 2) a0 a hu (by omega) (by omega)
        rw [if_pos trivial, if_pos u, if_pos u, r1, r2]
        exact ⟨rfl, rfl⟩
      · have hu : ¬ (lo + hi) / 2 > z := fun q => u ((h.up _ (by omega) (by omega)).mpr q)
        obtain ⟨r1, r2⟩ := h.run n ((lo + hi) / 2) hi (by omega) (by omega) b c (by omega)
        rw [if_pos trivial, if_neg u, if_neg u, r1, r2]
        exact ⟨rfl, rfl⟩
/-- stretch_of, where the sign changes once and the root is alone in its unit -/
theorem str_of {rank : Int} (h : Mo xs s z) (oS : okS xs = true) (oU : okUB (sturmL xs) = true) (hl : Lo (sturmL xs) rank z (reachL xs)) (hR : reachL xs ≤ 2 ^ 60) :
    okStr xs rank = true ∧ strL xs rank = (flS xs s z 64, 64) := by
  obtain ⟨r1, r2⟩ := hl.run 60 0 (reachL xs) (Int.le_refl _) hl.z0 hl.z1 (Int.le_refl _) (by omega)
  have e : lonL xs rank = (z, 0) := r1
  obtain ⟨q1, q2⟩ := h.fl.refL (wd := 64) (by decide) (Nat.zero_le _)
  have q1 : okRf xs z 0 64 = true := q1
  have q2 : refL xs z 0 64 = flS xs s z 64 := q2
  refine ⟨?_, ?_⟩
  · unfold okStr okLon
    rw [e, oS, oU, r2]
    exact q1
  · unfold strL
    rw [e]
    show (refL xs z 0 64, 64) = _
    rw [q2]
end
end Xq

/-! Quadratic equations: changes, counts, floors. -/
namespace Xq
open PySem PySem.Spec PyProof.Rows L2
abbrev qC (c m : Int) : List (List Int) := [[c, m, 1], [m, 2], [1]]
def chg3 (P Q : Int) : Int := if P < 0 then 1 else if Q < 0 then 2 else 0
theorem chg_q {c m t b : Int} (hP : valL [c, m, 1] t b ≠ 0) (hQ : 0 < valL [c, m, 1] t b → valL [m, 2] t b ≠ 0) : chgL (qC c m) t b = chg3 (valL [c, m, 1] t b) (valL [m, 2] t b) := by
  unfold chgL
  show (((difL ((sgnL [valL [c, m, 1] t b, valL [m, 2] t b, valL [1] t b]).zip ((sgnL [valL [c, m, 1] t b, valL [m, 2] t b, valL [1] t b]).drop 1))).length : Nat) : Int) = _
  rw [val1]
  generalize valL [c, m, 1] t b = P at *
  generalize valL [m, 2] t b = Q at *
  have e3 : sgnL [P, Q, 1] = sgn1 P ++ (sgn1 Q ++ [true]) := rfl
  rw [e3]
  unfold chg3
  have st : ∀ {x : Int}, 0 < x → sgn1 x = [true] := fun {x} h => by
    unfold sgn1
    rw [if_neg (by omega), decide_eq_true h]
  have sf : ∀ {x : Int}, x < 0 → sgn1 x = [false] := fun {x} h => by
    unfold sgn1
    rw [if_neg (by omega), decide_eq_false (by omega)]
  by_cases p : P < 0
  · rw [sf p, if_pos p]
    by_cases q0 : Q = 0
    · have : sgn1 Q = [] := if_pos q0
      rw [this]
      rfl
    · by_cases q : 0 < Q
      · rw [st q]
        rfl
      · rw [sf (by omega)]
        rfl
  · rw [st (by omega), if_neg p]
    have q0 := hQ (by omega)
    by_cases q : Q < 0
    · rw [sf q, if_pos q]
      rfl
    · rw [st (by omega), if_neg q]
      rfl
theorem sq_up {a b : Int} (h0 : 0 ≤ a) (h : a ≤ b) : a * a ≤ b * b := Int.mul_le_mul h h h0 (by omega)
theorem sq_dn {a b : Int} (h0 : b ≤ 0) (h : a ≤ b) : b * b ≤ a * a := by
  have := sq_up (a := -b) (b := -a) (by omega) (by omega)
  rw [Int.neg_mul_neg, Int.neg_mul_neg] at this
  exact this
theorem fourQ (c m t b : Int) : 4 * valL [c, m, 1] t b = valL [m, 2] t b * valL [m, 2] t b - dis c m * (b * b) := by
  rw [four, val2]
theorem pw_pos (k : Nat) : 0 < pw k := by
  rw [pw_eq]
  exact two_pos k
theorem reach_q (c m : Int) : absI c + 1 ≤ reachL [c, m, 1] ∧ absI m + 1 ≤ reachL [c, m, 1] ∧ 2 ≤ reachL [c, m, 1] := by
  unfold reachL
  have h1 := mxL_le (l := [c, m, 1].map absI) (x := absI c) (by simp)
  have h2 := mxL_le (l := [c, m, 1].map absI) (x := absI m) (by simp)
  have h3 := mxL_le (l := [c, m, 1].map absI) (x := 1) (by simp [absI])
  omega
theorem absI_le (x : Int) : x ≤ absI x ∧ -x ≤ absI x ∧ 0 ≤ absI x := by
  unfold absI
  split <;> omega
theorem absI_lt {x : Int} (h1 : -1000 ≤ x) (h2 : x ≤ 1000) : absI x ≤ 1000 := by
  unfold absI
  split <;> omega
section
variable {c m : Int}
theorem Qd.reach (h : Qd c m) : reachL [c, m, 1] ≤ 1001 := by
  unfold reachL
  have := mxL_mem (l := [c, m, 1].map absI) (by simp) fun x hx => by
    obtain ⟨y, _, rfl⟩ := List.mem_map.mp hx
    exact (absI_le y).2.2
  obtain ⟨y, hy, e⟩ := List.mem_map.mp this
  rw [← e]
  have := h.c1
  have := h.c2
  have := h.m1
  have := h.m2
  have : absI y ≤ 1000 := by
    simp only [List.mem_cons, List.not_mem_nil, or_false] at hy
    rcases hy with rfl | rfl | rfl
    · exact absI_lt h.c1 h.c2
    · exact absI_lt h.m1 h.m2
    · decide
  omega
theorem Qd.nzQ (h : Qd c m) {t : Int} {k : Nat} (p : 0 < valL [c, m, 1] t (pw k)) : valL [m, 2] t (pw k) ≠ 0 := fun e => by
  have q := fourQ c m t (pw k)
  rw [e] at q
  have : 0 < dis c m * (pw k * pw k) := Int.mul_pos h.pos (Int.mul_pos (pw_pos k) (pw_pos k))
  omega
theorem Qd.chg (h : Qd c m) (t : Int) (k : Nat) : chgL (qC c m) t (pw k) = chg3 (valL [c, m, 1] t (pw k)) (valL [m, 2] t (pw k)) := chg_q (nzq h.ns t k) h.nzQ
theorem v31 (t : Int) : valL [c, m, 1] t 1 = (t + m) * t + c := by
  rw [val3]
  simp only [Int.mul_one]
theorem v21 (t : Int) : valL [m, 2] t 1 = 2 * t + m := by
  rw [val2]
  omega
theorem Qd.lowest (h : Qd c m) : chgL (qC c m) (-(reachL [c, m, 1])) 1 = 2 := by
  have e := h.chg (-(reachL [c, m, 1])) 0
  rw [pw0] at e
  rw [e, v31, v21]
  obtain ⟨r1, r2, r3⟩ := reach_q c m
  have ac := absI_le c
  have am := absI_le m
  generalize reachL [c, m, 1] = R at *
  have : R ≤ (R - m) * R := by
    have := Int.mul_le_mul_of_nonneg_right (show (1 : Int) ≤ R - m by omega) (show 0 ≤ R by omega)
    omega
  have e2 : (-R + m) * -R = (R - m) * R := by grind
  unfold chg3
  rw [e2, if_neg (by omega), if_pos (by omega)]
theorem Qd.highest (h : Qd c m) : chgL (qC c m) (reachL [c, m, 1]) 1 = 0 := by
  have e := h.chg (reachL [c, m, 1]) 0
  rw [pw0] at e
  rw [e, v31, v21]
  obtain ⟨r1, r2, r3⟩ := reach_q c m
  have ac := absI_le c
  have am := absI_le m
  generalize reachL [c, m, 1] = R at *
  have : R ≤ (R + m) * R := by
    have := Int.mul_le_mul_of_nonneg_right (show (1 : Int) ≤ R + m by omega) (show 0 ≤ R by omega)
    omega
  unfold chg3
  rw [if_neg (by omega), if_neg (by omega)]
theorem Qd.up (h : Qd c m) (t : Int) : upL (qC c m) t 1 = 2 - chg3 (valL [c, m, 1] t 1) (valL [m, 2] t 1) := by
  have e := h.chg t 0
  rw [pw0] at e
  unfold upL
  show chgL (qC c m) (-(reachL [c, m, 1])) 1 - _ = _
  rw [h.lowest, e]
theorem Qd.all (h : Qd c m) : allL (qC c m) = 2 := by
  unfold allL upL
  show chgL (qC c m) (-(reachL [c, m, 1])) 1 - chgL (qC c m) (reachL [c, m, 1]) 1 = _
  rw [h.lowest, h.highest]
  rfl
/-- counts, by what is squared -/
theorem Qd.cnt (h : Qd c m) (t : Int) : ((2 * t + m) * (2 * t + m) < dis c m → chg3 (valL [c, m, 1] t 1) (valL [m, 2] t 1) = 1) ∧
    (dis c m ≤ (2 * t + m) * (2 * t + m) → 2 * t + m < 0 → chg3 (valL [c, m, 1] t 1) (valL [m, 2] t 1) = 2) ∧ (dis c m ≤ (2 * t + m) * (2 * t + m) → 0 ≤ 2 * t + m → chg3 (valL [c, m, 1] t 1) (valL [m, 2] t 1) = 0) := by
  have q := fourQ c m t 1
  rw [v21] at q ⊢
  unfold chg3
  refine ⟨fun l => ?_, fun l n => ?_, fun l n => ?_⟩
  · rw [if_pos (by omega)]
  · rw [if_neg (by omega), if_pos n]
  · rw [if_neg (by omega), if_neg (by omega)]
theorem Qd.mono (h : Qd c m) {r : Int} (hr : r = 0 ∨ r = 1) {t t' : Int} (ht : t ≤ t') (u : upL (qC c m) t 1 > r) : upL (qC c m) t' 1 > r := by
  rw [h.up] at u ⊢
  obtain ⟨a1, a2, a3⟩ := h.cnt t
  obtain ⟨b1, b2, b3⟩ := h.cnt t'
  rcases Int.lt_or_le ((2 * t' + m) * (2 * t' + m)) (dis c m) with q' | q'
  · have e' := b1 q'
    rw [e']
    rcases Int.lt_or_le ((2 * t + m) * (2 * t + m)) (dis c m) with q | q
    · rw [a1 q] at u
      exact u
    · rcases Int.lt_or_le (2 * t + m) 0 with n | n
      · rw [a2 q n] at u
        omega
      · have := sq_up n (show 2 * t + m ≤ 2 * t' + m by omega)
        omega
  · rcases Int.lt_or_le (2 * t' + m) 0 with n' | n'
    · have := sq_dn (show 2 * t' + m ≤ 0 by omega) (show 2 * t + m ≤ 2 * t' + m by omega)
      rw [a2 (by omega) (by omega)] at u
      omega
    · rw [b3 q' n']
      omega
theorem least_up {p : Int → Prop} (dp : ∀ t, p t ∨ ¬ p t) : ∀ n : Nat, ¬ p 0 → p (n : Int) → ∃ z : Int, 0 ≤ z ∧ z < n ∧ ¬ p z ∧ p (z + 1)
  | 0, h0, h1 => absurd h1 h0
  | n + 1, h0, h1 => by
    rcases dp (n : Int) with q | q
    · obtain ⟨z, a, b, c, d⟩ := least_up dp n h0 q
      exact ⟨z, a, by omega, c, d⟩
    · exact ⟨n, by omega, by omega, q, by have e : ((n + 1 : Nat) : Int) = (n : Int) + 1 := by omega
                                          rw [← e]; exact h1⟩
/-- the floor of the root of rank r, which is above 0 -/
theorem Qd.floor (h : Qd c m) {r : Int} (hr : r = 0 ∨ r = 1) (h0 : upL (qC c m) 0 1 ≤ r) : ∃ z : Int, 0 ≤ z ∧ z < reachL [c, m, 1] ∧ ∀ t, (upL (qC c m) t 1 > r ↔ t > z) := by
  obtain ⟨r1, r2, r3⟩ := reach_q c m
  obtain ⟨n, hn⟩ := Int.eq_ofNat_of_zero_le (show 0 ≤ reachL [c, m, 1] by omega)
  have hR : upL (qC c m) (n : Int) 1 > r := by
    have := h.all
    unfold allL at this
    have e : reachL ((qC c m).headD []) = (n : Int) := hn
    rw [e] at this
    omega
  obtain ⟨z, a, b, nz, y⟩ := least_up (p := fun t => upL (qC c m) t 1 > r) (fun t => Decidable.em _) n (by show ¬ _ > r; omega) hR
  refine ⟨z, a, by rw [hn]; exact b, fun t => ⟨fun u => ?_, fun u => h.mono hr (show z + 1 ≤ t by omega) y⟩⟩
  rcases Int.lt_or_le z t with l | l
  · exact l
  · exact absurd (h.mono hr l u) nz
theorem Qd.okv (h : Qd c m) {t b : Int} (ht : Sm 900 t) (hb : Sm 900 b) : okChB (qC c m) t b = true := by
  have k : ∀ {x : Int}, -1000 ≤ x → x ≤ 1000 → Sm 900 x := fun {x} h1 h2 => by
    show x.natAbs < 2 ^ 900
    exact Nat.lt_of_lt_of_le (show x.natAbs < 2 ^ 10 by omega) (Nat.pow_le_pow_right (by decide) (by decide))
  have kc := k h.c1 h.c2
  have km := k h.m1 h.m2
  have k1 : Sm 900 1 := k (by decide) (by decide)
  have k2 : Sm 900 2 := k (by decide) (by decide)
  have o1 : okVB [c, m, 1] t b = true := okVB_of (show 1 ≤ 3 by decide) (show 3 ≤ 8 by decide) ht hb fun x hx => by
    simp only [List.mem_cons, List.not_mem_nil, or_false] at hx
    rcases hx with rfl | rfl | rfl <;> assumption
  have o2 : okVB [m, 2] t b = true := okVB_of (show 1 ≤ 2 by decide) (show 2 ≤ 8 by decide) ht hb fun x hx => by
    simp only [List.mem_cons, List.not_mem_nil, or_false] at hx
    rcases hx with rfl | rfl <;> assumption
  have o3 : okVB [1] t b = true := okVB_of (show 1 ≤ 1 by decide) (show 1 ≤ 8 by decide) ht hb fun x hx => by
    simp only [List.mem_cons, List.not_mem_nil, or_false] at hx
    rw [hx]
    exact k1
  show (true && (okVB [c, m, 1] t b && (okVB [m, 2] t b && (okVB [1] t b && true)))) = true
  rw [o1, o2, o3]
  rfl
theorem sm9 {t : Int} (h1 : -1001 ≤ t) (h2 : t ≤ 1001) : Sm 900 t := by
  show t.natAbs < 2 ^ 900
  exact Nat.lt_of_lt_of_le (show t.natAbs < 2 ^ 10 by omega) (Nat.pow_le_pow_right (by decide) (by decide))
theorem Qd.okU (h : Qd c m) : okUB (qC c m) = true := by
  have e := h.okv (t := -(reachL [c, m, 1])) (b := 1) (sm9 (by have := h.reach; omega) (by have := reach_q c m; omega)) (sm9 (by decide) (by decide))
  show (true && true && true && okChB (qC c m) (-(reachL [c, m, 1])) 1) = true
  rw [e]
  rfl
theorem ng_q (t : Int) (k : Nat) : ng [c, m, 1] t (pw k) = true ↔ valL [m, 2] t (pw k) * valL [m, 2] t (pw k) < dis c m * (pw k * pw k) := by
  have q := fourQ c m t (pw k)
  unfold ng
  rw [decide_eq_true_iff]
  omega
theorem hom_q (k : Nat) (t : Int) : ng [c, m, 1] (2 * t) (pw (k + 1)) = ng [c, m, 1] t (pw k) := by
  have e : pw (k + 1) = 2 * pw k := by
    rw [pw_eq, pw_eq, Int.pow_succ]
    omega
  have q : valL [c, m, 1] (2 * t) (pw (k + 1)) = 4 * valL [c, m, 1] t (pw k) := by
    rw [val3, val3, e]
    grind
  unfold ng
  rw [q]
  by_cases z : valL [c, m, 1] t (pw k) < 0
  · rw [decide_eq_true z, decide_eq_true (by omega)]
  · rw [decide_eq_false z, decide_eq_false (by omega)]
theorem edge_q (z : Int) (k : Nat) : valL [m, 2] (z * 2 ^ k) (pw k) = (2 * z + m) * pw k := by
  rw [val2, pw_eq]
  grind
theorem Qd.mo (h : Qd c m) {r z : Int} (hr : r = 0 ∨ r = 1) (z0 : 0 ≤ z) (z1 : z < reachL [c, m, 1]) (hz : ∀ t, (upL (qC c m) t 1 > r ↔ t > z)) : Mo [c, m, 1] (decide (r = 1)) z := by
  have hR := h.reach
  have u0 : ¬ upL (qC c m) z 1 > r := fun q => by have := (hz z).mp q; omega
  have u1 : upL (qC c m) (z + 1) 1 > r := (hz (z + 1)).mpr (by omega)
  rw [h.up] at u0 u1
  obtain ⟨a1, a2, a3⟩ := h.cnt z
  obtain ⟨b1, b2, b3⟩ := h.cnt (z + 1)
  have dp := h.pos
  have E : ∀ (k : Nat) (x : Int), valL [m, 2] (x * 2 ^ k) (pw k) * valL [m, 2] (x * 2 ^ k) (pw k) = (2 * x + m) * (2 * x + m) * (pw k * pw k) := fun k x => by
    rw [edge_q]
    grind
  have lin : ∀ (k : Nat) {t t' : Int}, t ≤ t' → valL [m, 2] t (pw k) ≤ valL [m, 2] t' (pw k) := fun k {t t'} l => by
    rw [val2, val2]
    omega
  have nS : ∀ (t : Int) (k : Nat), valL [m, 2] t (pw k) * valL [m, 2] t (pw k) ≠ dis c m * (pw k * pw k) := fun t k e => by
    have q := fourQ c m t (pw k)
    exact nzq h.ns t k (by omega)
  -- the squares at both ends
  have key : (r = 1 ∧ (2 * z + m) * (2 * z + m) < dis c m ∧ dis c m ≤ (2 * (z + 1) + m) * (2 * (z + 1) + m) ∧ 0 ≤ 2 * (z + 1) + m) ∨
      (r = 0 ∧ dis c m ≤ (2 * z + m) * (2 * z + m) ∧ 2 * z + m < 0 ∧ (2 * (z + 1) + m) * (2 * (z + 1) + m) < dis c m) := by
    have bad : 2 * z + m < 0 → 0 ≤ 2 * (z + 1) + m → dis c m ≤ (2 * z + m) * (2 * z + m) → dis c m ≤ (2 * (z + 1) + m) * (2 * (z + 1) + m) → False := fun n1 n2 l1 l2 => by
      have : 2 * z + m = -1 ∨ 2 * z + m = -2 := by omega
      rcases this with e | e
      · rw [e] at l1
        have e2 : 2 * (z + 1) + m = 1 := by omega
        have d1 : dis c m = 1 := by omega
        exact h.ns 1 (by rw [d1]; rfl)
      · have e2 : 2 * (z + 1) + m = 0 := by omega
        rw [e2] at l2
        omega
    rcases hr with e | e <;> rw [e] at u0 u1 ⊢
    · right
      rcases Int.lt_or_le ((2 * z + m) * (2 * z + m)) (dis c m) with q | q
      · have := a1 q
        omega
      rcases Int.lt_or_le (2 * z + m) 0 with n | n
      · rcases Int.lt_or_le ((2 * (z + 1) + m) * (2 * (z + 1) + m)) (dis c m) with q' | q'
        · exact ⟨rfl, q, n, q'⟩
        · rcases Int.lt_or_le (2 * (z + 1) + m) 0 with n' | n'
          · have := b2 q' n'
            omega
          · exact (bad n n' q q').elim
      · have := a3 q n
        omega
    · left
      rcases Int.lt_or_le ((2 * (z + 1) + m) * (2 * (z + 1) + m)) (dis c m) with q' | q'
      · have := b1 q'
        omega
      rcases Int.lt_or_le (2 * (z + 1) + m) 0 with n' | n'
      · have := b2 q' n'
        omega
      · rcases Int.lt_or_le ((2 * z + m) * (2 * z + m)) (dis c m) with q | q
        · exact ⟨rfl, q, q', n'⟩
        · rcases Int.lt_or_le (2 * z + m) 0 with n | n
          · exact (bad n n' q q').elim
          · have := a3 q n
            omega
  have bb : ∀ k : Nat, 0 < pw k * pw k := fun k => Int.mul_pos (pw_pos k) (pw_pos k)
  have e1 : ∀ x : Int, valL [m, 2] x (pw 0) = 2 * x + m := fun x => by rw [pw0, v21]
  have d1 : dis c m * (pw 0 * pw 0) = dis c m := by rw [pw0]; omega
  have fls : ∀ {t : Int} {k : Nat}, ng [c, m, 1] t (pw k) = false ↔ dis c m * (pw k * pw k) ≤ valL [m, 2] t (pw k) * valL [m, 2] t (pw k) := fun {t k} => by
    have q := ng_q (c := c) (m := m) t k
    cases e : ng [c, m, 1] t (pw k) with
    | true =>
      have := q.mp e
      exact ⟨fun z => (nomatch z), fun l => by omega⟩
    | false =>
      refine ⟨fun _ => ?_, fun _ => rfl⟩
      rcases Int.lt_or_le (valL [m, 2] t (pw k) * valL [m, 2] t (pw k)) (dis c m * (pw k * pw k)) with l | l
      · have := q.mpr l
        rw [e] at this
        cases this
      · exact l
  refine ⟨?_, fun k t _ _ => nzq h.ns t k, ?_, ?_, hom_q, Nat.le_refl 3, show 3 ≤ 8 by decide, ?_, z0, ?_⟩
  · intro k t t' h1 h2 h3 hn
    have l1 := lin k h1
    have l2 := lin k h2
    have l3 := lin k h3
    have Ez := E k z
    have Ez1 := E k (z + 1)
    rcases key with ⟨er, k1, k2, k3⟩ | ⟨er, k1, k2, k3⟩
    · rw [decide_eq_true er] at hn ⊢
      have hn := (ng_q t' k).mp hn
      refine (ng_q t k).mpr ?_
      rcases Int.lt_or_le (valL [m, 2] t (pw k)) 0 with n | n
      · have s1 := sq_dn (Int.le_of_lt n) l1
        rw [Ez] at s1
        have := Int.mul_lt_mul_of_pos_right k1 (bb k)
        omega
      · have := sq_up n l2
        omega
    · rw [decide_eq_false (show ¬ r = 1 by omega)] at hn ⊢
      have hn := fls.mp hn
      refine fls.mpr ?_
      have kk := Int.mul_lt_mul_of_pos_right k3 (bb k)
      rcases Int.lt_or_le (valL [m, 2] t' (pw k)) 0 with n | n
      · have := sq_dn (Int.le_of_lt n) l2
        omega
      · have := sq_up n l3
        omega
  · rcases key with ⟨er, k1, k2, k3⟩ | ⟨er, k1, k2, k3⟩
    · rw [decide_eq_true er]
      refine (ng_q z 0).mpr ?_
      rw [e1, d1]
      exact k1
    · rw [decide_eq_false (show ¬ r = 1 by omega)]
      refine fls.mpr ?_
      rw [e1, d1]
      exact k1
  · rcases key with ⟨er, k1, k2, k3⟩ | ⟨er, k1, k2, k3⟩
    · rw [decide_eq_true er]
      intro q
      have := (ng_q (z + 1) 0).mp q
      rw [e1, d1] at this
      omega
    · rw [decide_eq_false (show ¬ r = 1 by omega)]
      intro q
      have := fls.mp q
      rw [e1, d1] at this
      omega
  · intro x hx
    have k : ∀ {x : Int}, -1000 ≤ x → x ≤ 1000 → Sm 30 x := fun {x} h1 h2 => by
      show x.natAbs < 2 ^ 30
      omega
    simp only [List.mem_cons, List.not_mem_nil, or_false] at hx
    rcases hx with rfl | rfl | rfl
    · exact k h.c1 h.c2
    · exact k h.m1 h.m2
    · exact k (by decide) (by decide)
  · show z < 1073741824
    omega
end
end Xq

/-! Shape.of and told_by without their texts; quadratic equations there. -/
namespace Xq
open PySem PySem.Spec PyProof.Rows L2
/-- told_by of the text, but for the text -/
def okTN (r : Int) (xs : List Int) : Bool := okE xs && okLe xs && okS xs && okUB (sturmL xs) && okChB (sturmL xs) 0 1 && okChB (sturmL xs) (reachL ((sturmL xs).headD [])) 1 && decide (upL (sturmL xs) 0 1 ≤ r) && decide (r < allL (sturmL xs)) && decide (r.natAbs ≤ 1000)
theorem okE_ok {xs : List Int} (h : okE xs = true) : 2 ≤ xs.length ∧ xs.length ≤ 6 ∧ ∀ x ∈ xs, x.natAbs ≤ 1000 := by
  unfold okE at h
  simp only [Bool.and_eq_true, decide_eq_true_eq, Bool.not_eq_true', decide_eq_false_iff_not] at h
  obtain ⟨⟨⟨h1, h2⟩, h3⟩, h4⟩ := h
  refine ⟨h1, h2, fun x hx => ?_⟩
  have := List.all_eq_true.mp h3 x hx
  simp only [Bool.and_eq_true, decide_eq_true_eq] at this
  omega
theorem okT_of {r : Int} {xs : List Int} (h : okTN r xs = true) : okT (txL r xs) r xs = true := by
  unfold okTN at h
  simp only [Bool.and_eq_true, decide_eq_true_eq] at h
  obtain ⟨⟨⟨⟨⟨⟨⟨⟨h1, h2⟩, h3⟩, h4⟩, h5⟩, h6⟩, h7⟩, h8⟩, h9⟩ := h
  obtain ⟨l2, l6, ax⟩ := okE_ok h1
  unfold okT
  simp only [Bool.and_eq_true, decide_eq_true_eq]
  exact ⟨⟨⟨⟨⟨⟨⟨⟨⟨⟨split_tx r (fun e => by rw [e] at l2; exact absurd l2 (by decide)), Nat.le_trans (tx_len h9 l6 ax) (by decide)⟩, h9⟩, h1⟩, h2⟩, h3⟩, h4⟩, h5⟩, h6⟩, h7⟩, h8⟩
theorem dvS_mem {n t : Int} : ∀ {k : Nat}, t ∈ dvS n k → 0 ≤ t ∧ t ≤ k
  | 0, h => nomatch h
  | k + 1, h => by
    rcases List.mem_append.mp h with q | q
    · have := dvS_mem q
      omega
    · cases z : Nat.beq (n.natAbs % (1 + k)) 0 with
      | true =>
        rw [z] at q
        have := List.mem_singleton.mp q
        omega
      | false =>
        rw [z] at q
        exact absurd q (by simp)
theorem dvL_mem {n t : Int} (h : n.natAbs ≤ 1000) (ht : t ∈ dvL n) : 0 ≤ t ∧ t ≤ 1000 := by
  rw [← dvL_eq h] at ht
  have := dvS_mem ht
  omega
theorem dv1 : dvL 1 = [1] := rfl
section
variable {c m : Int}
theorem Qd.okE (h : Qd c m) : okE [c, m, 1] = true := by
  show (true && true && ((decide (-1000 ≤ c) && decide (c ≤ 1000)) && ((decide (-1000 ≤ m) && decide (m ≤ 1000)) && (true && true))) && true) = true
  rw [decide_eq_true h.c1, decide_eq_true h.c2, decide_eq_true h.m1, decide_eq_true h.m2]
  rfl
theorem Qd.okV1 (h : Qd c m) {t : Int} (h1 : -1001 ≤ t) (h2 : t ≤ 1001) : okVB [c, m, 1] t 1 = true := by
  have e := h.okv (sm9 h1 h2) (b := 1) (sm9 (by decide) (by decide))
  have e : (true && (okVB [c, m, 1] t 1 && (okVB [m, 2] t 1 && (okVB [1] t 1 && true)))) = true := e
  simp only [Bool.and_eq_true] at e
  exact e.2.1
theorem Qd.lin (h : Qd c m) : okLin [c, m, 1] = true := by
  have c0 := h.c0
  have a1 : c.natAbs ≤ 1000 := by have := h.c1; have := h.c2; omega
  have nz : ∀ t : Int, valL [c, m, 1] t 1 ≠ 0 := fun t => by
    have := nzq h.ns t 0
    rw [pw0] at this
    exact this
  have ov : ∀ t ∈ dvL c, okVB [c, m, 1] t 1 = true ∧ okVB [c, m, 1] (-t) 1 = true := fun t ht => by
    have := dvL_mem a1 ht
    exact ⟨h.okV1 (by omega) (by omega), h.okV1 (by omega) (by omega)⟩
  unfold okLin
  show (true && true && decide (c.natAbs ≤ 1000) && true && !decide (c = 0) && (dvL c).all fun t => (dvL 1).all fun b => _) = true
  rw [decide_eq_true a1, decide_eq_false c0, dv1]
  simp only [Bool.true_and, Bool.not_false]
  refine List.all_eq_true.mpr fun t ht => ?_
  obtain ⟨v1, v2⟩ := ov t ht
  show ((!decide (Nat.gcd t.natAbs (1 : Int).natAbs = 1) || _) && true) = true
  rw [v1, v2, decide_eq_false (nz t), decide_eq_false (nz (-t))]
  simp
theorem Qd.okLe (h : Qd c m) : okLe [c, m, 1] = true := by
  have h1 := h.lin
  have g : gcdL [c, m, 1] = 1 := Nat.gcd_one_right _
  show (true && true && true && decide (gcdL [c, m, 1] = 1) && (false || (okLin [c, m, 1] && (true || _))) && true && true) = true
  rw [decide_eq_true g, h1]
  rfl
theorem Qd.okTN (h : Qd c m) {r : Int} (hr : r = 0 ∨ r = 1) (h0 : upL (qC c m) 0 1 ≤ r) : okTN r [c, m, 1] = true := by
  obtain ⟨e1, e2⟩ := h.chain
  have o1 := h.okv (t := 0) (b := 1) (sm9 (by decide) (by decide)) (sm9 (by decide) (by decide))
  have o2 := h.okv (t := reachL [c, m, 1]) (b := 1) (sm9 (by have := reach_q c m; omega) (by have := h.reach; omega)) (sm9 (by decide) (by decide))
  have e3 : (qC c m).headD [] = [c, m, 1] := rfl
  unfold Xq.okTN
  rw [h.okE, h.okLe, e2, e1, h.okU, o1, e3, o2, decide_eq_true h0, h.all, decide_eq_true (show r < 2 by omega), decide_eq_true (show r.natAbs ≤ 1000 by omega)]
  rfl
/-- the shape of rank r: what is laid up in it -/
theorem Qd.str (h : Qd c m) {r : Int} (hr : r = 0 ∨ r = 1) (h0 : upL (qC c m) 0 1 ≤ r) : okStr [c, m, 1] r = true ∧
    ∃ z, 0 ≤ z ∧ (∀ t, (upL (qC c m) t 1 > r ↔ t > z)) ∧ Mo [c, m, 1] (decide (r = 1)) z ∧ strL [c, m, 1] r = (flS [c, m, 1] (decide (r = 1)) z 64, 64) := by
  obtain ⟨z, z0, z1, hz⟩ := h.floor hr h0
  have M := h.mo hr z0 z1 hz
  obtain ⟨e1, e2⟩ := h.chain
  have hR := h.reach
  have L : Lo (sturmL [c, m, 1]) r z (reachL [c, m, 1]) := by
    rw [e1]
    refine ⟨fun t a b => h.okv (sm9 (by omega) (by omega)) (sm9 (by decide) (by decide)), fun t _ _ => hz t, ?_, z0, z1⟩
    have u := hz z
    have u' := hz (z + 1)
    have a := h.up z
    have b := h.up (z + 1)
    have c1 := h.chg z 0
    have c2 := h.chg (z + 1) 0
    rw [pw0] at c1 c2
    rw [c1, c2]
    obtain ⟨a1, a2, a3⟩ := h.cnt z
    obtain ⟨b1, b2, b3⟩ := h.cnt (z + 1)
    have lo := M.lo
    have hi := M.hi
    have q := ng_q (c := c) (m := m) z 0
    have q' := ng_q (c := c) (m := m) (z + 1) 0
    rw [pw0, v21] at q q'
    rw [pw0] at lo hi
    rcases hr with e | e
    · rw [decide_eq_false (show ¬ r = 1 by omega)] at lo hi
      have n : ng [c, m, 1] (z + 1) 1 = true := by
        cases k : ng [c, m, 1] (z + 1) 1 with
        | true => rfl
        | false => exact absurd k hi
      have := b1 (by have := q'.mp n; omega)
      rw [this]
      unfold chg3
      split
      · omega
      · split <;> omega
    · rw [decide_eq_true e] at lo hi
      have := a1 (by have := q.mp lo; omega)
      rw [this]
      unfold chg3
      split
      · omega
      · split <;> omega
  obtain ⟨s1, s2⟩ := str_of M e2 (by rw [e1]; exact h.okU) L (Int.le_trans hR (by decide))
  exact ⟨s1, z, z0, hz, M, s2⟩
end
end Xq

/-! Numbers of any shape: is_number, check_number, lowest. -/
namespace Xq
open PySem PySem.Spec PyProof.Rows L2
/-- a number of a shape with these terms: d, then as many as the degree -/
structure NumG (H : Hp) (p : Addr) (n : Nat) (ns : List Int) : Prop where
  at_ : TI H p ns
  len : ns.length = n
  pos : 1 ≤ ns.getD 0 0
  red : gcdL ns = 1
theorem NumG.same {H H' : Hp} {p : Addr} {n : Nat} {ns : List Int} (s : Same H H') (h : NumG H p n ns) : NumG H' p n ns := ⟨TI.same s h.at_, h.len, h.pos, h.red⟩
/-- a row of ints, then zeros up to the degree -/
def padL (n : Nat) (b : Int) (ts : List Int) : List Int := b :: ts ++ List.replicate (n - ts.length) 0
def comL (b : Int) (l : List Int) : Int := if b < 0 then -((gcdL l : Nat) : Int) else ((gcdL l : Nat) : Int)
/-- what lowest tells -/
def lowL (n : Nat) (b : Int) (ts : List Int) : List Int := (padL n b ts).map fun x => x.fdiv (comL b (padL n b ts))
def okLow (n : Nat) (b : Int) (ts : List Int) : Bool := decide (n ≤ 8) && decide (ts.length ≤ n) && !decide (b = 0) && smI 8000 b
theorem gcd_pos_l : ∀ (l : List Int) (g : Nat), 0 < g → 0 < l.foldl (fun g x => Nat.gcd g x.natAbs) g
  | [], _, h => h
  | x :: l, g, h => gcd_pos_l l _ (Nat.gcd_pos_of_pos_left _ h)
theorem gcd_dvd_l : ∀ (l : List Int) (g : Nat), l.foldl (fun g x => Nat.gcd g x.natAbs) g ∣ g
  | [], g => Nat.dvd_refl g
  | x :: l, g => Nat.dvd_trans (gcd_dvd_l l _) (Nat.gcd_dvd_left _ _)
theorem gcd_head {b : Int} {l : List Int} (h : b ≠ 0) : 0 < gcdL (b :: l) ∧ gcdL (b :: l) ≤ b.natAbs := by
  have e : gcdL (b :: l) = l.foldl (fun g x => Nat.gcd g x.natAbs) b.natAbs := by
    show l.foldl _ (Nat.gcd 0 b.natAbs) = _
    rw [Nat.gcd_zero_left]
  rw [e]
  have p : 0 < b.natAbs := by omega
  exact ⟨gcd_pos_l _ _ p, Nat.le_of_dvd p (gcd_dvd_l _ _)⟩
theorem com_div {n : Nat} {b : Int} {ts : List Int} {i : Int} (h0 : b ≠ 0) (hs : Sm 8000 b) : CDivX i (comL b (padL n b ts)) := by
  obtain ⟨g1, g2⟩ := gcd_head (b := b) (l := ts ++ List.replicate (n - ts.length) 0) h0
  have e : padL n b ts = b :: (ts ++ List.replicate (n - ts.length) 0) := rfl
  have an : (comL b (padL n b ts)).natAbs = gcdL (padL n b ts) := by
    unfold comL
    split <;> omega
  rw [← e] at g1 g2
  refine ⟨by omega, ?_⟩
  rw [an]
  have hs : b.natAbs < 2 ^ 8000 := hs
  exact Nat.lt_of_lt_of_le (PySem.Flt.log2_lt_of (show 0 < 8000 by decide) (Nat.lt_of_le_of_lt g2 hs)) (by decide)
section
variable {P : Program} {w : World} {K : PySem.W.Frag} {mg : Str → Option Value} {base : Heap} {C : Addr}
theorem n18 : FnScope ["values", "value"] ["values"] (defScope (top 18)) := (⟨rfl, rfl, rfl, by decide +kernel, rfl, by decide +kernel, by decide +kernel⟩)
abbrev spAreIntsG : Sp := Prm (α := Addr × List Int) (fun a => [.ref a.1]) (fun a H => TI H a.1 a.2 ∧ a.2.length ≤ 1000) (fun _ H v H' => v = .bl true)
theorem all_true (n : Nat) : (List.replicate n true).all id = true := by
  induction n with
  | zero => rfl
  | succ n ih => rw [List.replicate_succ, List.all_cons, ih]; rfl
theorem c_areintsG (D : Df K mg "are_integers" (top 18)) (B : Bl mg) (C : Cal P w K mg base 1 "is_integer" ["value"] spIsInt) : Cal P w K mg base 2 "are_integers" ["values"] spAreIntsG := by
  refine mkC D n18 (fun _ _ _ _ _ _ us hl => match us, hl with | [_], _ => rfl) (fun _ => rfl) (fun f cdv A outer s H a Q E hr h k => ?_)
  obtain ⟨p, xs⟩ := a
  obtain ⟨h, hl⟩ := h
  have hl : xs.length ≤ 1000 := hl
  refine ⟨_, pss_one (ps_ret (pe_callB (cr_all rfl) (by rfl) B.all_ PyProof.Rows.boot_all (pa_cons
    (pe_lc (own := [("value", 1)]) (g := gName 1) (tt := tYes) (te := tCall spIsInt [] L2.E0 (tCons (tVar 1) tNil)) rfl n18.nd (pi_tup (pv 0))
      (blkOk_by (N := ["values", "value"]) (sc := defScope (top 18)) (by decide +kernel)) (fun _ _ _ _ _ => (pg_name (i := 1) (FnScope.nd n18) rfl (Or.inl rfl))) (fun _ _ _ _ _ => pts_nil)
      (fun _ _ _ _ _ => pe_cl C hr (pa_cons (pv 1) pa_nil))) pa_nil))), ?_⟩
  have h0 : H p = some (.tup (xs.map V.int)) := h
  refine ⟨_, rfl, p, rfl, ⟨_, SqT.of h0⟩, fun D hD => lc_tup (xs := xs.map V.int) (fun i H' => Same H H' ∧ H' D = some (.lst ((List.replicate i true).map V.bl))) ⟨same_new hD, upd_same⟩ (fun i H' _ e => SqT.of (e.1 _ _ h0)) (fun i x H' hx e => ?_) (fun H' e => ?_)⟩
  · obtain ⟨s1, e1⟩ := e
    obtain ⟨z, hz, rfl⟩ := at_map hx
    have li := lt_of_at hz
    refine ⟨rfl, _, rfl, z, rfl, trivial, ?_⟩
    rintro _ _ - ⟨rfl, rfl⟩
    refine ⟨_, e1, ?_, Same.put s1 hD, ?_⟩
    · rw [List.length_map, List.length_replicate]
      exact sz_lt (by omega)
    · rw [upd_same, List.replicate_succ', List.map_append]
      rfl
  · obtain ⟨s1, e1⟩ := e
    refine ⟨D, _, rfl, SqL.of e1, ?_⟩
    rw [all_true]
    exact k _ _ s1 rfl
theorem n71 : FnScope ["shape", "value"] ["shape", "value"] (defScope (top 72)) := (⟨rfl, rfl, rfl, by decide +kernel, rfl, by decide +kernel, by decide +kernel⟩)
abbrev ANum := Addr × Str × Int × List Int × Addr × List Int
abbrev spIsNum (C : Addr) : Sp := Prm (α := ANum) (fun ⟨sh, t, r, xs, p, ns⟩ => [.ref sh, .ref p]) (fun ⟨sh, t, r, xs, p, ns⟩ H => ShpG C H sh t r xs ∧ NumG H p xs.length ns ∧ ns.length ≤ 1000) (fun _ H v H' => v = .bl true)
theorem c_isnum (D : Df K mg "is_number" (top 72)) (B : Bl mg) (S : ShC K mg C) (CA : Cal P w K mg base 2 "are_integers" ["values"] spAreIntsG) (CG : Cal P w K mg base 1 "common_divisor" ["terms"] spGcd) : Cal P w K mg base 3 "is_number" ["shape", "value"] (spIsNum C) := by
  refine mkC D n71 (fun _ _ _ _ _ _ us hl => match us, hl with | [_, _], _ => rfl) (fun _ => rfl) (fun f cdv A outer s H a Q E hr h k => ?_)
  obtain ⟨sh, t, r, xs, p, ns⟩ := a
  obtain ⟨hs, hn, hl⟩ := h
  have hs : ShpG C H sh t r xs := hs
  have hn : NumG H p xs.length ns := hn
  have hl : ns.length ≤ 1000 := hl
  have h0 : H p = some (.tup (ns.map V.int)) := hn.at_
  obtain ⟨dx, q, z1, z2⟩ := id hs
  have r2 : Room (0 + 2) (A.deeper (envOfC "is_number" (defScope (top 72)) s.heap.objs.size f cdv)) := hr.mono (by decide)
  refine ⟨_, pss_cons (ps_if (PW.pt (pw_or (pt_not (pt_val (pe_isi (v := .ty "tuple") (by rfl) B.isinstance_ (pv 1) (by rfl) B.tuple_ PyProof.Rows.boot_tuple rfl)))
      (pw_or ((pt_cmpR op_ne ((pe_callB call_len_seq (by rfl) (Bl.len_ B) PySem.boot_len (pa_cons (pv 1) pa_nil))) (pe_op op_add (pe_degG (j := 0) S B (pv 0) r2) pe_int) (nomark _))) (pw_or1 (pt_not (pt_val (pe_cl CA hr (pa_cons (pv 1) pa_nil)))))))) pss_nv pss_nil)
    (pss_one (ps_ret (pe_and (pe_cmpR op_ge ((pe_ix ix_tup (pv 1) pe_int (fun _ _ => rfl))) pe_int (nomark _)) (pe_one (pe_cmpR op_eq (pe_cl CG hr (pa_cons (pv 1) pa_nil)) pe_int (nomark _)))))), ?_⟩
  refine ⟨_, rfl, _, _, _, _, true, rfl, .ty _, .base (.tup h0), kit_ty (by decide +kernel), _, rfl, iteF ?_⟩
  refine ⟨_, rfl, p, _, rfl, .inr (SqT.of h0), _, rfl, sh, dx, _, rfl, z1, sh, t, r, xs, rfl, hs, fun _ _ => ⟨_, _, rfl, rfl, rfl, _, rfl, ?_⟩⟩
  have el : V.int (((ns.map V.int).length : Nat) : Int) = V.int ((xs.length : Int) - 1 + 1) := by
    rw [List.length_map, hn.len]
    congr 1
    omega
  show (if (!decide (V.int (((ns.map V.int).length : Nat) : Int) = V.int ((xs.length : Int) - 1 + 1))) = true then _ else _)
  rw [decide_eq_true el]
  refine iteF ⟨_, rfl, (p, ns), rfl, ⟨hn.at_, hl⟩, ?_⟩
  rintro _ H1 s1 rfl
  refine ⟨_, rfl, iteF ?_⟩
  have l1 : 0 < ns.length := by
    rcases Nat.eq_zero_or_pos ns.length with z | z
    · have e : ns = [] := List.eq_nil_of_length_eq_zero z
      have := hn.pos
      rw [e] at this
      exact absurd this (by decide)
    · exact z
  refine ⟨_, rfl, p, _, _, .int (ns.getD 0 0), rfl, rfl, SqT.of (s1 _ _ h0), atI_nat (j := 0) (getD_map l1), _, _, rfl, rfl, _, rfl, ?_⟩
  rw [decide_eq_true (show ns.getD 0 0 ≥ 1 from hn.pos)]
  refine iteT ⟨_, rfl, (p, ns), rfl, .inr (TI.same s1 hn.at_), ?_⟩
  rintro _ _ - ⟨rfl, rfl⟩
  refine ⟨rfl, k _ _ s1 ?_⟩
  show V.bl (decide (V.int ((gcdL ns : Nat) : Int) = V.int 1)) = _
  rw [hn.red]
  rfl
theorem n72 : FnScope ["shape", "value"] ["shape", "value"] (defScope (top 73)) := (⟨rfl, rfl, rfl, by decide +kernel, rfl, by decide +kernel, by decide +kernel⟩)
abbrev spChkN (C : Addr) : Sp := Prm (α := ANum) (fun ⟨sh, t, r, xs, p, ns⟩ => [.ref sh, .ref p]) (fun ⟨sh, t, r, xs, p, ns⟩ H => ShpG C H sh t r xs ∧ NumG H p xs.length ns ∧ ns.length ≤ 1000) (fun _ H v H' => True)
theorem c_chkn (D : Df K mg "check_number" (top 73)) (CN : Cal P w K mg base 3 "is_number" ["shape", "value"] (spIsNum C)) : Cal P w K mg base 4 "check_number" ["shape", "value"] (spChkN C) := by
  refine mkC D n72 (fun _ _ _ _ _ _ us hl => match us, hl with | [_, _], _ => rfl) (fun _ => rfl) (fun f cdv A outer s H a Q E hr h k => ?_)
  obtain ⟨sh, t, r, xs, p, ns⟩ := a
  refine ⟨_, pss_one (ps_if (pt_not (pt_val (pe_cl CN hr (pa_cons (pv 0) (pa_cons (pv 1) pa_nil))))) pss_nv pss_nil), ?_⟩
  refine ⟨_, rfl, _, rfl, (sh, t, r, xs, p, ns), rfl, h, ?_⟩
  rintro _ H1 s1 rfl
  exact ⟨_, rfl, iteF (k _ _ s1 trivial)⟩
abbrev nLow : List Str := ["shape", "bottom", "terms", "padded", "common", "part"]
theorem n73 : FnScope nLow ["shape", "bottom", "terms"] (defScope (top 74)) := (⟨rfl, rfl, rfl, by decide +kernel, rfl, by decide +kernel, by decide +kernel⟩)
abbrev spLow (C : Addr) : Sp := Prm (α := Addr × Str × Int × List Int × Int × Addr × List Int) (fun ⟨sh, t, r, xs, b, p, ts⟩ => [.ref sh, .int b, .ref p]) (fun ⟨sh, t, r, xs, b, p, ts⟩ H => ShpG C H sh t r xs ∧ TI H p ts ∧ 1 ≤ xs.length ∧ okLow (xs.length - 1) b ts = true)
  (fun ⟨sh, t, r, xs, b, p, ts⟩ H v H' => ∃ q, v = .ref q ∧ TI H' q (lowL (xs.length - 1) b ts))
theorem c_low (D : Df K mg "lowest" (top 74)) (B : Bl mg) (S : ShC K mg C) (CG : Cal P w K mg base 1 "common_divisor" ["terms"] spGcd) : Cal P w K mg base 3 "lowest" ["shape", "bottom", "terms"] (spLow C) := by
  refine mkC D n73 (fun _ _ _ _ _ _ us hl => match us, hl with | [_, _, _], _ => rfl) (fun _ => rfl) (fun f cdv A outer s H a Q E hr h k => ?_)
  obtain ⟨sh, t, r, xs, b, p, ts⟩ := a
  obtain ⟨hs, ht, l1, ok⟩ := h
  have hs : ShpG C H sh t r xs := hs
  have h0 : H p = some (.tup (ts.map V.int)) := ht
  have l1 : 1 ≤ xs.length := l1
  have ok : okLow (xs.length - 1) b ts = true := ok
  have k : ∀ v H', Same H H' → (∃ q, v = .ref q ∧ TI H' q (lowL (xs.length - 1) b ts)) → Q v H' := k
  unfold okLow at ok
  simp only [Bool.and_eq_true, decide_eq_true_eq, Bool.not_eq_true', decide_eq_false_iff_not] at ok
  obtain ⟨⟨⟨n8, tl⟩, b0⟩, bs⟩ := ok
  have bs : Sm 8000 b := of_decide_eq_true bs
  obtain ⟨dx, q, z1, z2⟩ := id hs
  have r2 : Room (0 + 2) (A.deeper (envOfC "lowest" (defScope (top 74)) s.heap.objs.size f cdv)) := hr.mono (by decide)
  refine ⟨_, pss_cons ((ps_set (i := 3) (FnScope.nd n73) rfl (Or.inl rfl) (pe_op op_cat (pe_lst (pa_cons (pv 1) (StX.pa_star (pv 2) pa_nil))) (pe_op op_rep (pe_lst (pa_cons pe_int pa_nil)) (pe_op op_sub (pe_degG (j := 0) S B (pv 0) r2) ((pe_callB call_len_seq (by rfl) (Bl.len_ B) PySem.boot_len (pa_cons (pv 2) pa_nil))))))))
    (pss_cons (ps_set (i := 4) n73.nd rfl (Or.inr rfl) (pe_cl CG hr (pa_cons (pv 3) pa_nil)))
    (C8.pss_cut (ps_if ((pt_cmpR op_lt (pv 1) pe_int (nomark _))) (pss_one (ps_set (i := 4) n73.nd rfl (Or.inr rfl) (pe_un un_neg (pv 4)))) pss_nil)
    (pss_one (ps_ret (pe_callTy call_tuple_of (by rfl) B.tuple_ PyProof.Rows.boot_tuple (pa_cons
      (pe_lc (own := [("part", 5)]) (g := gName 5) (tt := tYes) (te := tOp (rI CDivX fun i j => .int (i.fdiv j)) (tVar 5) (tVar 4)) rfl n73.nd (pi_list (pv 3))
        (blkOk_by (N := nLow) (sc := defScope (top 74)) (by decide +kernel)) (fun _ _ _ _ _ => (pg_name (i := 5) (FnScope.nd n73) rfl (Or.inl rfl))) (fun _ _ _ _ _ => pts_nil)
        (fun _ _ _ _ _ => pe_op op_fdivX (pv 5) (pv 4))) pa_nil)))))), ?_⟩
  have zl : (1000 : Nat) ≤ sizeLine := by decide
  refine ⟨_, rfl, _, rfl, p, _, rfl, .inl (SqT.of h0), ?_, fun l1' hl1 => ?_⟩
  · rw [List.length_cons, List.length_append, List.length_map]
    show ts.length + 0 + 1 ≤ _
    omega
  have e1 : V.int b :: (ts.map V.int ++ []) = (b :: ts).map V.int := by rw [List.append_nil]; rfl
  rw [e1] at *
  have s1 := same_new (o := .lst ((b :: ts).map V.int)) hl1
  have u1 : upd H l1' (.lst ((b :: ts).map V.int)) l1' = some (.lst ((b :: ts).map V.int)) := upd_same
  show tOp rRep _ _ _ (upd H l1' (.lst ((b :: ts).map V.int))) _
  generalize upd H l1' (.lst ((b :: ts).map V.int)) = H1 at *
  refine ⟨by decide, fun l2 hl2 => ?_⟩
  have s2 := Same.new (o := .lst [.int 0]) s1 hl2
  have n12 : l1' ≠ l2 := ne_of_none (a := l1') u1 hl2
  have u12 : upd H1 l2 (.lst [.int 0]) l1' = some (.lst ((b :: ts).map V.int)) := (upd_ne n12).trans u1
  have hn : (((xs.length : Int) - 1) - (((ts.map V.int).length : Nat) : Int)) = ((xs.length - 1 - ts.length : Nat) : Int) := by
    rw [List.length_map]
    omega
  have cnt : V.int (((xs.length : Int) - 1) - (((ts.map V.int).length : Nat) : Int)) = V.int ((xs.length - 1 - ts.length : Nat) : Int) := by rw [hn]
  refine ⟨_, rfl, sh, dx, _, rfl, s2 _ _ z1, sh, t, r, xs, rfl, hs.same s2, fun _ _ => ⟨_, rfl, p, _, rfl, .inr (SqT.of (s2 _ _ h0)), _, _, rfl, rfl, l2, ((xs.length - 1 - ts.length : Nat) : Int), _, rfl, cnt, upd_same, by omega, by omega, ?_, fun l3 hl3 => ?_⟩⟩
  · show 1 * ((xs.length - 1 - ts.length : Nat) : Int).toNat ≤ sizeLine
    omega
  rw [zeros, Int.toNat_natCast] at *
  have s3 := Same.new (o := .lst ((List.replicate (xs.length - 1 - ts.length) (0 : Int)).map V.int)) s2 hl3
  have n13 : l1' ≠ l3 := ne_of_none (a := l1') u12 hl3
  refine ⟨l1', l3, _, _, rfl, rfl, (upd_ne n13).trans u12, upd_same, ?_, fun l hl => ?_⟩
  · rw [List.length_map, List.length_map, List.length_replicate, List.length_cons]
    omega
  have e2 : (b :: ts).map V.int ++ (List.replicate (xs.length - 1 - ts.length) (0 : Int)).map V.int = (padL (xs.length - 1) b ts).map V.int := by
    rw [← List.map_append]
    rfl
  rw [e2] at *
  have s4 := Same.new (o := .lst ((padL (xs.length - 1) b ts).map V.int)) s3 hl
  have u4 : LI (upd (upd (upd H1 l2 (.lst [.int 0])) l3 (.lst ((List.replicate (xs.length - 1 - ts.length) (0 : Int)).map V.int))) l (.lst ((padL (xs.length - 1) b ts).map V.int))) l (padL (xs.length - 1) b ts) := upd_same
  show tSeq _ _ _ _ (upd (upd (upd H1 l2 (.lst [.int 0])) l3 (.lst ((List.replicate (xs.length - 1 - ts.length) (0 : Int)).map V.int))) l (.lst ((padL (xs.length - 1) b ts).map V.int)))
  generalize upd (upd (upd H1 l2 (.lst [.int 0])) l3 (.lst ((List.replicate (xs.length - 1 - ts.length) (0 : Int)).map V.int))) l (.lst ((padL (xs.length - 1) b ts).map V.int)) = H4 at *
  refine ⟨_, rfl, (l, padL (xs.length - 1) b ts), rfl, .inl u4, ?_⟩
  rintro _ _ - ⟨rfl, rfl⟩
  refine ⟨fun σ' H' => σ' = [some (.ref sh), some (.int b), some (.ref p), some (.ref l), some (.int (comL b (padL (xs.length - 1) b ts))), none] ∧ Same H H' ∧ LI H' l (padL (xs.length - 1) b ts), ?_, ?_⟩
  · refine ⟨_, rfl, _, _, rfl, rfl, _, rfl, ite2 (fun hb => ?_) (fun hb => ?_)⟩
    · have hb2 : b < 0 := of_decide_eq_true hb
      refine ⟨_, rfl, _, rfl, ?_, s4, u4⟩
      unfold comL
      rw [if_pos hb2]
      rfl
    · have hb2 : ¬ (b < 0) := fun q => hb (decide_eq_true q)
      refine ⟨?_, s4, u4⟩
      unfold comL
      rw [if_neg hb2]
      rfl
  · rintro σ' H5 ⟨rfl, s5, u5⟩
    have u50 : H5 l = some (.lst ((padL (xs.length - 1) b ts).map V.int)) := u5
    have pl : (padL (xs.length - 1) b ts).length ≤ 10 := by
      unfold padL
      rw [List.length_append, List.length_cons, List.length_replicate]
      omega
    refine ⟨_, rfl, l, rfl, ⟨_, SqL.of u50⟩, fun D hD => lc_list (xs := (padL (xs.length - 1) b ts).map V.int) (fun i H' => Same H5 H' ∧ H' D = some (.lst ((((padL (xs.length - 1) b ts).take i).map fun x => x.fdiv (comL b (padL (xs.length - 1) b ts))).map V.int))) ⟨same_new hD, upd_same⟩ (fun i H' _ e => SqL.of (e.1 _ _ u50)) (fun i x H' hx e => ?_) (fun H' e => ?_)⟩
    · obtain ⟨s6, e6⟩ := e
      obtain ⟨z, hz, rfl⟩ := at_map hx
      have li := lt_of_at hz
      refine ⟨rfl, _, rfl, _, rfl, _, _, rfl, rfl, com_div b0 bs, _, e6, ?_, Same.put s6 hD, ?_⟩
      · rw [List.length_map, List.length_map, List.length_take]
        exact sz_lt (by omega)
      · rw [upd_same, List.take_succ, hz, List.map_append, List.map_append]
        rfl
    · obtain ⟨s6, e6⟩ := e
      rw [List.length_map, List.take_length] at e6
      refine ⟨D, _, rfl, .inl ⟨SqL.of e6, fun q2 hq2 => ?_⟩⟩
      exact k _ _ (s5.trans (Same.new s6 hq2)) ⟨q2, rfl, upd_same⟩
end
end Xq

/-! Numbers of any shape: multiplied, folded. -/
namespace Xq
open PySem PySem.Spec PyProof.Rows L2
/-- the rows of a product, so many of them -/
def mulS (xs ys : List Int) : Nat → List Int
  | 0 => List.replicate (xs.length + ys.length) 0
  | i + 1 => stG (fun o y => o + xs.getD i 0 * y) ys i (mulS xs ys i) ys.length
theorem mulS_len (xs ys : List Int) : ∀ i, (mulS xs ys i).length = xs.length + ys.length
  | 0 => List.length_replicate
  | i + 1 => by
    show (stG _ ys i (mulS xs ys i) ys.length).length = _
    rw [stG_len, mulS_len xs ys i]
def mulL (xs ys : List Int) : List Int := trimI (mulS xs ys xs.length)
def okMul (xs ys : List Int) : Bool := smB 4000 xs && smB 4000 ys && decide (xs.length ≤ 100) && decide (ys.length ≤ 100)
section
variable {P : Program} {w : World} {K : PySem.W.Frag} {mg : Str → Option Value} {base : Heap} {C : Addr}
abbrev nMul : List Str := ["one", "other", "result", "low", "left", "high", "right"]
theorem n30 : FnScope nMul ["one", "other"] (defScope (top 30)) := (⟨rfl, rfl, rfl, by decide +kernel, rfl, by decide +kernel, by decide +kernel⟩)
abbrev spMulG : Sp := Prm (α := Addr × Addr × List Int × List Int) (fun ⟨p, q, xs, ys⟩ => [.ref p, .ref q]) (fun ⟨p, q, xs, ys⟩ H => TI H p xs ∧ TI H q ys ∧ okMul xs ys = true) (fun ⟨p, q, xs, ys⟩ H v H' => ∃ r, v = .ref r ∧ TI H' r (mulL xs ys))
theorem c_mulG (D : Df K mg "multiplied" (top 30)) (B : Bl mg) (CT : Cal P w K mg base 1 "trimmed" ["terms"] spTrim) : Cal P w K mg base 2 "multiplied" ["one", "other"] spMulG := by
  refine mkC D n30 (fun _ _ _ _ _ _ us hl => match us, hl with | [_, _], _ => rfl) (fun _ => rfl) (fun f cdv A outer s H a Q E hr h k => ?_)
  obtain ⟨p, q, xs, ys⟩ := a
  obtain ⟨h1, h2, ok⟩ := h
  have h10 : H p = some (.tup (xs.map V.int)) := h1
  have h20 : H q = some (.tup (ys.map V.int)) := h2
  have ok : okMul xs ys = true := ok
  have k : ∀ v H', Same H H' → (∃ r, v = .ref r ∧ TI H' r (mulL xs ys)) → Q v H' := k
  unfold okMul at ok
  simp only [Bool.and_eq_true, decide_eq_true_eq] at ok
  obtain ⟨⟨⟨bx, by'⟩, lx⟩, ly⟩ := ok
  have sx := smB_ok (a := 4000) bx (by decide)
  have sy := smB_ok (a := 4000) by' (by decide)
  have zl : (1000 : Nat) ≤ sizeLine := by decide
  refine ⟨_, pss_cons ((ps_set (i := 2) (FnScope.nd n30) rfl (Or.inl rfl) (pe_op op_rep (pe_lst (pa_cons pe_int pa_nil)) (pe_op op_add ((pe_callB call_len_seq (by rfl) (Bl.len_ B) PySem.boot_len (pa_cons (pv 0) pa_nil))) ((pe_callB call_len_seq (by rfl) (Bl.len_ B) PySem.boot_len (pa_cons (pv 1) pa_nil)))))))
    (pss_cons (ps_for PassesOwn.never rfl (pi_enumT (by rfl) B.enumerate_ (pa_cons (pv 0) pa_nil)) (pg_tup rfl (pgs_cons ((pg_name (i := 3) (FnScope.nd n30) rfl (Or.inl rfl))) (pgs_cons ((pg_name (i := 4) (FnScope.nd n30) rfl (Or.inl rfl))) pgs_nil)))
        (pss_one (ps_for PassesOwn.never rfl (pi_enumT (by rfl) B.enumerate_ (pa_cons (pv 1) pa_nil)) (pg_tup rfl (pgs_cons ((pg_name (i := 5) (FnScope.nd n30) rfl (Or.inl rfl))) (pgs_cons ((pg_name (i := 6) (FnScope.nd n30) rfl (Or.inl rfl))) pgs_nil)))
          (pss_one (ps_augS (pv 2) (pe_op op_add (pv 3) (pv 5)) get_list (pe_op op_mulW (pv 4) (pv 6)) ip_add set_list)))))
    (pss_one (ps_ret (pe_cl CT hr (pa_cons (pv 2) pa_nil))))), ?_⟩
  have lx' : (xs.map V.int).length = xs.length := List.length_map ..
  have ly' : (ys.map V.int).length = ys.length := List.length_map ..
  refine ⟨by decide, fun l hl => ?_⟩
  have s1 := same_new (o := .lst [.int 0]) hl
  have cnt : V.int ((((xs.map V.int).length : Nat) : Int) + (((ys.map V.int).length : Nat) : Int)) = V.int ((xs.length + ys.length : Nat) : Int) := by
    rw [lx', ly']
    congr 1
  refine ⟨_, rfl, p, _, rfl, .inr (SqT.of (s1 _ _ h10)), _, rfl, q, _, rfl, .inr (SqT.of (s1 _ _ h20)), _, _, rfl, rfl, ?_⟩
  refine ⟨l, ((xs.length + ys.length : Nat) : Int), _, rfl, cnt, upd_same, by omega, by omega, ?_, fun m hm => ?_⟩
  · show 1 * ((xs.length + ys.length : Nat) : Int).toNat ≤ sizeLine
    omega
  rw [zeros, Int.toNat_natCast] at *
  have s2 := Same.new (o := .lst ((List.replicate (xs.length + ys.length) (0 : Int)).map V.int)) s1 hm
  have hm0 : H m = none := new_of s1 hm
  have em : upd (upd H l (.lst [.int 0])) m (.lst ((List.replicate (xs.length + ys.length) (0 : Int)).map V.int)) m = some (.lst ((mulS xs ys 0).map V.int)) := upd_same
  show tSeq _ _ _ _ (upd (upd H l (.lst [.int 0])) m (.lst ((List.replicate (xs.length + ys.length) (0 : Int)).map V.int)))
  generalize upd (upd H l (.lst [.int 0])) m (.lst ((List.replicate (xs.length + ys.length) (0 : Int)).map V.int)) = H2 at *
  refine ⟨_, rfl, p, _, rfl, SqT.of (s2 _ _ h10), for_enum (xs := xs.map V.int) (fun i σ H' => Same H H' ∧ H' m = some (.lst ((mulS xs ys i).map V.int)) ∧ ∃ a b c d : Option V, σ = [some (.ref p), some (.ref q), some (.ref m), a, b, c, d]) ⟨s2, em, none, none, none, none, rfl⟩ (fun i σ H' _ e => SqT.of (e.1 _ _ h10)) ?_ ?_⟩
  · rintro i x σ H3 hx ⟨s3, e3, a, b, c, d, rfl⟩ T hT
    obtain ⟨z, hz, rfl⟩ := at_map hx
    have hi := lt_of_at hz
    have s4 := Same.new (o := .tup [.int (i : Nat), .int z]) s3 hT
    have nT : m ≠ T := ne_of_none e3 hT
    have e4 : upd H3 T (.tup [.int (i : Nat), .int z]) m = _ := (upd_ne nT).trans e3
    refine ⟨T, _, rfl, SqT.of upd_same, rfl, _, _, rfl, _, _, rfl, rfl, ?_⟩
    refine ⟨_, rfl, q, _, rfl, SqT.of (s4 _ _ h20), for_enum (xs := ys.map V.int) (fun j σ H' => Same H H' ∧ H' m = some (.lst ((stG (fun o y => o + xs.getD i 0 * y) ys i (mulS xs ys i) j).map V.int)) ∧ ∃ c d : Option V, σ = [some (.ref p), some (.ref q), some (.ref m), some (.int (i : Nat)), some (.int z), c, d]) ⟨s4, e4, c, d, rfl⟩ (fun j σ H' _ e => SqT.of (e.1 _ _ h20)) ?_ ?_⟩
    · rintro j y σ H5 hy ⟨s5, e5, c, d, rfl⟩ T2 hT2
      obtain ⟨u, hu, rfl⟩ := at_map hy
      have hj := lt_of_at hu
      have s6 := Same.new (o := .tup [.int (j : Nat), .int u]) s5 hT2
      have nT2 : m ≠ T2 := ne_of_none e5 hT2
      have e6 : upd H5 T2 (.tup [.int (j : Nat), .int u]) m = _ := (upd_ne nT2).trans e5
      have li : j + i < (stG (fun o y => o + xs.getD i 0 * y) ys i (mulS xs ys i) j).length := by
        rw [stG_len, mulS_len]
        omega
      have ei : ((i : Int) + (j : Int)) = ((j + i : Nat) : Int) := by omega
      refine ⟨T2, _, rfl, SqT.of upd_same, rfl, _, _, rfl, _, _, rfl, rfl, _, rfl, _, rfl, _, rfl, _, _, rfl, rfl, m, _, _, V.int ((stG (fun o y => o + xs.getD i 0 * y) ys i (mulS xs ys i) j).getD (j + i) 0), rfl, rfl, SqL.of e6, by rw [ei]; exact atI_nat (getD_map li), ?_⟩
      refine ⟨_, rfl, _, rfl, _, _, rfl, rfl, cm (sx z (List.mem_of_getElem? hz)) (sy u (List.mem_of_getElem? hu)), _, _, rfl, rfl, m, _, _, j + i, rfl, rfl, e6, by rw [ei]; exact ixN_nat (by rw [List.length_map]; exact li), ?_⟩
      refine ⟨Same.put s6 hm0, ?_, _, _, rfl⟩
      rw [upd_same, set_map]
      show some (HO.lst _) = some (HO.lst (List.map V.int (List.set _ (j + i) _)))
      rw [getD_of hu, getD_of hz]
    · rintro σ H5 ⟨s5, e5, c, d, rfl⟩
      rw [ly'] at e5
      exact ⟨s5, e5, _, _, _, _, rfl⟩
  · rintro σ H3 ⟨s3, e3, a, b, c, d, rfl⟩
    rw [lx'] at e3
    refine ⟨_, rfl, (m, _), rfl, .inl e3, ?_⟩
    rintro _ H9 s9 ⟨r, rfl, hr9⟩
    exact k _ _ (s3.trans s9) ⟨r, rfl, hr9⟩
end
/-- one fold: its terms -/
def foT (eq ts : List Int) : List Int := combL (eq.getLastD 0) ts (ts.getLastD 0) eq (ts.length - eq.length)
def foS (eq : List Int) : Nat → Int → List Int → Int × List Int
  | 0, b, ts => (b, ts)
  | n + 1, b, ts => if ts.length < eq.length then (b, ts) else foS eq n (b * eq.getLastD 0) (foT eq ts)
def okFo (eq : List Int) : Nat → Int → List Int → Bool
  | 0, b, ts => decide (ts.length < eq.length) && okLow (eq.length - 1) b ts
  | n + 1, b, ts => (decide (ts.length < eq.length) && okLow (eq.length - 1) b ts) || (!decide (ts.length < eq.length) && smB 4000 ts && decide (ts.length ≤ 100) && smI 4000 b && okFo eq n (b * eq.getLastD 0) (foT eq ts))
/-- what folded tells -/
def fldL (eq : List Int) (b : Int) (ts : List Int) : List Int := lowL (eq.length - 1) (foS eq 10 b ts).1 (foS eq 10 b ts).2
section
variable {P : Program} {w : World} {K : PySem.W.Frag} {mg : Str → Option Value} {base : Heap} {C : Addr}
theorem n74 : FnScope ["shape", "bottom", "terms", "equation"] ["shape", "bottom", "terms"] (defScope (top 75)) := (⟨rfl, rfl, rfl, by decide +kernel, rfl, by decide +kernel, by decide +kernel⟩)
abbrev spFold (C : Addr) : Sp := Prm (α := Addr × Str × Int × List Int × Int × Addr × List Int) (fun ⟨sh, t, r, xs, b, p, ts⟩ => [.ref sh, .int b, .ref p]) (fun ⟨sh, t, r, xs, b, p, ts⟩ H => ShpG C H sh t r xs ∧ TI H p ts ∧ 1 ≤ xs.length ∧ smB 4000 xs = true ∧ xs.length ≤ 100 ∧ okFo xs 10 b ts = true)
  (fun ⟨sh, t, r, xs, b, p, ts⟩ H v H' => ∃ q, v = .ref q ∧ TI H' q (fldL xs b ts))
theorem c_fold (D : Df K mg "folded" (top 75)) (B : Bl mg) (S : ShC K mg C) (CL : Cal P w K mg base 3 "lowest" ["shape", "bottom", "terms"] (spLow C)) (CC : Cal P w K mg base 2 "combined" ["factor", "one", "weight", "other", "shift"] spCombG) : Cal P w K mg base 4 "folded" ["shape", "bottom", "terms"] (spFold C) := by
  refine mkC D n74 (fun _ _ _ _ _ _ us hl => match us, hl with | [_, _, _], _ => rfl) (fun _ => rfl) (fun f cdv A outer s H a Q E hr h k => ?_)
  obtain ⟨sh, t, r, xs, b, p, ts⟩ := a
  obtain ⟨hs, ht, l1, bx, lx, ok⟩ := h
  have hs : ShpG C H sh t r xs := hs
  have l1 : 1 ≤ xs.length := l1
  have bx : smB 4000 xs = true := bx
  have lx : xs.length ≤ 100 := lx
  have ok : okFo xs 10 b ts = true := ok
  have k : ∀ v H', Same H H' → (∃ q, v = .ref q ∧ TI H' q (fldL xs b ts)) → Q v H' := k
  have sx := smB_ok (a := 400000) bx (by decide)
  have s4 := smB_ok (a := 4000) bx (by decide)
  obtain ⟨dx, q0, z1, z2⟩ := id hs
  have r2 : Room (0 + 2) (A.deeper (envOfC "folded" (defScope (top 75)) s.heap.objs.size f cdv)) := hr.mono (by decide)
  refine ⟨_, pss_cons ((ps_set (i := 3) (FnScope.nd n74) rfl (Or.inl rfl) (pe_eqnG (j := 0) S (pv 0) r2)))
    (pss_cons (ps_whI PassesOwn.never ((pt_cmpR op_gt ((pe_callB call_len_seq (by rfl) (Bl.len_ B) PySem.boot_len (pa_cons (pv 2) pa_nil))) (pe_degG (j := 0) S B (pv 0) r2) (nomark _)))
      (pss_cons ((ps_set (i := 2) (FnScope.nd n74) rfl (Or.inl rfl) (pe_cl CC hr (pa_cons ((pe_ix ix_tup (pv 3) (pe_un un_neg pe_int) (fun _ _ => rfl))) (pa_cons (pv 2) (pa_cons ((pe_ix ix_tup (pv 2) (pe_un un_neg pe_int) (fun _ _ => rfl))) (pa_cons (pv 3) (pa_cons (pe_op op_sub ((pe_callB call_len_seq (by rfl) (Bl.len_ B) PySem.boot_len (pa_cons (pv 2) pa_nil))) ((pe_callB call_len_seq (by rfl) (Bl.len_ B) PySem.boot_len (pa_cons (pv 3) pa_nil)))) pa_nil))))))))
      (pss_one (ps_aug (i := 1) n74.nd rfl (Or.inl rfl) ((pe_ix ix_tup (pv 3) (pe_un un_neg pe_int) (fun _ _ => rfl))) iop_mulW))))
    (pss_one (ps_ret (pe_cl CL hr (pa_cons (pv 0) (pa_cons (pv 1) (pa_cons (pv 2) pa_nil))))))), ?_⟩
  refine ⟨_, rfl, sh, dx, _, rfl, z1, sh, t, r, xs, rfl, hs, fun q hq => ?_⟩
  have hq0 : H q = some (.tup (xs.map V.int)) := hq
  refine ⟨fun m σ H' => ∃ (b' : Int) (p' : Addr) (ts' : List Int), σ = [some (.ref sh), some (.int b'), some (.ref p'), some (.ref q)] ∧ Same H H' ∧ TI H' p' ts' ∧ okFo xs m b' ts' = true ∧ foS xs m b' ts' = foS xs 10 b ts, ⟨10, b, p, ts, rfl, Same.refl _, ht, ok, rfl⟩, ?_⟩
  rintro m σ H1 ⟨b', p', ts', rfl, s1, h1', ok1, e1⟩
  have h10 : H1 p' = some (.tup (ts'.map V.int)) := h1'
  have hq1 := s1 _ _ hq0
  have lt' : (ts'.map V.int).length = ts'.length := List.length_map ..
  have lx' : (xs.map V.int).length = xs.length := List.length_map ..
  refine ⟨_, rfl, p', _, rfl, .inr (SqT.of h10), _, rfl, sh, dx, _, rfl, s1 _ _ z1, sh, t, r, xs, rfl, hs.same s1, fun _ _ => ⟨_, _, rfl, rfl, _, rfl, ?_⟩⟩
  by_cases hlt : ts'.length < xs.length
  · rw [decide_eq_false (show ¬ ((((ts'.map V.int).length : Nat) : Int) > (xs.length : Int) - 1) by rw [lt']; omega)]
    have er : foS xs m b' ts' = (b', ts') := by
      cases m with
      | zero => rfl
      | succ m => exact if_pos hlt
    have ol : okLow (xs.length - 1) b' ts' = true := by
      cases m with
      | zero => exact (Bool.and_eq_true_iff.mp ok1).2
      | succ m =>
        rcases Bool.or_eq_true_iff.mp ok1 with z | z
        · exact (Bool.and_eq_true_iff.mp z).2
        · simp only [Bool.and_eq_true, Bool.not_eq_true', decide_eq_false_iff_not] at z
          exact absurd hlt z.1.1.1.1
    refine iteF ⟨_, rfl, _, rfl, _, rfl, (sh, t, r, xs, b', p', ts'), rfl, ⟨hs.same s1, h1', l1, ol⟩, ?_⟩
    rintro _ H9 s9 ⟨r9, rfl, hr9⟩
    refine k _ _ (s1.trans s9) ⟨r9, rfl, ?_⟩
    unfold fldL
    rw [← e1, er]
    exact hr9
  · rw [decide_eq_true (show ((((ts'.map V.int).length : Nat) : Int) > (xs.length : Int) - 1) by rw [lt']; omega)]
    cases m with
    | zero => exact absurd (of_decide_eq_true (Bool.and_eq_true_iff.mp ok1).1) hlt
    | succ m =>
      have z : (!decide (ts'.length < xs.length) && smB 4000 ts' && decide (ts'.length ≤ 100) && smI 4000 b' && okFo xs m (b' * xs.getLastD 0) (foT xs ts')) = true := by
        rcases Bool.or_eq_true_iff.mp ok1 with z | z
        · exact absurd (of_decide_eq_true (Bool.and_eq_true_iff.mp z).1) hlt
        · exact z
      simp only [Bool.and_eq_true, decide_eq_true_eq] at z
      obtain ⟨⟨⟨⟨_, zt⟩, zl⟩, zb⟩, zo⟩ := z
      have st := smB_ok (a := 400000) zt (by decide)
      have sb : Sm 4000 b' := of_decide_eq_true zb
      have l1t : 1 ≤ ts'.length := by omega
      have er : foS xs (m + 1) b' ts' = foS xs m (b' * xs.getLastD 0) (foT xs ts') := if_neg hlt
      rw [er] at e1
      have en : ((((ts'.map V.int).length : Nat) : Int) - (((xs.map V.int).length : Nat) : Int)) = ((ts'.length - xs.length : Nat) : Int) := by
        rw [lt', lx']
        omega
      refine iteT ⟨_, rfl, _, rfl, q, _, _, _, rfl, rfl, SqT.of hq1, at_lastD l1, ?_⟩
      refine ⟨_, rfl, _, rfl, _, rfl, p', _, _, _, rfl, rfl, SqT.of h10, at_lastD l1t, ?_⟩
      refine ⟨_, rfl, _, rfl, p', _, rfl, .inr (SqT.of h10), _, rfl, q, _, rfl, .inr (SqT.of hq1), _, _, rfl, rfl, ?_⟩
      refine ⟨(xs.getLastD 0, p', ts'.getLastD 0, q, ts'.length - xs.length, ts', xs), (by show [V.int (xs.getLastD 0), V.ref p', V.int (ts'.getLastD 0), V.ref q, V.int ((((ts'.map V.int).length : Nat) : Int) - (((xs.map V.int).length : Nat) : Int))] = _; rw [en]), ⟨h1', TI.same s1 hq, sx _ (last_mem l1), st _ (last_mem l1t), st, sx, by show ts'.length ≤ 1000; omega, by show xs.length + (ts'.length - xs.length) ≤ 1000; omega⟩, ?_⟩
      rintro _ H2 s2 ⟨r9, rfl, hr9⟩
      have s12 := s1.trans s2
      refine ⟨_, rfl, _, rfl, _, rfl, q, _, _, _, rfl, rfl, SqT.of (s12 _ _ hq0), at_lastD l1, _, _, rfl, rfl, cm sb (s4 _ (last_mem l1)), ?_⟩
      exact ⟨m, Nat.lt_succ_self m, b' * xs.getLastD 0, r9, foT xs ts', rfl, s12, hr9, zo, e1⟩
end
end Xq

/-! Numbers of any shape: reciprocal. -/
namespace Xq
open PySem PySem.Spec PyProof.Rows L2
/-- one step of the inner loop: of the terms, of what goes with them -/
def reA (ot one : List Int) : List Int := combL (ot.getLastD 0) one (one.getLastD 0) ot (one.length - ot.length)
def reB (ot rt one lf : List Int) : List Int := combL (ot.getLastD 0) lf (one.getLastD 0) rt (one.length - ot.length)
def reI (ot rt : List Int) : Nat → List Int → List Int → List Int × List Int
  | 0, one, lf => (one, lf)
  | n + 1, one, lf => if one.length < ot.length then (one, lf) else reI ot rt n (reA ot one) (reB ot rt one lf)
def okRi (ot rt : List Int) : Nat → List Int → List Int → Bool
  | 0, one, lf => decide (one.length < ot.length)
  | n + 1, one, lf => decide (one.length < ot.length) || (!decide (one.length < ot.length) && smB 4000 one && smB 4000 lf && decide (one.length ≤ 100) && decide (lf.length ≤ 100) && okRi ot rt n (reA ot one) (reB ot rt one lf))
def dvA (c : Nat) (l : List Int) : List Int := l.map fun x => x.fdiv (c : Int)
def reO : Nat → List Int → List Int → List Int → List Int → List Int × List Int
  | 0, _, _, ot, rt => (rt, ot)
  | n + 1, one, lf, ot, rt => if ot.length ≤ 1 then (rt, ot) else
      reO n ot rt (dvA (gcdL ((reI ot rt 10 one lf).1 ++ (reI ot rt 10 one lf).2)) (reI ot rt 10 one lf).1) (dvA (gcdL ((reI ot rt 10 one lf).1 ++ (reI ot rt 10 one lf).2)) (reI ot rt 10 one lf).2)
def okRo : Nat → List Int → List Int → List Int → List Int → Bool
  | 0, _, _, ot, _ => decide (ot.length = 1)
  | n + 1, one, lf, ot, rt => decide (ot.length = 1) || (decide (1 < ot.length) && smB 4000 ot && smB 4000 rt && decide (ot.length ≤ 100) && decide (rt.length ≤ 100) && okRi ot rt 10 one lf && decide ((reI ot rt 10 one lf).1.length ≤ 100) && decide ((reI ot rt 10 one lf).2.length ≤ 100) &&
      decide (0 < gcdL ((reI ot rt 10 one lf).1 ++ (reI ot rt 10 one lf).2)) && decide (gcdL ((reI ot rt 10 one lf).1 ++ (reI ot rt 10 one lf).2) < 2 ^ 8000) &&
      okRo n ot rt (dvA (gcdL ((reI ot rt 10 one lf).1 ++ (reI ot rt 10 one lf).2)) (reI ot rt 10 one lf).1) (dvA (gcdL ((reI ot rt 10 one lf).1 ++ (reI ot rt 10 one lf).2)) (reI ot rt 10 one lf).2))
/-- what reciprocal tells: the terms, and the integer in a row of one -/
def recL (eq dv : List Int) : List Int × List Int := reO 10 eq [] dv [1]
def okRec (eq dv : List Int) : Bool := okRo 10 eq [] dv [1]
theorem dv_lc {c : Nat} (h0 : 0 < c) (h1 : c < 2 ^ 8000) {i : Int} : CDivX i (c : Int) := by
  refine ⟨by omega, ?_⟩
  rw [Int.natAbs_natCast]
  exact Nat.lt_of_lt_of_le (PySem.Flt.log2_lt_of (show 0 < 8000 by decide) h1) (by decide)
section
variable {P : Program} {w : World} {K : PySem.W.Frag} {mg : Str → Option Value} {base : Heap} {C : Addr}
abbrev nRc : List Str := ["equation", "divisor", "one", "left", "other", "right", "factor", "weight", "shift", "common", "smaller", "multiple", "term"]
theorem n75 : FnScope nRc ["equation", "divisor"] (defScope (top 76)) := (⟨rfl, rfl, rfl, by decide +kernel, rfl, by decide +kernel, by decide +kernel⟩)
abbrev spRecG : Sp := Prm (α := Addr × Addr × List Int × List Int) (fun ⟨p, q, eq, dv⟩ => [.ref p, .ref q]) (fun ⟨p, q, eq, dv⟩ H => TI H p eq ∧ TI H q dv ∧ okRec eq dv = true)
  (fun ⟨p, q, eq, dv⟩ H v H' => ∃ t r c, v = .ref t ∧ H' t = some (.tup [.ref r, .int c]) ∧ TI H' r (recL eq dv).1 ∧ (recL eq dv).2 = [c])
theorem c_recG (D : Df K mg "reciprocal" (top 76)) (B : Bl mg) (CC : Cal P w K mg base 2 "combined" ["factor", "one", "weight", "other", "shift"] spCombG) (CG : Cal P w K mg base 1 "common_divisor" ["terms"] spGcd) : Cal P w K mg base 3 "reciprocal" ["equation", "divisor"] spRecG := by
  refine mkC D n75 (fun _ _ _ _ _ _ us hl => match us, hl with | [_, _], _ => rfl) (fun _ => rfl) (fun f cdv A outer s H a Q E hr h k => ?_)
  obtain ⟨p, q, eq, dv⟩ := a
  obtain ⟨h1, h2, ok⟩ := h
  have h1 : TI H p eq := h1
  have h2 : TI H q dv := h2
  have ok : okRec eq dv = true := ok
  have k : ∀ v H', Same H H' → (∃ t r c, v = .ref t ∧ H' t = some (.tup [.ref r, .int c]) ∧ TI H' r (recL eq dv).1 ∧ (recL eq dv).2 = [c]) → Q v H' := k
  refine ⟨_, pss_cons (ps_asg (pe_tup (pa_cons (pv 0) (pa_cons (pe_tup pa_nil) (pa_cons (pv 1) (pa_cons (pe_tup (pa_cons pe_int pa_nil)) pa_nil))))) (pg_tup rfl (pgs_cons ((pg_name (i := 2) (FnScope.nd n75) rfl (Or.inl rfl))) (pgs_cons ((pg_name (i := 3) (FnScope.nd n75) rfl (Or.inl rfl))) (pgs_cons ((pg_name (i := 4) (FnScope.nd n75) rfl (Or.inl rfl))) (pgs_cons ((pg_name (i := 5) (FnScope.nd n75) rfl (Or.inl rfl))) pgs_nil))))))
    (pss_cons (ps_whI PassesOwn.never ((pt_cmpR op_gt ((pe_callB call_len_seq (by rfl) (Bl.len_ B) PySem.boot_len (pa_cons (pv 4) pa_nil))) pe_int (nomark _)))
      (pss_cons (ps_whI PassesOwn.never ((pt_cmpR op_ge ((pe_callB call_len_seq (by rfl) (Bl.len_ B) PySem.boot_len (pa_cons (pv 2) pa_nil))) ((pe_callB call_len_seq (by rfl) (Bl.len_ B) PySem.boot_len (pa_cons (pv 4) pa_nil))) (nomark _)))
        (pss_cons (ps_par3 (i := 6) (j := 7) (l := 8) rfl n75.nd rfl rfl rfl (by decide) (by decide) (by decide) rfl rfl rfl (pa_cons ((pe_ix ix_tup (pv 4) (pe_un un_neg pe_int) (fun _ _ => rfl))) (pa_cons ((pe_ix ix_tup (pv 2) (pe_un un_neg pe_int) (fun _ _ => rfl))) (pa_cons (pe_op op_sub ((pe_callB call_len_seq (by rfl) (Bl.len_ B) PySem.boot_len (pa_cons (pv 2) pa_nil))) ((pe_callB call_len_seq (by rfl) (Bl.len_ B) PySem.boot_len (pa_cons (pv 4) pa_nil)))) pa_nil))) rfl)
        (pss_cons ((ps_set (i := 2) (FnScope.nd n75) rfl (Or.inl rfl) (pe_cl CC hr (pa_cons (pv 6) (pa_cons (pv 2) (pa_cons (pv 7) (pa_cons (pv 4) (pa_cons (pv 8) pa_nil))))))))
        (pss_one ((ps_set (i := 3) (FnScope.nd n75) rfl (Or.inl rfl) (pe_cl CC hr (pa_cons (pv 6) (pa_cons (pv 3) (pa_cons (pv 7) (pa_cons (pv 5) (pa_cons (pv 8) pa_nil))))))))))))
      (C8.pss_cut (ps_set (i := 9) n75.nd rfl (Or.inr rfl) (pe_cl CG hr (pa_cons (pe_op op_catA (pv 2) (pv 3)) pa_nil)))
      (pss_cons ((ps_set (i := 10) (FnScope.nd n75) rfl (Or.inl rfl) (pe_callTy call_tuple_of (by rfl) B.tuple_ PyProof.Rows.boot_tuple (pa_cons
        (pe_lc (own := [("term", 12)]) (g := gName 12) (tt := tYes) (te := tOp (rI CDivX fun i j => .int (i.fdiv j)) (tVar 12) (tVar 9)) rfl n75.nd (pi_tup (pv 2))
          (blkOk_by (N := nRc) (sc := defScope (top 76)) (by decide +kernel)) (fun _ _ _ _ _ => (pg_name (i := 12) (FnScope.nd n75) rfl (Or.inl rfl))) (fun _ _ _ _ _ => pts_nil)
          (fun _ _ _ _ _ => pe_op op_fdivX (pv 12) (pv 9))) pa_nil))))
      (pss_cons ((ps_set (i := 11) (FnScope.nd n75) rfl (Or.inl rfl) (pe_callTy call_tuple_of (by rfl) B.tuple_ PyProof.Rows.boot_tuple (pa_cons
        (pe_lc (own := [("term", 12)]) (g := gName 12) (tt := tYes) (te := tOp (rI CDivX fun i j => .int (i.fdiv j)) (tVar 12) (tVar 9)) rfl n75.nd (pi_tup (pv 3))
          (blkOk_by (N := nRc) (sc := defScope (top 76)) (by decide +kernel)) (fun _ _ _ _ _ => (pg_name (i := 12) (FnScope.nd n75) rfl (Or.inl rfl))) (fun _ _ _ _ _ => pts_nil)
          (fun _ _ _ _ _ => pe_op op_fdivX (pv 12) (pv 9))) pa_nil))))
      (pss_one (ps_asg (pe_tup (pa_cons (pv 4) (pa_cons (pv 5) (pa_cons (pv 10) (pa_cons (pv 11) pa_nil))))) (pg_tup rfl (pgs_cons ((pg_name (i := 2) (FnScope.nd n75) rfl (Or.inl rfl))) (pgs_cons ((pg_name (i := 3) (FnScope.nd n75) rfl (Or.inl rfl))) (pgs_cons ((pg_name (i := 4) (FnScope.nd n75) rfl (Or.inl rfl))) (pgs_cons ((pg_name (i := 5) (FnScope.nd n75) rfl (Or.inl rfl))) pgs_nil))))))))))))
    (pss_one (ps_ret (pe_tup (pa_cons (pv 5) (pa_cons ((pe_ix ix_tup (pv 4) pe_int (fun _ _ => rfl))) pa_nil)))))), ?_⟩
  have z4 : (4 : Nat) ≤ sizeLine := by decide
  have z2 : (2 : Nat) ≤ sizeLine := by decide
  have zl : (1000 : Nat) ≤ sizeLine := by decide
  refine ⟨_, rfl, by decide, fun l1 hl1 => ?_⟩
  have s1 := same_new (o := .tup []) hl1
  refine ⟨_, rfl, by decide, fun l2 hl2 => ?_⟩
  have s2' := same_new (o := .tup [.int 1]) hl2
  refine ⟨z4, fun l3 hl3 => ?_⟩
  have s3' := same_new (o := .tup [.ref p, .ref l1, .ref q, .ref l2]) hl3
  have t1 : TI (upd (upd (upd H l1 (.tup [])) l2 (.tup [.int 1])) l3 (.tup [.ref p, .ref l1, .ref q, .ref l2])) l1 [] := s3' _ _ (s2' _ _ upd_same)
  have t2 : TI (upd (upd (upd H l1 (.tup [])) l2 (.tup [.int 1])) l3 (.tup [.ref p, .ref l1, .ref q, .ref l2])) l2 [1] := s3' _ _ upd_same
  have t3 : upd (upd (upd H l1 (.tup [])) l2 (.tup [.int 1])) l3 (.tup [.ref p, .ref l1, .ref q, .ref l2]) l3 = some (.tup [.ref p, .ref l1, .ref q, .ref l2]) := upd_same
  have s3 := s1.trans (s2'.trans s3')
  refine ⟨l3, _, rfl, SqT.of t3, rfl, _, _, rfl, _, _, rfl, _, _, rfl, _, _, rfl, rfl, ?_⟩
  show tSeq _ _ _ _ (upd (upd (upd H l1 (.tup [])) l2 (.tup [.int 1])) l3 (.tup [.ref p, .ref l1, .ref q, .ref l2]))
  generalize upd (upd (upd H l1 (.tup [])) l2 (.tup [.int 1])) l3 (.tup [.ref p, .ref l1, .ref q, .ref l2]) = H3 at *
  clear s1 s2' s3' hl1 hl2 hl3
  refine ⟨fun m σ H' => ∃ (one lf ot rt : List Int) (a1 a2 a3 a4 : Addr) (y6 y7 y8 y9 y10 y11 y12 : Option V), σ = [some (.ref p), some (.ref q), some (.ref a1), some (.ref a2), some (.ref a3), some (.ref a4), y6, y7, y8, y9, y10, y11, y12] ∧ Same H H' ∧ TI H' a1 one ∧ TI H' a2 lf ∧ TI H' a3 ot ∧ TI H' a4 rt ∧ okRo m one lf ot rt = true ∧ reO m one lf ot rt = recL eq dv,
    ⟨10, eq, [], dv, [1], p, l1, q, l2, none, none, none, none, none, none, none, rfl, s3, TI.same s3 h1, t1, TI.same s3 h2, t2, ok, rfl⟩, ?_⟩
  rintro m σ H4 ⟨one, lf, ot, rt, a1, a2, a3, a4, y6, y7, y8, y9, y10, y11, y12, rfl, s4, u1, u2, u3, u4, okm, em⟩
  have u30 : H4 a3 = some (.tup (ot.map V.int)) := u3
  have lo' : (ot.map V.int).length = ot.length := List.length_map ..
  refine ⟨_, rfl, a3, _, rfl, .inr (SqT.of u30), _, _, rfl, rfl, _, rfl, ?_⟩
  by_cases hle : ot.length ≤ 1
  · rw [decide_eq_false (show ¬ ((((ot.map V.int).length : Nat) : Int) > 1) by rw [lo']; omega)]
    have l1e : ot.length = 1 := by
      cases m with
      | zero => exact of_decide_eq_true okm
      | succ m =>
        rcases Bool.or_eq_true_iff.mp okm with z | z
        · exact of_decide_eq_true z
        · simp only [Bool.and_eq_true, decide_eq_true_eq] at z
          have := z.1.1.1.1.1.1.1.1.1.1
          omega
    have er : reO m one lf ot rt = (rt, ot) := by
      cases m with
      | zero => rfl
      | succ m => exact if_pos hle
    obtain ⟨c, rfl⟩ : ∃ c, ot = [c] := List.length_eq_one_iff.mp l1e
    refine iteF ⟨_, rfl, _, rfl, a3, _, _, .int c, rfl, rfl, SqT.of u30, atI_nat (j := 0) rfl, z2, fun r hr2 => ?_⟩
    have s5 := same_new (o := .tup [.ref a4, .int c]) hr2
    rw [er] at em
    refine k _ _ (s4.trans s5) ⟨r, a4, c, rfl, upd_same, ?_, ?_⟩
    · rw [← em]
      exact TI.same s5 u4
    · rw [← em]
  · rw [decide_eq_true (show ((((ot.map V.int).length : Nat) : Int) > 1) by rw [lo']; omega)]
    cases m with
    | zero => exact absurd (of_decide_eq_true okm) (by omega)
    | succ m =>
      have z : (decide (1 < ot.length) && smB 4000 ot && smB 4000 rt && decide (ot.length ≤ 100) && decide (rt.length ≤ 100) && okRi ot rt 10 one lf && decide ((reI ot rt 10 one lf).1.length ≤ 100) && decide ((reI ot rt 10 one lf).2.length ≤ 100) &&
          decide (0 < gcdL ((reI ot rt 10 one lf).1 ++ (reI ot rt 10 one lf).2)) && decide (gcdL ((reI ot rt 10 one lf).1 ++ (reI ot rt 10 one lf).2) < 2 ^ 8000) &&
          okRo m ot rt (dvA (gcdL ((reI ot rt 10 one lf).1 ++ (reI ot rt 10 one lf).2)) (reI ot rt 10 one lf).1) (dvA (gcdL ((reI ot rt 10 one lf).1 ++ (reI ot rt 10 one lf).2)) (reI ot rt 10 one lf).2)) = true := by
        rcases Bool.or_eq_true_iff.mp okm with z | z
        · exact absurd (of_decide_eq_true z) (by omega)
        · exact z
      simp only [Bool.and_eq_true, decide_eq_true_eq] at z
      obtain ⟨⟨⟨⟨⟨⟨⟨⟨⟨⟨c1, c2⟩, c3⟩, c4⟩, c5⟩, c6⟩, c7⟩, c8⟩, c9⟩, c10⟩, c11⟩ := z
      have sot := smB_ok (a := 400000) c2 (by decide)
      have srt := smB_ok (a := 400000) c3 (by decide)
      have er : reO (m + 1) one lf ot rt = reO m ot rt (dvA (gcdL ((reI ot rt 10 one lf).1 ++ (reI ot rt 10 one lf).2)) (reI ot rt 10 one lf).1) (dvA (gcdL ((reI ot rt 10 one lf).1 ++ (reI ot rt 10 one lf).2)) (reI ot rt 10 one lf).2) := if_neg hle
      rw [er] at em
      refine iteT ?_
      refine ⟨fun m' σ H' => ∃ (one' lf' : List Int) (b1 b2 : Addr) (y6 y7 y8 : Option V), σ = [some (.ref p), some (.ref q), some (.ref b1), some (.ref b2), some (.ref a3), some (.ref a4), y6, y7, y8, y9, y10, y11, y12] ∧ Same H H' ∧ TI H' b1 one' ∧ TI H' b2 lf' ∧ TI H' a3 ot ∧ TI H' a4 rt ∧ okRi ot rt m' one' lf' = true ∧ reI ot rt m' one' lf' = reI ot rt 10 one lf,
        ⟨10, one, lf, a1, a2, y6, y7, y8, rfl, s4, u1, u2, u3, u4, c6, rfl⟩, ?_⟩
      rintro m' σ H5 ⟨one', lf', b1, b2, y6', y7', y8', rfl, s5, v1, v2, v3, v4, oki, ei⟩
      have v10 : H5 b1 = some (.tup (one'.map V.int)) := v1
      have v30 : H5 a3 = some (.tup (ot.map V.int)) := v3
      have l1' : (one'.map V.int).length = one'.length := List.length_map ..
      refine ⟨_, rfl, b1, _, rfl, .inr (SqT.of v10), _, rfl, a3, _, rfl, .inr (SqT.of v30), _, _, rfl, rfl, _, rfl, ?_⟩
      by_cases hlt : one'.length < ot.length
      · rw [decide_eq_false (show ¬ ((((one'.map V.int).length : Nat) : Int) ≥ (((ot.map V.int).length : Nat) : Int)) by rw [l1', lo']; omega)]
        refine iteF ?_
        have ef : reI ot rt m' one' lf' = (one', lf') := by
          cases m' with
          | zero => rfl
          | succ m' => exact if_pos hlt
        rw [ef] at ei
        rw [← ei] at c7 c8 c9 c10 c11 em
        have c7 : one'.length ≤ 100 := c7
        have c8 : lf'.length ≤ 100 := c8
        have c9 : 0 < gcdL (one' ++ lf') := c9
        have c10 : gcdL (one' ++ lf') < 2 ^ 8000 := c10
        have v20 : H5 b2 = some (.tup (lf'.map V.int)) := v2
        refine ⟨fun σ' H' => σ' = [some (.ref p), some (.ref q), some (.ref b1), some (.ref b2), some (.ref a3), some (.ref a4), y6', y7', y8', some (.int ((gcdL (one' ++ lf') : Nat) : Int)), y10, y11, y12] ∧ Same H5 H', ?_, ?_⟩
        · have gc : ∀ (c : Addr) (H6 : Hp), Same H5 H6 → TI H6 c (one' ++ lf') → spGcd ([.ref c] ++ []) H6 (fun v H' => gName 9 v [some (.ref p), some (.ref q), some (.ref b1), some (.ref b2), some (.ref a3), some (.ref a4), y6', y7', y8', y9, y10, y11, y12] H' fun σ' H' => σ' = [some (.ref p), some (.ref q), some (.ref b1), some (.ref b2), some (.ref a3), some (.ref a4), y6', y7', y8', some (.int ((gcdL (one' ++ lf') : Nat) : Int)), y10, y11, y12] ∧ Same H5 H') L2.E0 := fun c H6 s6 hc => by
            refine ⟨(c, one' ++ lf'), rfl, .inr hc, ?_⟩
            rintro _ _ - ⟨rfl, rfl⟩
            exact ⟨rfl, s6⟩
          refine ⟨_, rfl, _, rfl, b1, b2, _, _, rfl, rfl, SqT.of v10, SqT.of v20, (by rw [List.length_map, List.length_map]; omega), fun e => ?_, fun n e => ?_, fun n n2 pp hp => ?_⟩
          · have e : one' = [] := List.map_eq_nil_iff.mp e
            refine gc b2 H5 (Same.refl _) ?_
            rw [e]
            exact v2
          · have e : lf' = [] := List.map_eq_nil_iff.mp e
            refine gc b1 H5 (Same.refl _) ?_
            rw [e, List.append_nil]
            exact v1
          · refine gc pp _ (same_new hp) ?_
            show upd H5 pp _ pp = some (.tup ((one' ++ lf').map V.int))
            rw [upd_same, List.map_append]
        · rintro σ' H6 ⟨rfl, s6⟩
          have w10 := s6 _ _ v10
          have w20 := s6 _ _ v20
          refine ⟨_, rfl, b1, rfl, ⟨_, SqT.of w10⟩, fun D hD => lc_tup (xs := one'.map V.int) (fun i H' => Same H6 H' ∧ H' D = some (.lst ((dvA (gcdL (one' ++ lf')) (one'.take i)).map V.int))) ⟨same_new hD, upd_same⟩ (fun i H' _ e => SqT.of (e.1 _ _ w10)) (fun i x H' hx e => ?_) (fun H7 e => ?_)⟩
          · obtain ⟨s7, e7⟩ := e
            obtain ⟨z, hz, rfl⟩ := at_map hx
            have li := lt_of_at hz
            refine ⟨rfl, _, rfl, _, rfl, _, _, rfl, rfl, dv_lc c9 c10, _, e7, ?_, Same.put s7 hD, ?_⟩
            · unfold dvA
              rw [List.length_map, List.length_map, List.length_take]
              exact sz_lt (by omega)
            · unfold dvA
              rw [upd_same, List.take_succ, hz, List.map_append, List.map_append]
              rfl
          obtain ⟨s7, e7⟩ := e
          rw [List.length_map, List.take_length] at e7
          refine ⟨D, _, rfl, .inl ⟨SqL.of e7, fun d1 hd1 => ?_⟩⟩
          have s8 := Same.new (o := .tup ((dvA (gcdL (one' ++ lf')) one').map V.int)) s7 hd1
          have w8 : TI (upd H7 d1 (.tup ((dvA (gcdL (one' ++ lf')) one').map V.int))) d1 (dvA (gcdL (one' ++ lf')) one') := upd_same
          show gName 10 _ _ (upd H7 d1 (.tup ((dvA (gcdL (one' ++ lf')) one').map V.int))) _
          generalize upd H7 d1 (.tup ((dvA (gcdL (one' ++ lf')) one').map V.int)) = H8 at *
          clear e7 s7 hD hd1
          have w28 := s8 _ _ w20
          refine ⟨_, rfl, b2, rfl, ⟨_, SqT.of w28⟩, fun D hD => lc_tup (xs := lf'.map V.int) (fun i H' => Same H8 H' ∧ H' D = some (.lst ((dvA (gcdL (one' ++ lf')) (lf'.take i)).map V.int))) ⟨same_new hD, upd_same⟩ (fun i H' _ e => SqT.of (e.1 _ _ w28)) (fun i x H' hx e => ?_) (fun H9 e => ?_)⟩
          · obtain ⟨s9, e9⟩ := e
            obtain ⟨z, hz, rfl⟩ := at_map hx
            have li := lt_of_at hz
            refine ⟨rfl, _, rfl, _, rfl, _, _, rfl, rfl, dv_lc c9 c10, _, e9, ?_, Same.put s9 hD, ?_⟩
            · unfold dvA
              rw [List.length_map, List.length_map, List.length_take]
              exact sz_lt (by omega)
            · unfold dvA
              rw [upd_same, List.take_succ, hz, List.map_append, List.map_append]
              rfl
          obtain ⟨s9, e9⟩ := e
          rw [List.length_map, List.take_length] at e9
          refine ⟨D, _, rfl, .inl ⟨SqL.of e9, fun d2 hd2 => ?_⟩⟩
          have s10 := Same.new (o := .tup ((dvA (gcdL (one' ++ lf')) lf').map V.int)) s9 hd2
          have w10' : TI (upd H9 d2 (.tup ((dvA (gcdL (one' ++ lf')) lf').map V.int))) d2 (dvA (gcdL (one' ++ lf')) lf') := upd_same
          show gName 11 _ _ (upd H9 d2 (.tup ((dvA (gcdL (one' ++ lf')) lf').map V.int))) _
          generalize upd H9 d2 (.tup ((dvA (gcdL (one' ++ lf')) lf').map V.int)) = H10 at *
          clear e9 s9 hD hd2
          refine ⟨_, rfl, _, rfl, _, rfl, _, rfl, z4, fun l4 hl4 => ?_⟩
          have s11 := same_new (o := .tup [.ref a3, .ref a4, .ref d1, .ref d2]) hl4
          refine ⟨l4, _, rfl, SqT.of upd_same, rfl, _, _, rfl, _, _, rfl, _, _, rfl, _, _, rfl, rfl, ?_⟩
          have sA := s6.trans (s8.trans (s10.trans s11))
          exact ⟨m, Nat.lt_succ_self m, ot, rt, dvA (gcdL (one' ++ lf')) one', dvA (gcdL (one' ++ lf')) lf', a3, a4, d1, d2, _, _, _, _, _, _, _, rfl, s5.trans sA, TI.same sA v3, TI.same sA v4, TI.same (s10.trans s11) w8, TI.same s11 w10', c11, em⟩
      · rw [decide_eq_true (show ((((one'.map V.int).length : Nat) : Int) ≥ (((ot.map V.int).length : Nat) : Int)) by rw [l1', lo']; omega)]
        cases m' with
        | zero => exact absurd (of_decide_eq_true oki) hlt
        | succ m' =>
          have z : (!decide (one'.length < ot.length) && smB 4000 one' && smB 4000 lf' && decide (one'.length ≤ 100) && decide (lf'.length ≤ 100) && okRi ot rt m' (reA ot one') (reB ot rt one' lf')) = true := by
            rcases Bool.or_eq_true_iff.mp oki with z | z
            · exact absurd (of_decide_eq_true z) hlt
            · exact z
          simp only [Bool.and_eq_true, decide_eq_true_eq] at z
          obtain ⟨⟨⟨⟨⟨_, x1⟩, x2⟩, x3⟩, x4⟩, x5⟩ := z
          have so := smB_ok (a := 400000) x1 (by decide)
          have sl := smB_ok (a := 400000) x2 (by decide)
          have lo1 : 1 ≤ ot.length := by omega
          have l11 : 1 ≤ one'.length := by omega
          have ef : reI ot rt (m' + 1) one' lf' = reI ot rt m' (reA ot one') (reB ot rt one' lf') := if_neg hlt
          rw [ef] at ei
          have en : ((((one'.map V.int).length : Nat) : Int) - (((ot.map V.int).length : Nat) : Int)) = ((one'.length - ot.length : Nat) : Int) := by
            rw [l1', lo']
            omega
          refine iteT ⟨_, rfl, _, rfl, a3, _, _, _, rfl, rfl, SqT.of v30, at_lastD lo1, _, rfl, _, rfl, b1, _, _, _, rfl, rfl, SqT.of v10, at_lastD l11, ?_⟩
          refine ⟨_, rfl, b1, _, rfl, .inr (SqT.of v10), _, rfl, a3, _, rfl, .inr (SqT.of v30), _, _, rfl, rfl, _, _, _, rfl, ?_⟩
          refine ⟨_, rfl, _, rfl, _, rfl, _, rfl, _, rfl, (ot.getLastD 0, b1, one'.getLastD 0, a3, one'.length - ot.length, one', ot), (by show [V.int (ot.getLastD 0), V.ref b1, V.int (one'.getLastD 0), V.ref a3, V.int ((((one'.map V.int).length : Nat) : Int) - (((ot.map V.int).length : Nat) : Int))] = _; rw [en]), ⟨v1, v3, sot _ (last_mem lo1), so _ (last_mem l11), so, sot, by show one'.length ≤ 1000; omega, by show ot.length + (one'.length - ot.length) ≤ 1000; omega⟩, ?_⟩
          rintro _ H6 s6 ⟨r1, rfl, hr1⟩
          refine ⟨_, rfl, _, rfl, _, rfl, _, rfl, _, rfl, (ot.getLastD 0, b2, one'.getLastD 0, a4, one'.length - ot.length, lf', rt), (by show [V.int (ot.getLastD 0), V.ref b2, V.int (one'.getLastD 0), V.ref a4, V.int ((((one'.map V.int).length : Nat) : Int) - (((ot.map V.int).length : Nat) : Int))] = _; rw [en]), ⟨TI.same s6 v2, TI.same s6 v4, sot _ (last_mem lo1), so _ (last_mem l11), sl, srt, by show lf'.length ≤ 1000; omega, by show rt.length + (one'.length - ot.length) ≤ 1000; omega⟩, ?_⟩
          rintro _ H7 s7 ⟨r2, rfl, hr2⟩
          have s67 := s6.trans s7
          exact ⟨m', Nat.lt_succ_self m', reA ot one', reB ot rt one' lf', r1, r2, _, _, _, rfl, s5.trans s67, TI.same s7 hr1, hr2, TI.same s67 v3, TI.same s67 v4, x5, ei⟩
end
end Xq

/-! Numbers of any shape: total, product, quotient. -/
namespace Xq
open PySem PySem.Spec PyProof.Rows L2
theorem trim_len (xs : List Int) : (trimI xs).length ≤ xs.length := by
  unfold trimI
  rw [List.length_take]
  omega
theorem combL_len (c : Int) (xs : List Int) (wt : Int) (ys : List Int) (sh : Nat) : (combL c xs wt ys sh).length ≤ max xs.length (ys.length + sh) := by
  unfold combL
  refine Nat.le_trans (trim_len _) ?_
  rw [stG_len]
  unfold combA
  rw [stG_len, List.length_replicate]
  exact Nat.le_refl _
theorem mulL_len (xs ys : List Int) : (mulL xs ys).length ≤ xs.length + ys.length := by
  unfold mulL
  refine Nat.le_trans (trim_len _) ?_
  rw [mulS_len]
  exact Nat.le_refl _
theorem tail_map (ns : List Int) : (ns.map V.int).drop 1 = (ns.drop 1).map V.int := by rw [List.map_drop]
theorem not_whole {n : Nat} (h : 1 ≤ n) : ¬ HT.sIx n 0 (some 1) = 0 := by
  rw [show (1 : Int) = ((1 : Nat) : Int) from rfl, HT.sIx_nat]
  omega
theorem sh_ints (l : List Int) : SeqAt.shaped (dT l) = true := by
  have e1 : PyData.canLayAll0 (l.map PyData.int) = true := by
    induction l with
    | nil => rfl
    | cons b r ih =>
      show (PyData.canLay0 (.int b) && PyData.canLayAll0 (r.map PyData.int)) = true
      rw [ih]
      first | done | rfl
  have e2 : ∀ l : List Int, PyData.depthAll (l.map PyData.int) = 0 := by
    intro l
    induction l with
    | nil => rfl
    | cons b r ih =>
      simp only [List.map_cons, PyData.depthAll, PyData.depth, ih]
      rfl
  unfold SeqAt.shaped dT
  rw [Bool.and_eq_true]
  refine ⟨e1, decide_eq_true ?_⟩
  simp only [PyData.depth, e2]
  decide
theorem eqv_nil {l : List Int} (h : l ≠ []) : PyData.eqv (dT l) (.tuple []) = false := by
  cases l with
  | nil => exact absurd rfl h
  | cons x r => rfl
/-- what total, product, quotient tell, of numbers ns and ms -/
def totL (n : Nat) (ns ms : List Int) : List Int := lowL (n - 1) (ns.getD 0 0 * ms.getD 0 0) (combL (ms.getD 0 0) (ns.drop 1) (-(ns.getD 0 0)) (ms.drop 1) 0)
def proL (xs ns ms : List Int) : List Int := fldL xs (ns.getD 0 0 * ms.getD 0 0) (mulL (ns.drop 1) (ms.drop 1))
def okPro (xs ns ms : List Int) : Bool := okMul (ns.drop 1) (ms.drop 1) && smB 4000 xs && okFo xs 10 (ns.getD 0 0 * ms.getD 0 0) (mulL (ns.drop 1) (ms.drop 1))
/-- the reciprocal of ms: its terms, its bottom -/
def qR (xs ms : List Int) : List Int := (recL xs (trimI (ms.drop 1))).1
def qC' (xs ms : List Int) : Int := (recL xs (trimI (ms.drop 1))).2.getD 0 0
def qT (xs ns ms : List Int) : List Int := mulL (mulL (ns.drop 1) (qR xs ms)) [ms.getD 0 0]
def quoL (xs ns ms : List Int) : List Int := fldL xs (ns.getD 0 0 * qC' xs ms) (qT xs ns ms)
def okQuo (xs ns ms : List Int) : Bool := okRec xs (trimI (ms.drop 1)) && okMul (ns.drop 1) (qR xs ms) && okMul (mulL (ns.drop 1) (qR xs ms)) [ms.getD 0 0] && smI 4000 (qC' xs ms) && smB 4000 xs && okFo xs 10 (ns.getD 0 0 * qC' xs ms) (qT xs ns ms)
section
variable {P : Program} {w : World} {K : PySem.W.Frag} {mg : Str → Option Value} {base : Heap} {C : Addr}
abbrev A2G := Addr × Str × Int × List Int × Addr × List Int × Addr × List Int
abbrev args2G : A2G → List V := fun ⟨sh, t, r, xs, p, ns, q, ms⟩ => [.ref sh, .ref p, .ref q]
abbrev pre2G (C : Addr) : A2G → Hp → Prop := fun ⟨sh, t, r, xs, p, ns, q, ms⟩ H => ShpG C H sh t r xs ∧ NumG H p xs.length ns ∧ NumG H q xs.length ms ∧ smB 3000 ns = true ∧ smB 3000 ms = true ∧ 1 ≤ xs.length ∧ xs.length ≤ 8
theorem pos_mul1 {d e : Int} (h : 1 ≤ d) (h2 : 1 ≤ e) : d * e ≠ 0 := by
  have := Int.mul_pos (show 0 < d by omega) (show 0 < e by omega)
  omega
theorem head_sm {ns : List Int} (h : smB 3000 ns = true) (h1 : 1 ≤ ns.length) : Sm 3000 (ns.getD 0 0) := by
  have e : ns.getD 0 0 = ns[0] := by
    rw [List.getD_eq_getElem?_getD, List.getElem?_eq_getElem h1]
    rfl
  rw [e]
  exact smB_ok h (Nat.le_refl _) _ (List.getElem_mem h1)
theorem n66 : FnScope ["shape", "first", "second"] ["shape", "first", "second"] (defScope (top 66)) := (⟨rfl, rfl, rfl, by decide +kernel, rfl, by decide +kernel, by decide +kernel⟩)
abbrev spTotal (C : Addr) : Sp := Prm (α := A2G) args2G (pre2G C) (fun ⟨sh, t, r, xs, p, ns, q, ms⟩ H v H' => ∃ r', v = .ref r' ∧ TI H' r' (totL xs.length ns ms))
theorem c_total (D : Df K mg "total" (top 66)) (CK : Cal P w K mg base 1 "check_shape" ["value"] (spChkG C)) (CN : Cal P w K mg base 4 "check_number" ["shape", "value"] (spChkN C)) (CL : Cal P w K mg base 3 "lowest" ["shape", "bottom", "terms"] (spLow C)) (CC : Cal P w K mg base 2 "combined" ["factor", "one", "weight", "other", "shift"] spCombG) :
    Cal P w K mg base 5 "total" ["shape", "first", "second"] (spTotal C) := by
  refine mkC D n66 (fun _ _ _ _ _ _ us hl => match us, hl with | [_, _, _], _ => rfl) (fun _ => rfl) (fun f cdv A outer s H a Q E hr h k => ?_)
  obtain ⟨sh, t, r, xs, p, ns, q, ms⟩ := a
  obtain ⟨hs, hp, hq, bn, bm, l1, l8⟩ := h
  have hs : ShpG C H sh t r xs := hs
  have hp : NumG H p xs.length ns := hp
  have hq : NumG H q xs.length ms := hq
  have l1 : 1 ≤ xs.length := l1
  have l8 : xs.length ≤ 8 := l8
  have hp0 : H p = some (.tup (ns.map V.int)) := hp.at_
  have hq0 : H q = some (.tup (ms.map V.int)) := hq.at_
  have ln : 1 ≤ ns.length := by rw [hp.len]; exact l1
  have lm : 1 ≤ ms.length := by rw [hq.len]; exact l1
  have sn := head_sm bn ln
  have sm := head_sm bm lm
  have k : ∀ v H', Same H H' → (∃ r', v = .ref r' ∧ TI H' r' (totL xs.length ns ms)) → Q v H' := k
  refine ⟨_, pss_cons (ps_expr (pe_cl CK hr (pa_cons (pv 0) pa_nil)))
    (pss_cons (ps_expr (pe_cl CN hr (pa_cons (pv 0) (pa_cons (pv 1) pa_nil))))
    (pss_cons (ps_expr (pe_cl CN hr (pa_cons (pv 0) (pa_cons (pv 2) pa_nil))))
    (pss_one (ps_ret (pe_cl CL hr (pa_cons (pv 0) (pa_cons (pe_op op_mulW ((pe_ix ix_tup (pv 1) pe_int (fun _ _ => rfl))) ((pe_ix ix_tup (pv 2) pe_int (fun _ _ => rfl)))) (pa_cons (pe_cl CC hr (pa_cons ((pe_ix ix_tup (pv 2) pe_int (fun _ _ => rfl))) (pa_cons (pe_slice sl_tupA (pv 1) (po_some pe_int) po_none) (pa_cons (pe_un un_neg ((pe_ix ix_tup (pv 1) pe_int (fun _ _ => rfl)))) (pa_cons (pe_slice sl_tupA (pv 2) (po_some pe_int) po_none) (pa_cons pe_int pa_nil)))))) pa_nil)))))))), ?_⟩
  refine ⟨_, rfl, (sh, t, r, xs), rfl, hs, ?_⟩
  rintro _ _ - rfl
  refine ⟨_, rfl, _, rfl, (sh, t, r, xs, p, ns), rfl, ⟨hs, hp, by show ns.length ≤ 1000; rw [hp.len]; omega⟩, ?_⟩
  rintro _ H1 s1 -
  refine ⟨_, rfl, _, rfl, (sh, t, r, xs, q, ms), rfl, ⟨hs.same s1, hq.same s1, by show ms.length ≤ 1000; rw [hq.len]; omega⟩, ?_⟩
  rintro _ H2 s2 -
  have t2 := s1.trans s2
  have hp2 := t2 _ _ hp0
  have hq2 := t2 _ _ hq0
  refine ⟨_, rfl, _, rfl, p, _, _, _, rfl, rfl, SqT.of hp2, atI_nat (j := 0) (getD_map ln), _, rfl, q, _, _, _, rfl, rfl, SqT.of hq2, atI_nat (j := 0) (getD_map lm), _, _, rfl, rfl, cm sn sm, ?_⟩
  refine ⟨_, rfl, q, _, _, _, rfl, rfl, SqT.of hq2, atI_nat (j := 0) (getD_map lm), ?_⟩
  refine ⟨_, rfl, _, rfl, p, _, rfl, SqT.of hp2, (fun z => absurd (show HT.sIx (ns.map V.int).length 0 (some 1) = 0 from z.1) (not_whole (by rw [List.length_map]; exact ln))), fun _ u hu => ?_⟩
  rw [cut_1, tail_map] at *
  have n3 := same_new (o := .tup ((ns.drop 1).map V.int)) hu
  have t3 := t2.trans n3
  have v1 : TI (upd H2 u (.tup ((ns.drop 1).map V.int))) u (ns.drop 1) := upd_same
  refine ⟨_, rfl, p, _, _, _, rfl, rfl, SqT.of (t3 _ _ hp0), atI_nat (j := 0) (getD_map ln), _, rfl, ?_⟩
  refine ⟨_, rfl, _, rfl, q, _, rfl, SqT.of (t3 _ _ hq0), (fun z => absurd (show HT.sIx (ms.map V.int).length 0 (some 1) = 0 from z.1) (not_whole (by rw [List.length_map]; exact lm))), fun _ u2 hu2 => ?_⟩
  rw [cut_1, tail_map] at *
  have n4 := same_new (o := .tup ((ms.drop 1).map V.int)) hu2
  have t4 := t3.trans n4
  have v2 : TI (upd (upd H2 u (.tup ((ns.drop 1).map V.int))) u2 (.tup ((ms.drop 1).map V.int))) u2 (ms.drop 1) := upd_same
  have b4 : ∀ {l : List Int}, smB 3000 l = true → ∀ x ∈ l.drop 1, Sm 400000 x := fun {l} hl x hx => smB_ok hl (by decide) x (List.mem_of_mem_drop hx)
  have ld : (ns.drop 1).length = xs.length - 1 := by rw [List.length_drop, hp.len]
  have ld2 : (ms.drop 1).length = xs.length - 1 := by rw [List.length_drop, hq.len]
  refine ⟨(ms.getD 0 0, u, -(ns.getD 0 0), u2, 0, ns.drop 1, ms.drop 1), rfl, ⟨TI.same n4 v1, v2, sm_le sm (by decide), sm_le (sm_neg sn) (by decide), b4 bn, b4 bm, by show (ns.drop 1).length ≤ 1000; omega, by show (ms.drop 1).length + 0 ≤ 1000; omega⟩, ?_⟩
  rintro _ H5 s5 ⟨r5, rfl, hr5⟩
  have t5 := t4.trans s5
  have ol : okLow (xs.length - 1) (ns.getD 0 0 * ms.getD 0 0) (combL (ms.getD 0 0) (ns.drop 1) (-(ns.getD 0 0)) (ms.drop 1) 0) = true := by
    have cl := combL_len (ms.getD 0 0) (ns.drop 1) (-(ns.getD 0 0)) (ms.drop 1) 0
    unfold okLow
    have s8 : smI 8000 (ns.getD 0 0 * ms.getD 0 0) = true := decide_eq_true (sm_le (sm_mul sn sm) (by decide))
    rw [decide_eq_true (show xs.length - 1 ≤ 8 by omega), decide_eq_true (show (combL (ms.getD 0 0) (ns.drop 1) (-(ns.getD 0 0)) (ms.drop 1) 0).length ≤ xs.length - 1 by omega), decide_eq_false (pos_mul1 hp.pos hq.pos), s8]
    rfl
  refine ⟨(sh, t, r, xs, ns.getD 0 0 * ms.getD 0 0, r5, _), rfl, ⟨hs.same t5, hr5, l1, ol⟩, ?_⟩
  rintro _ H6 s6 ⟨r6, rfl, hr6⟩
  exact k _ _ (t5.trans s6) ⟨r6, rfl, hr6⟩
theorem n67 : FnScope ["shape", "first", "second"] ["shape", "first", "second"] (defScope (top 67)) := (⟨rfl, rfl, rfl, by decide +kernel, rfl, by decide +kernel, by decide +kernel⟩)
abbrev spProd (C : Addr) : Sp := Prm (α := A2G) args2G (fun a H => pre2G C a H ∧ okPro a.2.2.2.1 a.2.2.2.2.2.1 a.2.2.2.2.2.2.2 = true) (fun ⟨sh, t, r, xs, p, ns, q, ms⟩ H v H' => ∃ r', v = .ref r' ∧ TI H' r' (proL xs ns ms))
theorem c_prod (D : Df K mg "product" (top 67)) (CK : Cal P w K mg base 1 "check_shape" ["value"] (spChkG C)) (CN : Cal P w K mg base 4 "check_number" ["shape", "value"] (spChkN C)) (CF : Cal P w K mg base 4 "folded" ["shape", "bottom", "terms"] (spFold C)) (CM : Cal P w K mg base 2 "multiplied" ["one", "other"] spMulG) :
    Cal P w K mg base 5 "product" ["shape", "first", "second"] (spProd C) := by
  refine mkC D n67 (fun _ _ _ _ _ _ us hl => match us, hl with | [_, _, _], _ => rfl) (fun _ => rfl) (fun f cdv A outer s H a Q E hr h k => ?_)
  obtain ⟨sh, t, r, xs, p, ns, q, ms⟩ := a
  obtain ⟨⟨hs, hp, hq, bn, bm, l1, l8⟩, ok⟩ := h
  have hs : ShpG C H sh t r xs := hs
  have hp : NumG H p xs.length ns := hp
  have hq : NumG H q xs.length ms := hq
  have l1 : 1 ≤ xs.length := l1
  have l8 : xs.length ≤ 8 := l8
  have hp0 : H p = some (.tup (ns.map V.int)) := hp.at_
  have hq0 : H q = some (.tup (ms.map V.int)) := hq.at_
  have ln : 1 ≤ ns.length := by rw [hp.len]; exact l1
  have lm : 1 ≤ ms.length := by rw [hq.len]; exact l1
  have sn := head_sm bn ln
  have sm := head_sm bm lm
  have ok : okPro xs ns ms = true := ok
  unfold okPro at ok
  simp only [Bool.and_eq_true] at ok
  obtain ⟨⟨o1, o2⟩, o3⟩ := ok
  have k : ∀ v H', Same H H' → (∃ r', v = .ref r' ∧ TI H' r' (proL xs ns ms)) → Q v H' := k
  refine ⟨_, pss_cons (ps_expr (pe_cl CK hr (pa_cons (pv 0) pa_nil)))
    (pss_cons (ps_expr (pe_cl CN hr (pa_cons (pv 0) (pa_cons (pv 1) pa_nil))))
    (pss_cons (ps_expr (pe_cl CN hr (pa_cons (pv 0) (pa_cons (pv 2) pa_nil))))
    (pss_one (ps_ret (pe_cl CF hr (pa_cons (pv 0) (pa_cons (pe_op op_mulW ((pe_ix ix_tup (pv 1) pe_int (fun _ _ => rfl))) ((pe_ix ix_tup (pv 2) pe_int (fun _ _ => rfl)))) (pa_cons (pe_cl CM hr (pa_cons (pe_slice sl_tupA (pv 1) (po_some pe_int) po_none) (pa_cons (pe_slice sl_tupA (pv 2) (po_some pe_int) po_none) pa_nil))) pa_nil)))))))), ?_⟩
  refine ⟨_, rfl, (sh, t, r, xs), rfl, hs, ?_⟩
  rintro _ _ - rfl
  refine ⟨_, rfl, _, rfl, (sh, t, r, xs, p, ns), rfl, ⟨hs, hp, by show ns.length ≤ 1000; rw [hp.len]; omega⟩, ?_⟩
  rintro _ H1 s1 -
  refine ⟨_, rfl, _, rfl, (sh, t, r, xs, q, ms), rfl, ⟨hs.same s1, hq.same s1, by show ms.length ≤ 1000; rw [hq.len]; omega⟩, ?_⟩
  rintro _ H2 s2 -
  have t2 := s1.trans s2
  have hp2 := t2 _ _ hp0
  have hq2 := t2 _ _ hq0
  refine ⟨_, rfl, _, rfl, p, _, _, _, rfl, rfl, SqT.of hp2, atI_nat (j := 0) (getD_map ln), _, rfl, q, _, _, _, rfl, rfl, SqT.of hq2, atI_nat (j := 0) (getD_map lm), _, _, rfl, rfl, cm sn sm, ?_⟩
  refine ⟨_, rfl, _, rfl, p, _, rfl, SqT.of hp2, (fun z => absurd (show HT.sIx (ns.map V.int).length 0 (some 1) = 0 from z.1) (not_whole (by rw [List.length_map]; exact ln))), fun _ u hu => ?_⟩
  rw [cut_1, tail_map] at *
  have n3 := same_new (o := .tup ((ns.drop 1).map V.int)) hu
  have t3 := t2.trans n3
  have v1 : TI (upd H2 u (.tup ((ns.drop 1).map V.int))) u (ns.drop 1) := upd_same
  refine ⟨_, rfl, _, rfl, q, _, rfl, SqT.of (t3 _ _ hq0), (fun z => absurd (show HT.sIx (ms.map V.int).length 0 (some 1) = 0 from z.1) (not_whole (by rw [List.length_map]; exact lm))), fun _ u2 hu2 => ?_⟩
  rw [cut_1, tail_map] at *
  have n4 := same_new (o := .tup ((ms.drop 1).map V.int)) hu2
  have t4 := t3.trans n4
  have v2 : TI (upd (upd H2 u (.tup ((ns.drop 1).map V.int))) u2 (.tup ((ms.drop 1).map V.int))) u2 (ms.drop 1) := upd_same
  refine ⟨(u, u2, ns.drop 1, ms.drop 1), rfl, ⟨TI.same n4 v1, v2, o1⟩, ?_⟩
  rintro _ H5 s5 ⟨r5, rfl, hr5⟩
  have t5 := t4.trans s5
  refine ⟨(sh, t, r, xs, ns.getD 0 0 * ms.getD 0 0, r5, _), rfl, ⟨hs.same t5, hr5, l1, o2, by show xs.length ≤ 100; omega, o3⟩, ?_⟩
  rintro _ H6 s6 ⟨r6, rfl, hr6⟩
  exact k _ _ (t5.trans s6) ⟨r6, rfl, hr6⟩
theorem n68 : FnScope ["shape", "first", "second", "divisor", "terms", "bottom"] ["shape", "first", "second"] (defScope (top 68)) := (⟨rfl, rfl, rfl, by decide +kernel, rfl, by decide +kernel, by decide +kernel⟩)
abbrev spQuot (C : Addr) : Sp := Prm (α := A2G) args2G (fun a H => pre2G C a H ∧ trimI (a.2.2.2.2.2.2.2.drop 1) ≠ [] ∧ okQuo a.2.2.2.1 a.2.2.2.2.2.1 a.2.2.2.2.2.2.2 = true) (fun ⟨sh, t, r, xs, p, ns, q, ms⟩ H v H' => ∃ r', v = .ref r' ∧ TI H' r' (quoL xs ns ms))
theorem c_quot (D : Df K mg "quotient" (top 68)) (S : ShC K mg C) (CK : Cal P w K mg base 1 "check_shape" ["value"] (spChkG C)) (CN : Cal P w K mg base 4 "check_number" ["shape", "value"] (spChkN C)) (CF : Cal P w K mg base 4 "folded" ["shape", "bottom", "terms"] (spFold C)) (CM : Cal P w K mg base 2 "multiplied" ["one", "other"] spMulG)
    (CT : Cal P w K mg base 1 "trimmed" ["terms"] spTrim) (CR : Cal P w K mg base 3 "reciprocal" ["equation", "divisor"] spRecG) : Cal P w K mg base 5 "quotient" ["shape", "first", "second"] (spQuot C) := by
  refine mkC D n68 (fun _ _ _ _ _ _ us hl => match us, hl with | [_, _, _], _ => rfl) (fun _ => rfl) (fun f cdv A outer s H a Q E hr h k => ?_)
  obtain ⟨sh, t, r, xs, p, ns, q, ms⟩ := a
  obtain ⟨⟨hs, hp, hq, bn, bm, l1, l8⟩, nz, ok⟩ := h
  have hs : ShpG C H sh t r xs := hs
  have hp : NumG H p xs.length ns := hp
  have hq : NumG H q xs.length ms := hq
  have l1 : 1 ≤ xs.length := l1
  have l8 : xs.length ≤ 8 := l8
  have nz : trimI (ms.drop 1) ≠ [] := nz
  have hp0 : H p = some (.tup (ns.map V.int)) := hp.at_
  have hq0 : H q = some (.tup (ms.map V.int)) := hq.at_
  have ln : 1 ≤ ns.length := by rw [hp.len]; exact l1
  have lm : 1 ≤ ms.length := by rw [hq.len]; exact l1
  have sn := head_sm bn ln
  have sm := head_sm bm lm
  have ok : okQuo xs ns ms = true := ok
  unfold okQuo at ok
  simp only [Bool.and_eq_true] at ok
  obtain ⟨⟨⟨⟨⟨o1, o2⟩, o3⟩, o4⟩, o5⟩, o6⟩ := ok
  have k : ∀ v H', Same H H' → (∃ r', v = .ref r' ∧ TI H' r' (quoL xs ns ms)) → Q v H' := k
  have hu : (A.deeper (envOfC "quotient" (defScope (top 68)) s.heap.objs.size f cdv)).units + 64 < cLine := by have := hr.un; omega
  have r2 : Room (0 + 2) (A.deeper (envOfC "quotient" (defScope (top 68)) s.heap.objs.size f cdv)) := hr.mono (by decide)
  refine ⟨_, pss_cons (ps_expr (pe_cl CK hr (pa_cons (pv 0) pa_nil)))
    (pss_cons (ps_expr (pe_cl CN hr (pa_cons (pv 0) (pa_cons (pv 1) pa_nil))))
    (pss_cons (ps_expr (pe_cl CN hr (pa_cons (pv 0) (pa_cons (pv 2) pa_nil))))
    (pss_cons ((ps_set (i := 3) (FnScope.nd n68) rfl (Or.inl rfl) (pe_cl CT hr (pa_cons (pe_slice sl_tupA (pv 2) (po_some pe_int) po_none) pa_nil))))
    (pss_cons (ps_if (pt_cmpR (op_eqD hu) (pv 3) (pe_tup pa_nil) (nomark _)) pss_nv pss_nil)
    (pss_cons (ps_asg (pe_cl CR hr (pa_cons (pe_eqnG (j := 0) S (pv 0) r2) (pa_cons (pv 3) pa_nil))) (pg_tup rfl (pgs_cons ((pg_name (i := 4) (FnScope.nd n68) rfl (Or.inl rfl))) (pgs_cons ((pg_name (i := 5) (FnScope.nd n68) rfl (Or.inl rfl))) pgs_nil))))
    (pss_cons ((ps_set (i := 4) (FnScope.nd n68) rfl (Or.inl rfl) (pe_cl CM hr (pa_cons (pe_cl CM hr (pa_cons (pe_slice sl_tupA (pv 1) (po_some pe_int) po_none) (pa_cons (pv 4) pa_nil))) (pa_cons (pe_tup (pa_cons ((pe_ix ix_tup (pv 2) pe_int (fun _ _ => rfl))) pa_nil)) pa_nil)))))
    (pss_one (ps_ret (pe_cl CF hr (pa_cons (pv 0) (pa_cons (pe_op op_mulW ((pe_ix ix_tup (pv 1) pe_int (fun _ _ => rfl))) (pv 5)) (pa_cons (pv 4) pa_nil)))))))))))), ?_⟩
  obtain ⟨dx, q0, z1, z2⟩ := id hs
  refine ⟨_, rfl, (sh, t, r, xs), rfl, hs, ?_⟩
  rintro _ _ - rfl
  refine ⟨_, rfl, _, rfl, (sh, t, r, xs, p, ns), rfl, ⟨hs, hp, by show ns.length ≤ 1000; rw [hp.len]; omega⟩, ?_⟩
  rintro _ H1 s1 -
  refine ⟨_, rfl, _, rfl, (sh, t, r, xs, q, ms), rfl, ⟨hs.same s1, hq.same s1, by show ms.length ≤ 1000; rw [hq.len]; omega⟩, ?_⟩
  rintro _ H2 s2 -
  have t2 := s1.trans s2
  have hp2 := t2 _ _ hp0
  have hq2 := t2 _ _ hq0
  refine ⟨_, rfl, _, rfl, q, _, rfl, SqT.of hq2, (fun z => absurd (show HT.sIx (ms.map V.int).length 0 (some 1) = 0 from z.1) (not_whole (by rw [List.length_map]; exact lm))), fun _ u hu => ?_⟩
  rw [cut_1, tail_map] at *
  have n3 := same_new (o := .tup ((ms.drop 1).map V.int)) hu
  have v1 : TI (upd H2 u (.tup ((ms.drop 1).map V.int))) u (ms.drop 1) := upd_same
  refine ⟨(u, ms.drop 1), rfl, .inr v1, ?_⟩
  rintro _ H3 s3 ⟨u3, rfl, hu3⟩
  have t3 := t2.trans (n3.trans s3)
  have hu3 : TI H3 u3 (trimI (ms.drop 1)) := hu3
  have hu30 : H3 u3 = some (.tup ((trimI (ms.drop 1)).map V.int)) := hu3
  refine ⟨_, rfl, Nat.zero_le _, fun e he => ?_⟩
  have n4 := same_new (o := .tup []) he
  refine ⟨dT (trimI (ms.drop 1)), .tuple [], .tup (SqT.of (n4 _ _ hu30)) (dp_ints _), .tup (SqT.of upd_same) .nil, sh_ints _, rfl, _, rfl, ?_⟩
  show (if PyData.eqv (dT (trimI (ms.drop 1))) (.tuple []) = true then _ else _)
  rw [eqv_nil nz]
  refine iteF ?_
  have t4 := t3.trans n4
  have hu4 := TI.same n4 hu3
  generalize upd H3 e (.tup []) = H4 at *
  refine ⟨_, rfl, sh, dx, _, rfl, t4 _ _ z1, sh, t, r, xs, rfl, hs.same t4, fun q5 hq5 => ⟨_, rfl, (q5, u3, xs, trimI (ms.drop 1)), rfl, ⟨hq5, hu4, o1⟩, ?_⟩⟩
  rintro _ H5 s5 ⟨tp, rc, c, rfl, htp, hrc, ec⟩
  have hrc : TI H5 rc (qR xs ms) := hrc
  have ec2 : qC' xs ms = c := by
    unfold qC'
    rw [show (recL xs (trimI (ms.drop 1))).2 = [c] from ec]
    rfl
  have t5 := t4.trans s5
  refine ⟨tp, _, rfl, SqT.of htp, rfl, _, _, rfl, _, _, rfl, rfl, ?_⟩
  refine ⟨_, rfl, _, rfl, p, _, rfl, SqT.of (t5 _ _ hp0), (fun z => absurd (show HT.sIx (ns.map V.int).length 0 (some 1) = 0 from z.1) (not_whole (by rw [List.length_map]; exact ln))), fun _ u5 hu5 => ?_⟩
  rw [cut_1, tail_map] at *
  have n6 := same_new (o := .tup ((ns.drop 1).map V.int)) hu5
  have v6 : TI (upd H5 u5 (.tup ((ns.drop 1).map V.int))) u5 (ns.drop 1) := upd_same
  refine ⟨_, rfl, (u5, rc, ns.drop 1, qR xs ms), rfl, ⟨v6, TI.same n6 hrc, o2⟩, ?_⟩
  rintro _ H7 s7 ⟨m1, rfl, hm1⟩
  have t7 := t5.trans (n6.trans s7)
  refine ⟨_, rfl, q, _, _, _, rfl, rfl, SqT.of (t7 _ _ hq0), atI_nat (j := 0) (getD_map lm), (by show 1 ≤ sizeLine; decide), fun u8 hu8 => ?_⟩
  have n8 := same_new (o := .tup [.int (ms.getD 0 0)]) hu8
  have v8 : TI (upd H7 u8 (.tup [.int (ms.getD 0 0)])) u8 [ms.getD 0 0] := upd_same
  refine ⟨(m1, u8, mulL (ns.drop 1) (qR xs ms), [ms.getD 0 0]), rfl, ⟨TI.same n8 hm1, v8, o3⟩, ?_⟩
  rintro _ H9 s9 ⟨m2, rfl, hm2⟩
  have t9 := t7.trans (n8.trans s9)
  have sc : Sm 4000 c := by
    rw [← ec2]
    exact of_decide_eq_true o4
  refine ⟨_, rfl, _, rfl, p, _, _, _, rfl, rfl, SqT.of (t9 _ _ hp0), atI_nat (j := 0) (getD_map ln), _, rfl, _, _, rfl, rfl, cm sn sc, _, rfl, (sh, t, r, xs, ns.getD 0 0 * c, m2, qT xs ns ms), rfl, ⟨hs.same t9, hm2, l1, o5, by show xs.length ≤ 100; omega, by rw [← ec2]; exact o6⟩, ?_⟩
  rintro _ H10 s10 ⟨r10, rfl, hr10⟩
  refine k _ _ (t9.trans s10) ⟨r10, rfl, ?_⟩
  unfold quoL
  rw [ec2]
  exact hr10
end
end Xq

/-! l[::-1] of a list; divided, whole. -/
namespace Xq
open PySem PySem.Spec PySem.Calls PyProof.Rows L2
theorem slicePick_rev (its : List Value) : slicePick its.toArray none none (some (-1)) = its.reverse.toArray := by
  have e : sliceRange (sliceBounds none none (some (-1)) its.toArray.size).1 (sliceBounds none none (some (-1)) its.toArray.size).2.1 (sliceBounds none none (some (-1)) its.toArray.size).2.2 = (List.range its.length).map fun (m : Nat) => ((((its.length : Nat) : Int) - 1) + (-1) * (m : Int)).toNat := by
    rw [List.size_toArray]
    show sliceRange (((its.length : Nat) : Int) - 1) (-1) (-1) = _
    unfold sliceRange
    by_cases h : its.length = 0
    · rw [h]
      rfl
    · have e2 : (if (-1 : Int) > 0 then (if ((its.length : Nat) : Int) - 1 < -1 then (-1 - (((its.length : Nat) : Int) - 1) + -1 - 1) / -1 else 0) else (if ((its.length : Nat) : Int) - 1 > -1 then (((its.length : Nat) : Int) - 1 - -1 - -1 - 1) / (- -1) else 0)).toNat = its.length := by
        rw [if_neg (by decide), if_pos (by omega), show (- -1 : Int) = 1 from rfl, Int.ediv_one]
        omega
      show (List.range (if (-1 : Int) > 0 then (if ((its.length : Nat) : Int) - 1 < -1 then (-1 - (((its.length : Nat) : Int) - 1) + -1 - 1) / -1 else 0) else (if ((its.length : Nat) : Int) - 1 > -1 then (((its.length : Nat) : Int) - 1 - -1 - -1 - 1) / (- -1) else 0)).toNat).map _ = _
      rw [e2]
  unfold slicePick
  rw [e, List.filterMap_map]
  refine congrArg List.toArray ?_
  rw [← rev_pick its]
  refine congrArg (fun f => List.filterMap f (List.range its.length)) (funext fun m => ?_)
  show its.toArray[(((its.length : Int) - 1) + (-1) * (m : Int)).toNat]? = its.toArray[(((its.length : Int) - 1) + (m : Int) * (-1)).toNat]?
  rw [Int.mul_comm]
def tRevL (K : PySem.W.Frag) (te : TE) : TE := fun σ H Q => te σ H fun x H1 => ∃ a xs, x = .ref a ∧ SqL K H1 a xs ∧ ∀ p, H1 p = none → Q (.ref p) (upd H1 p (.lst xs.reverse))
theorem pe_revL {X : Cx} {e : Expr} {te : TE} {k : Nat} {p1 p2 p3 pos : Pos} (he : PE X e te) : PE X (.Subscript e (.Slice none none (some (.UnaryOp .USub (.Constant (.int 1) k p1) p2)) p3) pos) (tRevL X.K te) := by
  refine ⟨fun pins s σ H Q I h => ?_⟩
  refine Subscript_ (thn (he.run pins s σ H _ I h) fun v s1 ⟨x, H1, I1, r1, q1⟩ => ?_)
  obtain ⟨a, xs, ex, hx, q⟩ := q1
  subst ex
  cases r1
  have hst : PO X (some (.UnaryOp .USub (.Constant (.int 1) k p1) p2)) (tPart (tUn (rU fun i => .int (-i)) (tC (.int 1)))) := po_some (pe_un un_neg pe_int)
  refine wpAny_Slice (thn (po_none.run pins s1 σ H1 (fun o H2 => o = none ∧ H2 = H1) I1 ⟨rfl, rfl⟩) fun vl s2 ⟨l, H2, I2, pl, el, e2⟩ => ?_)
  subst el e2
  refine thn (po_none.run pins s2 σ H2 (fun o H3 => o = none ∧ H3 = H2) I2 ⟨rfl, rfl⟩) fun vu s3 ⟨u, H3, I3, pu, eu, e3⟩ => ?_
  subst eu e3
  refine thn (hst.run pins s3 σ H3 (fun o H4 => o = some (-1) ∧ H4 = H3) I3 ⟨1, rfl, -1, rfl, rfl, rfl⟩) fun vs s4 ⟨o, H4, I4, ps, eo, e4⟩ => ?_
  subst eo e4
  have I5 : Inv X pins σ H4 { s4 with heap := s4.heap.push { cls := .type "slice", data := .fields #[vl, vu, vs] } } := I4.kept (t' := s4.toks) fun b ob q => Heap.get?_push_of_some _ q
  obtain ⟨its, r, ht, hz⟩ := I5.list hx
  have hlen := r.length
  show wpAny (model X.prog X.w) X.A (subscriptTail e (.Slice none none (some (.UnaryOp .USub (.Constant (.int 1) k p1) p2)) p3) (.ref a) (.ref s4.heap.objs.size)) (EP X pins σ Q) X.xe { s4 with heap := s4.heap.push { cls := .type "slice", data := .fields #[vl, vu, vs] } }
  refine tail_any (ops := [.ref a, .ref s4.heap.objs.size]) ht.isList.typeIs (slot_list_getitem.lookup) ?_ (by with_unfolding_all rfl)
  refine wpAny_getItem_list_slice ht.isList (Heap.IsSliceOf.new _ vl vu vs) pl pu ps (by decide) ?_ (by rw [List.size_toArray]; omega)
  rw [slicePick_rev]
  refine ⟨.ref _, _, I5.laid (t' := s4.toks) (o := .lst xs.reverse) (fun b ob q => Heap.get?_push_of_some _ q) (Nat.le_refl _) ?_, rfl, q _ (I5.hok.fresh (Nat.le_refl _))⟩
  exact ⟨by rw [List.length_reverse]; exact hz, _, 0, r.reverse, Heap.get?_push_size _ rfl⟩
end Xq

/-! Numbers of any shape: floors at any bits, ends. -/
namespace Xq
open PySem PySem.Spec PyProof.Rows L2
/-- the floors of a shape, as far as 800 bits -/
structure FlA (xs : List Int) (r : Int) (F : Nat → Int) : Prop where
  b64 : strL xs r = (F 64, 64)
  far : ∀ b : Nat, 64 < b → b ≤ 800 → okRf xs (F 64) 64 b = true ∧ refL xs (F 64) 64 b = F b
theorem Fl.refL2 {xs : List Int} {s : Bool} {F : Nat → Int} {b0 : Nat} (h : Fl xs s F b0) {b wd : Nat} (lw : wd ≤ 800) (hb : b0 ≤ b) (hw : b ≤ wd) : okRf xs (F b) b wd = true ∧ Xq.refL xs (F b) b wd = F wd := by
  obtain ⟨h1, h2⟩ := h.ref lw 20000 b 1 hb hw (Nat.le_refl _) (by omega)
  have l3 := h.l3
  have l8 := h.l8
  unfold okRf Xq.refL
  rw [if_neg (by omega), if_neg (by omega), h1, h2, decide_eq_true (show xs.length ≤ 1000 by omega), decide_eq_true (show wd ≤ 4000 by omega), Nat.sub_self]
  refine ⟨rfl, ?_⟩
  show F wd / 1 = F wd
  omega
theorem FlA.of {xs : List Int} {r : Int} {s : Bool} {z : Int} (M : Mo xs s z) (e : strL xs r = (flS xs s z 64, 64)) : FlA xs r (flS xs s z) := ⟨e, fun b h1 h2 => M.fl.refL2 h2 (Nat.zero_le _) (Nat.le_of_lt h1)⟩
section
variable {P : Program} {w : World} {K : PySem.W.Frag} {mg : Str → Option Value} {base : Heap} {C : Addr}
def spFloA (C : Addr) : Sp := fun vs H Q _ => ∃ (a : Addr) (t : Str) (r : Int) (xs : List Int) (F : Nat → Int) (b : Nat), vs = [.ref a, .int (b : Int)] ∧ ShpG C H a t r xs ∧ FlA xs r F ∧ 64 ≤ b ∧ b ≤ 800 ∧ ∀ H', Same H H' → Q (.int (F b)) H'
theorem ok_floA {f : Addr} {fd : FuncData} (F : Fun K "floor_at" "Shape.floor_at" (inClass (top 57) 6) f fd) (S : ShC K mg C) (CR : Cal P w K mg base 3 "refined" ["equation", "near", "bits", "wanted"] spRefG) : FnOk P w K mg base CX0 4 f fd ["self", "bits"] (spFloA C) := by
  refine F.ok sFl (fun vs H Q E h => ?_) (fun cdv A outer s H vs Q E hr h => ?_)
  · obtain ⟨a, t, r, xs, F, b, rfl, _⟩ := h
    rfl
  · obtain ⟨a, t, r, xs, F, b, rfl, hs, hF, b1, b2, k⟩ := h
    obtain ⟨dx, q, h1, h2⟩ := id hs
    refine ⟨_, pss_cons (ps_if ((pt_cmpR op_eq (pv 1) (pe_fld (pv 0) rfl) (nomark _))) (pss_one (ps_ret (pe_fld (pv 0) rfl))) pss_nil) (pss_one (ps_ret (pe_cl CR hr (pa_cons (pe_fld (pv 0) rfl) (pa_cons (pe_fld (pv 0) rfl) (pa_cons (pe_fld (pv 0) rfl) (pa_cons (pv 1) pa_nil))))))), ?_⟩
    have e2 : (strL xs r).2 = 64 := by rw [hF.b64]
    have e1 : (strL xs r).1 = F 64 := by rw [hF.b64]
    refine ⟨_, rfl, _, rfl, a, C, dx, _, _, rfl, h1, S.cl, S.n5, rfl, rfl, _, rfl, ?_⟩
    by_cases hb : b = 64
    · rw [decide_eq_true (show V.int (b : Int) = V.int ((strL xs r).2 : Int) by rw [e2, hb])]
      refine iteT ⟨_, rfl, a, C, dx, _, _, rfl, h1, S.cl, S.n4, rfl, ?_⟩
      have kk := k _ (Same.refl _)
      rw [hb, ← e1] at kk
      exact kk
    · rw [decide_eq_false (show ¬ V.int (b : Int) = V.int ((strL xs r).2 : Int) from fun z => hb (by have := V.int.inj z; rw [e2] at this; omega))]
      obtain ⟨o1, o2⟩ := hF.far b (by omega) b2
      refine iteF ⟨_, rfl, a, C, dx, _, _, rfl, h1, S.cl, S.n3, rfl, _, rfl, a, C, dx, _, _, rfl, h1, S.cl, S.n4, rfl, _, rfl, a, C, dx, _, _, rfl, h1, S.cl, S.n5, rfl, _, rfl, ?_⟩
      refine ⟨(q, xs, F 64, 64, b), (by rw [← e1, ← e2]; rfl), ⟨h2, o1⟩, ?_⟩
      rintro _ H2 s2 rfl
      have kk := k _ s2
      rw [← o2] at kk
      exact kk
section
variable {X : Cx} {e : Expr} {te : TE} {pos : Pos} {j : Nat}
theorem pe_floA {apos : Pos} {e2 : Expr} {t : TE} {pl : Sem Bool} (S : ShC X.K X.mg C) (CR : Cal X.prog X.w X.K X.mg X.base 3 "refined" ["equation", "near", "bits", "wanted"] spRefG) (he : PE X e te) (h2 : PE X e2 t) (hr : Room (j + 5) X.A)
    (hst : starEach (e2 :: []) X.env = (false, eval e2 X.env) :: starEach [] X.env := by rfl)
    (ht : eval (.Call (.Attribute e "floor_at" apos) (e2 :: []) [] pos) X.env = (do
      let ov ← eval e X.env
      standAt apos.atName
      let (f, first) ← holding [ov] (getMethod ov "floor_at" pl)
      callWith pos f first (backTo pos (starEach (e2 :: []) X.env)) (backToKw pos (keywordEach [] X.env))) := by rfl) :
    PE X (.Call (.Attribute e "floor_at" apos) [e2] [] pos) (tMeth C "floor_at" (spFloA C) [] E0 te (tCons t tNil)) := by
  obtain ⟨f, fd, hm, F⟩ := S.flo
  exact pe_meth (pl := pl) he S.cl hm (ok_floA (P := X.prog) (w := X.w) (base := X.base) F S CR) (hr.mono (by omega)) (F.binds (fun _ _ _ _ _ _ us hl => match us, hl with | [_, _], _ => rfl)) .nil pass0 (pa_cons h2 pa_nil hst) hst rfl ht
end
/-! value_at of a list -/
abbrev spValL : Sp := Prm (α := Addr × List Int × Int × Int) (fun a => [.ref a.1, .int a.2.2.1, .int a.2.2.2]) (fun a H => LI H a.1 a.2.1 ∧ okVB a.2.1 a.2.2.1 a.2.2.2 = true) (fun a H v H' => v = .int (valL a.2.1 a.2.2.1 a.2.2.2))
theorem c_valL (D : Df K mg "value_at" (top 29)) : Cal P w K mg base 1 "value_at" ["terms", "top", "bottom"] spValL := by
  refine mkC D g33 (fun _ _ _ _ _ _ us hl => match us, hl with | [_, _, _], _ => rfl) (fun _ => rfl) (fun f cdv A outer s H a Q E hr h k => ?_)
  obtain ⟨p, xs, t, b⟩ := a
  obtain ⟨h, ok⟩ := h
  obtain ⟨h1, hl, ht, hb, hx, ho⟩ := okVB_ok (show okVB xs t b = true from ok)
  have h0 : H p = some (.lst (xs.map V.int)) := h
  refine ⟨_, pss_cons (ps_asg (pe_tup (pa_cons pe_int (pa_cons pe_int pa_nil))) (pg_tup rfl (pgs_cons ((pg_name (i := 3) (FnScope.nd g33) rfl (Or.inl rfl))) (pgs_cons ((pg_name (i := 4) (FnScope.nd g33) rfl (Or.inl rfl))) pgs_nil))))
    (pss_cons (ps_for PassesOwn.never rfl (pi_list (pe_revL (pv 0))) ((pg_name (i := 5) (FnScope.nd g33) rfl (Or.inl rfl)))
      (pss_cons ((ps_set (i := 3) (FnScope.nd g33) rfl (Or.inl rfl) (pe_op op_add (pe_op op_mulW (pv 3) (pv 1)) (pe_op op_mulW (pv 5) (pv 4))))) (pss_one (ps_aug (i := 4) g33.nd rfl (Or.inl rfl) (pv 2) iop_mulW))))
    (pss_one (ps_ret (pv 3)))), ?_⟩
  refine ⟨by decide, fun z hz => ⟨z, _, rfl, SqT.of upd_same, rfl, _, _, rfl, _, _, rfl, rfl, ?_⟩⟩
  have s0 := same_new (o := .tup [.int 0, .int 1]) hz
  have hL : (xs.map V.int).length = xs.length := List.length_map ..
  refine ⟨_, rfl, p, _, rfl, SqL.of (s0 _ _ h0), fun q hq => ?_⟩
  rw [← List.map_reverse]
  have s1 := Same.new (o := .lst (xs.reverse.map V.int)) s0 hq
  have hu := upd_same (H := upd H z (.tup [.int 0, .int 1])) (a := q) (o := .lst (xs.reverse.map V.int))
  refine ⟨q, rfl, ⟨_, SqL.of hu⟩, for_list (xs := xs.reverse.map V.int) (fun i σ H' => H' = upd (upd H z (.tup [.int 0, .int 1])) q (.lst (xs.reverse.map V.int)) ∧ ∃ y, σ = [some (.ref p), some (.int t), some (.int b), some (.int (foV t b (xs.reverse.take i)).1), some (.int (foV t b (xs.reverse.take i)).2), y]) ⟨rfl, none, rfl⟩ (fun i σ H' _ e => by rw [e.1]; exact SqL.of hu) ?_ ?_⟩
  · rintro i x σ H' hx2 ⟨rfl, y, rfl⟩
    obtain ⟨c, hc, rfl⟩ := at_map hx2
    have hi : i < xs.length := by
      rcases Nat.lt_or_ge i xs.reverse.length with hlt | hge
      · rw [List.length_reverse] at hlt
        exact hlt
      · rw [List.getElem?_eq_none hge] at hc
        cases hc
    obtain ⟨o1, o2⟩ := ho i hi
    have oc : Sm 400000 c := hx c (List.mem_reverse.mp (List.mem_of_getElem? hc))
    refine ⟨_, rfl, _, rfl, _, _, rfl, rfl, cm o1 ht, _, rfl, _, rfl, _, _, rfl, rfl, cm oc o2, _, _, rfl, rfl, ?_⟩
    refine ⟨_, rfl, _, rfl, _, _, rfl, rfl, cm o2 hb, ?_⟩
    refine ⟨rfl, some (.int c), ?_⟩
    rw [foV_succ hc]
    rfl
  · rintro σ H' ⟨rfl, y, rfl⟩
    refine ⟨_, rfl, k _ _ s1 ?_⟩
    rw [List.length_map, List.take_length]
    rfl
end
end Xq

/-! Numbers of any shape: ends, sign, floor_of. -/
namespace Xq
open PySem PySem.Spec PyProof.Rows L2
def mx0 (x : Int) : Int := if (0 : Int) > x then 0 else x
def plusL (ns : List Int) : List Int := (ns.drop 1).map mx0
def minusL (ns : List Int) : List Int := (ns.drop 1).map fun x => mx0 (-x)
/-- what ends tells -/
def endA (ns : List Int) (v : Int) (b : Nat) : Int := valL (plusL ns) v (pw b) - valL (minusL ns) (v + 1) (pw b)
def endB (ns : List Int) (v : Int) (b : Nat) : Int := valL (plusL ns) (v + 1) (pw b) - valL (minusL ns) v (pw b)
def okEn (ns : List Int) (v : Int) (b : Nat) : Bool := decide (b < 4000) && decide (ns.length ≤ 100) && okVB (plusL ns) v (pw b) && okVB (minusL ns) (v + 1) (pw b) && okVB (plusL ns) (v + 1) (pw b) && okVB (minusL ns) v (pw b)
section
variable {P : Program} {w : World} {K : PySem.W.Frag} {mg : Str → Option Value} {base : Heap} {C : Addr}
abbrev nE : List Str := ["number", "near", "bits", "bottom", "plus", "minus", "low", "high", "term"]
theorem n76 : FnScope nE ["number", "near", "bits"] (defScope (top 77)) := (⟨rfl, rfl, rfl, by decide +kernel, rfl, by decide +kernel, by decide +kernel⟩)
abbrev spEnds : Sp := Prm (α := Addr × List Int × Int × Nat) (fun ⟨p, ns, v, b⟩ => [.ref p, .int v, .int (b : Int)]) (fun ⟨p, ns, v, b⟩ H => TI H p ns ∧ 1 ≤ ns.length ∧ okEn ns v b = true) (fun ⟨p, ns, v, b⟩ H x H' => ∃ r, x = .ref r ∧ TI H' r [endA ns v b, endB ns v b])
theorem c_ends (D : Df K mg "ends" (top 77)) (B : Bl mg) (CV : Cal P w K mg base 1 "value_at" ["terms", "top", "bottom"] spValL) : Cal P w K mg base 2 "ends" ["number", "near", "bits"] spEnds := by
  refine mkC D n76 (fun _ _ _ _ _ _ us hl => match us, hl with | [_, _, _], _ => rfl) (fun _ => rfl) (fun f cdv A outer s H a Q E hr h k => ?_)
  obtain ⟨p, ns, v, b⟩ := a
  obtain ⟨h, l1, ok⟩ := h
  have h0 : H p = some (.tup (ns.map V.int)) := h
  have l1 : 1 ≤ ns.length := l1
  have ok : okEn ns v b = true := ok
  have k : ∀ x H', Same H H' → (∃ r, x = .ref r ∧ TI H' r [endA ns v b, endB ns v b]) → Q x H' := k
  unfold okEn at ok
  simp only [Bool.and_eq_true, decide_eq_true_eq] at ok
  obtain ⟨⟨⟨⟨⟨b4, l2⟩, o1⟩, o2⟩, o3⟩, o4⟩ := ok
  refine ⟨_, pss_cons ((ps_set (i := 3) (FnScope.nd n76) rfl (Or.inl rfl) (pe_op op_shlN pe_int (pv 2))))
    (pss_cons (ps_setLc (i := 4) (own := [("term", 8)]) (g := gName 8) (tt := tYes) (te := tCB (fun xs H Q => ∃ i j, xs = [.int i, .int j] ∧ Q (.int (if j > i then j else i)) H) (tCons (tVar 8) (tCons (tC (.int 0)) tNil))) rfl n76.nd rfl rfl (sw_true rfl rfl rfl (by decide +kernel)) (pi_tup (pe_slice sl_tupA (pv 0) (po_some pe_int) po_none))
      (blkOk_by (N := nE) (sc := defScope (top 77)) (by decide +kernel)) (fun _ _ _ _ _ => (pg_name (i := 8) (FnScope.nd n76) rfl (Or.inl rfl))) (fun _ _ _ _ _ => pts_nil)
      (fun _ _ _ _ _ => pe_callB (call_max2 rfl) (by rfl) B.max_ PyProof.Rows.boot_max (pa_cons (pv 8) (pa_cons pe_int pa_nil))))
    (pss_cons (ps_setLc (i := 5) (own := [("term", 8)]) (g := gName 8) (tt := tYes) (te := tCB (fun xs H Q => ∃ i j, xs = [.int i, .int j] ∧ Q (.int (if j > i then j else i)) H) (tCons (tUn (rU fun i => .int (-i)) (tVar 8)) (tCons (tC (.int 0)) tNil))) rfl n76.nd rfl rfl (sw_true rfl rfl rfl (by decide +kernel)) (pi_tup (pe_slice sl_tupA (pv 0) (po_some pe_int) po_none))
      (blkOk_by (N := nE) (sc := defScope (top 77)) (by decide +kernel)) (fun _ _ _ _ _ => (pg_name (i := 8) (FnScope.nd n76) rfl (Or.inl rfl))) (fun _ _ _ _ _ => pts_nil)
      (fun _ _ _ _ _ => pe_callB (call_max2 rfl) (by rfl) B.max_ PyProof.Rows.boot_max (pa_cons (pe_un un_neg (pv 8)) (pa_cons pe_int pa_nil))))
    (pss_cons ((ps_set (i := 6) (FnScope.nd n76) rfl (Or.inl rfl) (pe_op op_sub (pe_cl CV hr (pa_cons (pv 4) (pa_cons (pv 1) (pa_cons (pv 3) pa_nil)))) (pe_cl CV hr (pa_cons (pv 5) (pa_cons (pe_op op_add (pv 1) pe_int) (pa_cons (pv 3) pa_nil)))))))
    (pss_cons ((ps_set (i := 7) (FnScope.nd n76) rfl (Or.inl rfl) (pe_op op_sub (pe_cl CV hr (pa_cons (pv 4) (pa_cons (pe_op op_add (pv 1) pe_int) (pa_cons (pv 3) pa_nil)))) (pe_cl CV hr (pa_cons (pv 5) (pa_cons (pv 1) (pa_cons (pv 3) pa_nil)))))))
    (pss_one (ps_ret (pe_tup (pa_cons (pv 6) (pa_cons (pv 7) pa_nil))))))))), ?_⟩
  have cs1 : CShl 1 (b : Int) := shl_ok (n := 2) (by decide) (by omega)
  refine ⟨_, rfl, 1, b, rfl, rfl, cs1, ?_⟩
  have nw := not_whole (n := (ns.map V.int).length) (by rw [List.length_map]; exact l1)
  refine ⟨_, rfl, _, rfl, p, _, rfl, SqT.of h0, (fun z => absurd (show HT.sIx (ns.map V.int).length 0 (some 1) = 0 from z.1) nw), fun _ u hu => ?_⟩
  rw [cut_1, tail_map] at *
  have s1 := same_new (o := .tup ((ns.drop 1).map V.int)) hu
  have u1 : upd H u (.tup ((ns.drop 1).map V.int)) u = some (.tup ((ns.drop 1).map V.int)) := upd_same
  refine ⟨u, rfl, ⟨_, SqT.of u1⟩, fun D1 hD1 => lc_tup (xs := (ns.drop 1).map V.int) (fun i H' => Same (upd H u (.tup ((ns.drop 1).map V.int))) H' ∧ H' D1 = some (.lst ((((ns.drop 1).take i).map mx0).map V.int))) ⟨same_new hD1, upd_same⟩ (fun i H' _ e => SqT.of (e.1 _ _ u1)) (fun i x H' hx e => ?_) (fun H2 e => ?_)⟩
  · obtain ⟨s2, e2⟩ := e
    obtain ⟨z, hz, rfl⟩ := at_map hx
    have li := lt_of_at hz
    refine ⟨rfl, _, rfl, _, _, rfl, _, e2, ?_, Same.put s2 hD1, ?_⟩
    · rw [List.length_map, List.length_map, List.length_take]
      rw [List.length_drop] at li
      exact sz_lt (by omega)
    · rw [upd_same, List.take_succ, hz, List.map_append, List.map_append]
      rfl
  obtain ⟨s2, e2⟩ := e
  rw [List.length_map, List.take_length] at e2
  have e2 : LI H2 D1 (plusL ns) := e2
  have t2 := s1.trans s2
  have h2 := t2 _ _ h0
  clear s2 hD1 u1 s1 hu
  refine ⟨_, rfl, _, rfl, p, _, rfl, SqT.of h2, (fun z => absurd (show HT.sIx (ns.map V.int).length 0 (some 1) = 0 from z.1) nw), fun _ u hu => ?_⟩
  rw [cut_1, tail_map] at *
  have s1 := same_new (o := .tup ((ns.drop 1).map V.int)) hu
  have u1 : upd H2 u (.tup ((ns.drop 1).map V.int)) u = some (.tup ((ns.drop 1).map V.int)) := upd_same
  refine ⟨u, rfl, ⟨_, SqT.of u1⟩, fun D2 hD2 => lc_tup (xs := (ns.drop 1).map V.int) (fun i H' => Same (upd H2 u (.tup ((ns.drop 1).map V.int))) H' ∧ H' D2 = some (.lst ((((ns.drop 1).take i).map fun x => mx0 (-x)).map V.int))) ⟨same_new hD2, upd_same⟩ (fun i H' _ e => SqT.of (e.1 _ _ u1)) (fun i x H' hx e => ?_) (fun H3 e => ?_)⟩
  · obtain ⟨s2, e2⟩ := e
    obtain ⟨z, hz, rfl⟩ := at_map hx
    have li := lt_of_at hz
    refine ⟨rfl, _, rfl, _, rfl, _, _, rfl, _, e2, ?_, Same.put s2 hD2, ?_⟩
    · rw [List.length_map, List.length_map, List.length_take]
      rw [List.length_drop] at li
      exact sz_lt (by omega)
    · rw [upd_same, List.take_succ, hz, List.map_append, List.map_append]
      rfl
  obtain ⟨s2, e3⟩ := e
  rw [List.length_map, List.take_length] at e3
  have e3 : LI H3 D2 (minusL ns) := e3
  have t3 := t2.trans (s1.trans s2)
  have e2 := (s1.trans s2) _ _ e2
  clear s2 hD2 u1 s1 hu h2
  have pe : (1 : Int) * 2 ^ b = pw b := rfl
  refine ⟨_, rfl, _, rfl, _, rfl, (D1, plusL ns, v, pw b), rfl, ⟨e2, o1⟩, ?_⟩
  rintro _ H4 s4 rfl
  refine ⟨_, rfl, _, rfl, _, _, rfl, rfl, _, rfl, (D2, minusL ns, v + 1, pw b), rfl, ⟨s4 _ _ e3, o2⟩, ?_⟩
  rintro _ H5 s5 rfl
  refine ⟨_, _, rfl, rfl, ?_⟩
  have t45 := s4.trans s5
  refine ⟨_, rfl, _, rfl, _, _, rfl, rfl, _, rfl, (D1, plusL ns, v + 1, pw b), rfl, ⟨t45 _ _ e2, o3⟩, ?_⟩
  rintro _ H6 s6 rfl
  refine ⟨_, rfl, _, rfl, _, rfl, (D2, minusL ns, v, pw b), rfl, ⟨(t45.trans s6) _ _ e3, o4⟩, ?_⟩
  rintro _ H7 s7 rfl
  refine ⟨_, _, rfl, rfl, ?_⟩
  refine ⟨_, rfl, _, rfl, (by show 2 ≤ sizeLine; decide), fun r hr9 => ?_⟩
  exact k _ _ (t3.trans (t45.trans (s6.trans (Same.new s7 hr9)))) ⟨r, rfl, upd_same⟩
end
end Xq

/-! Numbers of any shape: sign. -/
namespace Xq
open PySem PySem.Spec PyProof.Rows L2
/-- 0 lies between the ends -/
def str0 (F : Nat → Int) (ns : List Int) (b : Nat) : Bool := decide (endA ns (F b) b ≤ 0) && decide (0 ≤ endB ns (F b) b)
def okSg (F : Nat → Int) (ns : List Int) : Nat → Nat → Bool
  | 0, b => decide (64 ≤ b) && decide (b ≤ 800) && okEn ns (F b) b && !str0 F ns b
  | n + 1, b => decide (64 ≤ b) && decide (b ≤ 800) && okEn ns (F b) b && (!str0 F ns b || okSg F ns n (b * 2))
/-- the bits at which it is settled -/
def sgBt (F : Nat → Int) (ns : List Int) : Nat → Nat → Nat
  | 0, b => b
  | n + 1, b => if str0 F ns b = true then sgBt F ns n (b * 2) else b
/-- what sign tells -/
def sgnF (F : Nat → Int) (ns : List Int) : Int := if trimI (ns.drop 1) = [] then 0 else if endA ns (F (sgBt F ns 3 64)) (sgBt F ns 3 64) > 0 then 1 else -1
section
variable {P : Program} {w : World} {K : PySem.W.Frag} {mg : Str → Option Value} {base : Heap} {C : Addr}
theorem n69 : FnScope ["shape", "number", "bits", "low", "high"] ["shape", "number"] (defScope (top 70)) := (⟨rfl, rfl, rfl, by decide +kernel, rfl, by decide +kernel, by decide +kernel⟩)
abbrev spSign (C : Addr) : Sp := Prm (α := ANum × (Nat → Int)) (fun ⟨⟨sh, t, r, xs, p, ns⟩, F⟩ => [.ref sh, .ref p]) (fun ⟨⟨sh, t, r, xs, p, ns⟩, F⟩ H => ShpG C H sh t r xs ∧ NumG H p xs.length ns ∧ ns.length ≤ 1000 ∧ 1 ≤ ns.length ∧ FlA xs r F ∧ (trimI (ns.drop 1) = [] ∨ okSg F ns 3 64 = true)) (fun ⟨⟨sh, t, r, xs, p, ns⟩, F⟩ H v H' => v = .int (sgnF F ns))
theorem c_sign (D : Df K mg "sign" (top 70)) (B : Bl mg) (S : ShC K mg C) (CK : Cal P w K mg base 1 "check_shape" ["value"] (spChkG C)) (CN : Cal P w K mg base 4 "check_number" ["shape", "value"] (spChkN C)) (CT : Cal P w K mg base 1 "trimmed" ["terms"] spTrim) (CE : Cal P w K mg base 2 "ends" ["number", "near", "bits"] spEnds) (CR : Cal P w K mg base 3 "refined" ["equation", "near", "bits", "wanted"] spRefG) :
    Cal P w K mg base 6 "sign" ["shape", "number"] (spSign C) := by
  refine mkC D n69 (fun _ _ _ _ _ _ us hl => match us, hl with | [_, _], _ => rfl) (fun _ => rfl) (fun f cdv A outer s H a Q E hr h k => ?_)
  obtain ⟨⟨sh, t, r, xs, p, ns⟩, F⟩ := a
  obtain ⟨hs, hp, l2, l1, hF, ok⟩ := h
  have hs : ShpG C H sh t r xs := hs
  have hp : NumG H p xs.length ns := hp
  have l2 : ns.length ≤ 1000 := l2
  have l1 : 1 ≤ ns.length := l1
  have hF : FlA xs r F := hF
  have ok : trimI (ns.drop 1) = [] ∨ okSg F ns 3 64 = true := ok
  have k : ∀ v H', Same H H' → v = .int (sgnF F ns) → Q v H' := k
  have hp0 : H p = some (.tup (ns.map V.int)) := hp.at_
  have hu : (A.deeper (envOfC "sign" (defScope (top 70)) s.heap.objs.size f cdv)).units + 64 < cLine := by have := hr.un; omega
  have r5 : Room (0 + 5) (A.deeper (envOfC "sign" (defScope (top 70)) s.heap.objs.size f cdv)) := hr.mono (by decide)
  obtain ⟨tb, htb⟩ := B.bits_
  refine ⟨_, pss_cons (ps_expr (pe_cl CK hr (pa_cons (pv 0) pa_nil)))
    (pss_cons (ps_expr (pe_cl CN hr (pa_cons (pv 0) (pa_cons (pv 1) pa_nil))))
    (pss_cons (ps_if (pt_cmpR (op_eqD hu) (pe_cl CT hr (pa_cons (pe_slice sl_tupA (pv 1) (po_some pe_int) po_none) pa_nil)) (pe_tup pa_nil) (nomark _)) (pss_one (ps_ret pe_int)) pss_nil)
    (pss_cons ((ps_set (i := 2) (FnScope.nd n69) rfl (Or.inl rfl) (pe_glob (v := .int 64) (by rfl) htb ⟨_, rfl⟩)))
    (pss_cons (ps_asg (pe_cl CE hr (pa_cons (pv 1) (pa_cons (pe_floA (j := 0) S CR (pv 0) (pv 2) r5) (pa_cons (pv 2) pa_nil)))) (pg_tup rfl (pgs_cons ((pg_name (i := 3) (FnScope.nd n69) rfl (Or.inl rfl))) (pgs_cons ((pg_name (i := 4) (FnScope.nd n69) rfl (Or.inl rfl))) pgs_nil))))
    (pss_cons (ps_whI PassesOwn.never (pt_chain op_le op_le (pv 3) pe_int (pv 4))
      (pss_cons (ps_aug (i := 2) n69.nd rfl (Or.inl rfl) pe_int iop_mul)
      (pss_one (ps_asg (pe_cl CE hr (pa_cons (pv 1) (pa_cons (pe_floA (j := 0) S CR (pv 0) (pv 2) r5) (pa_cons (pv 2) pa_nil)))) (pg_tup rfl (pgs_cons ((pg_name (i := 3) (FnScope.nd n69) rfl (Or.inl rfl))) (pgs_cons ((pg_name (i := 4) (FnScope.nd n69) rfl (Or.inl rfl))) pgs_nil)))))))
    (pss_one (ps_ret (pe_ifExp ((pt_cmpR op_gt (pv 3) pe_int (nomark _))) pe_int (pe_un un_neg pe_int))))))))), ?_⟩
  obtain ⟨dx, q0, z1, z2⟩ := id hs
  refine ⟨_, rfl, (sh, t, r, xs), rfl, hs, ?_⟩
  rintro _ HX - eX
  have eX : H = HX := (show HX = H from eX).symm
  subst eX
  refine ⟨_, rfl, _, rfl, (sh, t, r, xs, p, ns), rfl, ⟨hs, hp, l2⟩, ?_⟩
  rintro _ H1 s1 -
  have hp1 := s1 _ _ hp0
  refine ⟨_, rfl, _, rfl, p, _, rfl, SqT.of hp1, (fun z => absurd (show HT.sIx (ns.map V.int).length 0 (some 1) = 0 from z.1) (not_whole (by rw [List.length_map]; exact l1))), fun _ u hu1 => ?_⟩
  rw [cut_1, tail_map] at *
  have n2 := same_new (o := .tup ((ns.drop 1).map V.int)) hu1
  have v2 : TI (upd H1 u (.tup ((ns.drop 1).map V.int))) u (ns.drop 1) := upd_same
  refine ⟨(u, ns.drop 1), rfl, .inr v2, ?_⟩
  rintro _ H3 s3 ⟨u3, rfl, hu3⟩
  have hu30 : H3 u3 = some (.tup ((trimI (ns.drop 1)).map V.int)) := hu3
  refine ⟨Nat.zero_le _, fun e he => ?_⟩
  have n4 := same_new (o := .tup []) he
  refine ⟨dT (trimI (ns.drop 1)), .tuple [], .tup (SqT.of (n4 _ _ hu30)) (dp_ints _), .tup (SqT.of upd_same) .nil, sh_ints _, rfl, _, rfl, ?_⟩
  have t4 := s1.trans (n2.trans (s3.trans n4))
  show (if PyData.eqv (dT (trimI (ns.drop 1))) (.tuple []) = true then _ else _)
  by_cases nz : trimI (ns.drop 1) = []
  · rw [nz, show PyData.eqv (dT []) (.tuple []) = true from rfl]
    refine iteT (k _ _ t4 ?_)
    unfold sgnF
    rw [if_pos nz]
  · rw [eqv_nil nz]
    refine iteF ?_
    have ok2 : okSg F ns 3 64 = true := ok.resolve_left nz
    generalize upd H3 e (.tup []) = H4 at *
    have ok3 := ok2
    unfold okSg at ok3
    simp only [Bool.and_eq_true, decide_eq_true_eq] at ok3
    obtain ⟨⟨⟨b1, b2⟩, en⟩, _⟩ := ok3
    refine ⟨_, rfl, _, rfl, sh, dx, _, rfl, t4 _ _ z1, rfl, _, rfl, sh, t, r, xs, F, 64, rfl, hs.same t4, hF, b1, b2, fun H5 s5 => ?_⟩
    have t5 := t4.trans s5
    refine ⟨_, rfl, (p, ns, F 64, 64), rfl, ⟨TI.same t5 hp.at_, l1, en⟩, ?_⟩
    rintro _ H6 s6 ⟨e6, rfl, he6⟩
    have he6 : H6 e6 = some (.tup [.int (endA ns (F 64) 64), .int (endB ns (F 64) 64)]) := he6
    have t6 := t5.trans s6
    refine ⟨e6, _, rfl, SqT.of he6, rfl, _, _, rfl, _, _, rfl, rfl, ?_⟩
    refine ⟨fun m σ H' => ∃ b : Nat, σ = [some (.ref sh), some (.ref p), some (.int (b : Int)), some (.int (endA ns (F b) b)), some (.int (endB ns (F b) b))] ∧ Same H H' ∧ okSg F ns m b = true ∧ sgBt F ns m b = sgBt F ns 3 64, ⟨3, 64, rfl, t6, ok2, rfl⟩, ?_⟩
    rintro m σ H7 ⟨b, rfl, t7, okm, em⟩
    have fin : str0 F ns b = false → sgBt F ns m b = b := fun z => by
      cases m with
      | zero => rfl
      | succ m => exact if_neg (by rw [z]; decide)
    have done : str0 F ns b = false → (tRet (tIf (tTest (tOp (rI0 fun i j => .bl (decide (j < i))) (tVar 3) (tC (.int 0)))) (tC (.int 1)) (tUn (rU fun i => .int (-i)) (tC (.int 1))))) { nx := fun _ H' => Q .non H', rt := Q } [some (.ref sh), some (.ref p), some (.int (b : Int)), some (.int (endA ns (F b) b)), some (.int (endB ns (F b) b))] H7 := fun z => by
      have eb : sgBt F ns 3 64 = b := em.symm.trans (fin z)
      refine ⟨_, rfl, _, _, rfl, rfl, _, rfl, ?_⟩
      by_cases h0 : endA ns (F b) b > 0
      · rw [decide_eq_true (show 0 < endA ns (F b) b from h0)]
        refine iteT (k _ _ t7 ?_)
        unfold sgnF
        rw [if_neg nz, eb, if_pos h0]
      · rw [decide_eq_false (show ¬ 0 < endA ns (F b) b from h0)]
        refine iteF ⟨_, rfl, k _ _ t7 ?_⟩
        unfold sgnF
        rw [if_neg nz, eb, if_neg h0]
    refine ⟨_, rfl, _, _, rfl, rfl, _, rfl, ?_⟩
    by_cases c1 : endA ns (F b) b ≤ 0
    · rw [decide_eq_true c1]
      refine iteT ⟨_, rfl, _, _, rfl, rfl, _, rfl, ?_⟩
      by_cases c2 : 0 ≤ endB ns (F b) b
      · rw [decide_eq_true c2]
        have z : str0 F ns b = true := by
          unfold str0
          rw [decide_eq_true c1, decide_eq_true c2]
          rfl
        cases m with
        | zero =>
          unfold okSg at okm
          rw [z] at okm
          simp at okm
        | succ m =>
          have okm' : okSg F ns m (b * 2) = true := by
            unfold okSg at okm
            rw [z] at okm
            simp only [Bool.and_eq_true] at okm
            simpa using okm.2
          have em' : sgBt F ns m (b * 2) = sgBt F ns 3 64 := by
            rw [← em]
            exact (if_pos z).symm
          have okn := okm'
          have par : decide (64 ≤ b * 2) = true ∧ decide (b * 2 ≤ 800) = true ∧ okEn ns (F (b * 2)) (b * 2) = true := by
            cases m with
            | zero =>
              unfold okSg at okn
              simp only [Bool.and_eq_true] at okn
              exact ⟨okn.1.1.1, okn.1.1.2, okn.1.2⟩
            | succ m =>
              unfold okSg at okn
              simp only [Bool.and_eq_true] at okn
              exact ⟨okn.1.1.1, okn.1.1.2, okn.1.2⟩
          obtain ⟨p1, p2, p3⟩ := par
          have hb2 : ((b : Int) * 2) = ((b * 2 : Nat) : Int) := by omega
          refine iteT ⟨_, rfl, _, _, rfl, rfl, .inr ⟨by decide, by decide⟩, ?_⟩
          refine ⟨_, rfl, _, rfl, sh, dx, _, rfl, t7 _ _ z1, rfl, _, rfl, sh, t, r, xs, F, b * 2, (by show [V.ref sh, V.int ((b : Int) * 2)] = _; rw [hb2]), hs.same t7, hF, of_decide_eq_true p1, of_decide_eq_true p2, fun H8 s8 => ?_⟩
          have t8 := t7.trans s8
          refine ⟨_, rfl, (p, ns, F (b * 2), b * 2), (by show [V.ref p, V.int (F (b * 2)), V.int ((b : Int) * 2)] = _; rw [hb2]), ⟨TI.same t8 hp.at_, l1, p3⟩, ?_⟩
          rintro _ H9 s9 ⟨e9, rfl, he9⟩
          have he9 : H9 e9 = some (.tup [.int (endA ns (F (b * 2)) (b * 2)), .int (endB ns (F (b * 2)) (b * 2))]) := he9
          refine ⟨e9, _, rfl, SqT.of he9, rfl, _, _, rfl, _, _, rfl, rfl, ?_⟩
          exact ⟨m, Nat.lt_succ_self m, b * 2, (by rw [← hb2]; rfl), t8.trans s9, okm', em'⟩
      · rw [decide_eq_false c2]
        refine iteF (done ?_)
        unfold str0
        rw [decide_eq_false c2, Bool.and_false]
    · rw [decide_eq_false c1]
      refine iteF ⟨_, rfl, iteF (done ?_)⟩
      unfold str0
      rw [decide_eq_false c1, Bool.false_and]
end
end Xq

/-! Numbers of any shape: floor_of. -/
namespace Xq
open PySem PySem.Spec PyProof.Rows L2
/-- the divisor of both ends -/
def bot (ns : List Int) (xl b : Nat) : Int := ns.getD 0 0 * 2 ^ (b * (xl - 2))
def loF (F : Nat → Int) (ns : List Int) (xl : Nat) (sc : Int) (b : Nat) : Int := (endA ns (F b) b * sc).fdiv (bot ns xl b)
def hiF (F : Nat → Int) (ns : List Int) (xl : Nat) (sc : Int) (b : Nat) : Int := (endB ns (F b) b * sc).fdiv (bot ns xl b)
def okB1 (F : Nat → Int) (ns : List Int) (xl b : Nat) : Bool := decide (64 ≤ b) && decide (b ≤ 800) && okEn ns (F b) b && smI 8000 (endA ns (F b) b) && smI 8000 (endB ns (F b) b) && smI 8000 (bot ns xl b)
def okFl (F : Nat → Int) (ns : List Int) (xl : Nat) (sc : Int) : Nat → Nat → Bool
  | 0, b => okB1 F ns xl b && decide (loF F ns xl sc b = hiF F ns xl sc b)
  | n + 1, b => okB1 F ns xl b && (decide (loF F ns xl sc b = hiF F ns xl sc b) || okFl F ns xl sc n (b * 2))
def flBt (F : Nat → Int) (ns : List Int) (xl : Nat) (sc : Int) : Nat → Nat → Nat
  | 0, b => b
  | n + 1, b => if loF F ns xl sc b = hiF F ns xl sc b then b else flBt F ns xl sc n (b * 2)
/-- what floor_of tells -/
def floF (F : Nat → Int) (ns : List Int) (xl : Nat) (sc : Int) : Int := loF F ns xl sc (flBt F ns xl sc 3 64)
section
variable {P : Program} {w : World} {K : PySem.W.Frag} {mg : Str → Option Value} {base : Heap} {C : Addr}
theorem n70 : FnScope ["shape", "number", "scale", "bits", "low", "high", "bottom", "least"] ["shape", "number", "scale"] (defScope (top 71)) := (⟨rfl, rfl, rfl, by decide +kernel, rfl, by decide +kernel, by decide +kernel⟩)
abbrev spFloor (C : Addr) : Sp := Prm (α := ANum × (Nat → Int) × Int) (fun ⟨⟨sh, t, r, xs, p, ns⟩, F, sc⟩ => [.ref sh, .ref p, .int sc]) (fun ⟨⟨sh, t, r, xs, p, ns⟩, F, sc⟩ H => ShpG C H sh t r xs ∧ NumG H p xs.length ns ∧ 2 ≤ ns.length ∧ ns.length ≤ 7 ∧ FlA xs r F ∧ 1 ≤ sc ∧ sc ≤ 10 ^ 40 ∧ smB 3000 ns = true ∧ okFl F ns xs.length sc 3 64 = true) (fun ⟨⟨sh, t, r, xs, p, ns⟩, F, sc⟩ H v H' => v = .int (floF F ns xs.length sc))
theorem c_floor (D : Df K mg "floor_of" (top 71)) (B : Bl mg) (S : ShC K mg C) (sc_ : ∃ t, mg "MOST_SCALE" = some (.int (10 ^ 40) t)) (CK : Cal P w K mg base 1 "check_shape" ["value"] (spChkG C)) (CN : Cal P w K mg base 4 "check_number" ["shape", "value"] (spChkN C)) (CI : Cal P w K mg base 1 "is_integer" ["value"] spIsInt) (CE : Cal P w K mg base 2 "ends" ["number", "near", "bits"] spEnds) (CR : Cal P w K mg base 3 "refined" ["equation", "near", "bits", "wanted"] spRefG) :
    Cal P w K mg base 6 "floor_of" ["shape", "number", "scale"] (spFloor C) := by
  refine mkC D n70 (fun _ _ _ _ _ _ us hl => match us, hl with | [_, _, _], _ => rfl) (fun _ => rfl) (fun f cdv A outer s H a Q E hr h k => ?_)
  obtain ⟨⟨sh, t, r, xs, p, ns⟩, F, sc⟩ := a
  obtain ⟨hs, hp, l2, l7, hF, t1, t40, bn, ok⟩ := h
  have hs : ShpG C H sh t r xs := hs
  have hp : NumG H p xs.length ns := hp
  have l2 : 2 ≤ ns.length := l2
  have l7 : ns.length ≤ 7 := l7
  have hF : FlA xs r F := hF
  have t1 : 1 ≤ sc := t1
  have t40 : sc ≤ 10 ^ 40 := t40
  have bn : smB 3000 ns = true := bn
  have ok : okFl F ns xs.length sc 3 64 = true := ok
  have k : ∀ v H', Same H H' → v = .int (floF F ns xs.length sc) → Q v H' := k
  have hp0 : H p = some (.tup (ns.map V.int)) := hp.at_
  have xl : ns.length = xs.length := hp.len
  have sn := head_sm bn (by omega)
  have ssc : Sm 200 sc := Nat.lt_of_le_of_lt (show sc.natAbs ≤ 10 ^ 40 by omega) (by decide)
  have r5 : Room (0 + 5) (A.deeper (envOfC "floor_of" (defScope (top 71)) s.heap.objs.size f cdv)) := hr.mono (by decide)
  have r2 : Room (0 + 2) (A.deeper (envOfC "floor_of" (defScope (top 71)) s.heap.objs.size f cdv)) := hr.mono (by decide)
  obtain ⟨tb, htb⟩ := B.bits_
  obtain ⟨tsc, hsc⟩ := sc_
  refine ⟨_, pss_cons (ps_expr (pe_cl CK hr (pa_cons (pv 0) pa_nil)))
    (pss_cons (ps_expr (pe_cl CN hr (pa_cons (pv 0) (pa_cons (pv 1) pa_nil))))
    (pss_cons (ps_if (PW.pt (pw_or (pt_not (pt_val (pe_cl CI hr (pa_cons (pv 2) pa_nil)))) (pw_or1 (pt_not (pt_chain op_le op_le pe_int (pv 2) (pe_glob (v := .int (10 ^ 40)) (by rfl) hsc ⟨_, rfl⟩)))))) pss_nv pss_nil)
    (pss_cons ((ps_set (i := 3) (FnScope.nd n70) rfl (Or.inl rfl) (pe_glob (v := .int 64) (by rfl) htb ⟨_, rfl⟩)))
    (pss_one (ps_whI PassesOwn.never (pt_val pe_bl)
      (pss_cons (ps_asg (pe_cl CE hr (pa_cons (pv 1) (pa_cons (pe_floA (j := 0) S CR (pv 0) (pv 3) r5) (pa_cons (pv 3) pa_nil)))) (pg_tup rfl (pgs_cons ((pg_name (i := 4) (FnScope.nd n70) rfl (Or.inl rfl))) (pgs_cons ((pg_name (i := 5) (FnScope.nd n70) rfl (Or.inl rfl))) pgs_nil))))
      (pss_cons ((ps_set (i := 6) (FnScope.nd n70) rfl (Or.inl rfl) (pe_op op_shlN ((pe_ix ix_tup (pv 1) pe_int (fun _ _ => rfl))) (pe_op op_mul (pv 3) (pe_op op_sub (pe_degG (j := 0) S B (pv 0) r2) pe_int)))))
      (pss_cons ((ps_set (i := 7) (FnScope.nd n70) rfl (Or.inl rfl) (pe_op op_fdivX (pe_op op_mulW (pv 4) (pv 2)) (pv 6))))
      (pss_cons (ps_if ((pt_cmpR op_eq (pv 7) (pe_op op_fdivX (pe_op op_mulW (pv 5) (pv 2)) (pv 6)) (nomark _))) (pss_one (ps_ret (pv 7))) pss_nil)
      (pss_one (ps_aug (i := 3) n70.nd rfl (Or.inl rfl) pe_int iop_mul))))))))))), ?_⟩
  obtain ⟨dx, q0, z1, z2⟩ := id hs
  refine ⟨_, rfl, (sh, t, r, xs), rfl, hs, ?_⟩
  rintro _ HX - eX
  have eX : H = HX := (show HX = H from eX).symm
  subst eX
  refine ⟨_, rfl, _, rfl, (sh, t, r, xs, p, ns), rfl, ⟨hs, hp, by show ns.length ≤ 1000; omega⟩, ?_⟩
  rintro _ H1 s1 -
  refine ⟨_, rfl, sc, rfl, trivial, ?_⟩
  rintro _ HX s2 ⟨rfl, eX⟩
  have t2 := s1.trans s2
  refine ⟨_, rfl, iteF ⟨_, rfl, _, _, rfl, rfl, _, rfl, ?_⟩⟩
  rw [decide_eq_true (show 1 ≤ sc from t1)]
  refine iteT ⟨_, _, rfl, rfl, _, rfl, ?_⟩
  rw [decide_eq_true (show sc ≤ 10 ^ 40 from t40)]
  refine iteF ?_
  refine ⟨fun m σ H' => ∃ (b : Nat) (y4 y5 y6 y7 : Option V), σ = [some (.ref sh), some (.ref p), some (.int sc), some (.int (b : Int)), y4, y5, y6, y7] ∧ Same H H' ∧ okFl F ns xs.length sc m b = true ∧ flBt F ns xs.length sc m b = flBt F ns xs.length sc 3 64, ⟨3, 64, none, none, none, none, rfl, t2, ok, rfl⟩, ?_⟩
  rintro m σ H7 ⟨b, y4, y5, y6, y7, rfl, t7, okm, em⟩
  have ob : okB1 F ns xs.length b = true := by
    cases m with
    | zero => exact (Bool.and_eq_true_iff.mp okm).1
    | succ m => exact (Bool.and_eq_true_iff.mp okm).1
  unfold okB1 at ob
  simp only [Bool.and_eq_true, decide_eq_true_eq] at ob
  obtain ⟨⟨⟨⟨⟨b1, b2⟩, en⟩, sA⟩, sB⟩, sbo⟩ := ob
  have sA : Sm 8000 (endA ns (F b) b) := of_decide_eq_true sA
  have sB : Sm 8000 (endB ns (F b) b) := of_decide_eq_true sB
  have sbo : Sm 8000 (bot ns xs.length b) := of_decide_eq_true sbo
  refine ⟨_, rfl, iteT ?_⟩
  refine ⟨_, rfl, _, rfl, sh, dx, _, rfl, t7 _ _ z1, rfl, _, rfl, sh, t, r, xs, F, b, rfl, hs.same t7, hF, b1, b2, fun H8 s8 => ?_⟩
  have t8 := t7.trans s8
  refine ⟨_, rfl, (p, ns, F b, b), rfl, ⟨TI.same t8 hp.at_, by omega, en⟩, ?_⟩
  rintro _ H9 s9 ⟨e9, rfl, he9⟩
  have he9 : H9 e9 = some (.tup [.int (endA ns (F b) b), .int (endB ns (F b) b)]) := he9
  have t9 := t8.trans s9
  refine ⟨e9, _, rfl, SqT.of he9, rfl, _, _, rfl, _, _, rfl, rfl, ?_⟩
  have ex : ((b : Int) * ((xs.length : Int) - 1 - 1)) = ((b * (xs.length - 2) : Nat) : Int) := by
    rw [Int.natCast_mul]
    congr 1
    omega
  have sn' : (ns.getD 0 0).natAbs < 2 ^ 3000 := sn
  have bl : b * (xs.length - 2) ≤ 800 * 5 := Nat.mul_le_mul b2 (by omega)
  refine ⟨_, rfl, p, _, _, _, rfl, rfl, SqT.of (t9 _ _ hp0), atI_nat (j := 0) (getD_map (by omega)), _, rfl, _, rfl, sh, dx, _, rfl, t9 _ _ z1, sh, t, r, xs, rfl, hs.same t9, fun _ _ => ⟨_, _, rfl, rfl, _, _, rfl, rfl, .inr ⟨?_, ?_⟩, ns.getD 0 0, b * (xs.length - 2), rfl, congrArg V.int ex, shl_ok (n := 3000) sn' (by omega), ?_⟩⟩
  · omega
  · omega
  have b0 : bot ns xs.length b ≠ 0 := by
    have p1 := hp.pos
    have := Int.mul_pos (show 0 < ns.getD 0 0 by omega) (two_pos (b * (xs.length - 2)))
    unfold bot
    omega
  have dv : ∀ {i : Int}, CDivX i (bot ns xs.length b) := fun {i} => ⟨b0, Nat.lt_of_lt_of_le (PySem.Flt.log2_lt_of (show 0 < 8000 by decide) sbo) (by decide)⟩
  refine ⟨_, rfl, _, rfl, _, _, rfl, rfl, cm sA ssc, _, rfl, _, _, rfl, rfl, dv, ?_⟩
  refine ⟨_, rfl, _, rfl, _, rfl, _, _, rfl, rfl, cm sB ssc, _, rfl, _, _, rfl, rfl, dv, rfl, _, rfl, ?_⟩
  show (if decide (V.int (loF F ns xs.length sc b) = V.int (hiF F ns xs.length sc b)) = true then _ else _)
  by_cases he : loF F ns xs.length sc b = hiF F ns xs.length sc b
  · rw [decide_eq_true (show V.int (loF F ns xs.length sc b) = V.int (hiF F ns xs.length sc b) by rw [he])]
    have eb : flBt F ns xs.length sc 3 64 = b := by
      rw [← em]
      cases m with
      | zero => rfl
      | succ m => exact if_pos he
    refine iteT ⟨_, rfl, k _ _ t9 ?_⟩
    unfold floF
    rw [eb]
    rfl
  · rw [decide_eq_false (show ¬ V.int (loF F ns xs.length sc b) = V.int (hiF F ns xs.length sc b) from fun z => he (V.int.inj z))]
    cases m with
    | zero => exact absurd (of_decide_eq_true (Bool.and_eq_true_iff.mp okm).2) he
    | succ m =>
      have okm' : okFl F ns xs.length sc m (b * 2) = true := by
        rcases Bool.or_eq_true_iff.mp (Bool.and_eq_true_iff.mp okm).2 with z | z
        · exact absurd (of_decide_eq_true z) he
        · exact z
      have em' : flBt F ns xs.length sc m (b * 2) = flBt F ns xs.length sc 3 64 := by
        rw [← em]
        exact (if_neg he).symm
      have hb2 : ((b : Int) * 2) = ((b * 2 : Nat) : Int) := by omega
      refine iteF ⟨_, rfl, _, _, rfl, rfl, .inr ⟨by decide, by decide⟩, ?_⟩
      exact ⟨m, Nat.lt_succ_self m, b * 2, _, _, _, _, (by rw [← hb2]; rfl), t9, okm', em'⟩
end
end Xq

/-! What the law draws. -/
namespace Xq
open PySem PySem.Spec PyProof.Rows L2
/-- all but r stays -/
def SameX (r : Addr) (H H' : Hp) : Prop := ∀ b o, b ≠ r → H b = some o → H' b = some o
theorem SameX.of {r : Addr} {H H' : Hp} (k : Same H H') : SameX r H H' := fun b o _ e => k b o e
theorem SameX.trans {r : Addr} {H H1 H2 : Hp} (a : SameX r H H1) (b : SameX r H1 H2) : SameX r H H2 := fun c o n e => b c o n (a c o n e)
theorem SameX.put {r : Addr} {H : Hp} {o : HO} : SameX r H (upd H r o) := fun b u n e => by
  rw [upd_ne n]
  exact e
def noR (r : Addr) (H : Hp) : Hp := fun b => if b = r then none else H b
theorem noR_ne {r b : Addr} {H : Hp} (h : b ≠ r) : noR r H b = H b := if_neg h
theorem noR_same (r : Addr) (H : Hp) : Same (noR r H) H := fun b o e => by
  by_cases h : b = r
  · rw [h] at e
    have e2 : noR r H r = none := if_pos rfl
    rw [e2] at e
    cases e
  · rw [noR_ne h] at e
    exact e
theorem noR_mono {r : Addr} {H H' : Hp} (k : SameX r H H') : Same (noR r H) (noR r H') := fun b o e => by
  have h : b ≠ r := fun q => by
    rw [q] at e
    have e2 : noR r H r = none := if_pos rfl
    rw [e2] at e
    cases e
  rw [noR_ne h] at e ⊢
  exact k b o h e
def rk (a b c : Int) : HO := .lst [.int a, .int b, .int c]
section
variable {P : Program} {w : World} {K : PySem.W.Frag} {mg : Str → Option Value} {base : Heap} {f : Addr} {fd : FuncData}
abbrev sRack : Stmt := (top 79)
abbrev nRack : List Str := ["_law_cells", "_law_at", "_law_own", "_law_mixed", "_law_k"]
theorem scRk : FnScope nRack ["_law_cells", "_law_at"] (defScope sRack) := ⟨rfl, rfl, rfl, by decide +kernel, rfl, by decide +kernel, by decide +kernel⟩
def spRack (K : PySem.W.Frag) : Sp := fun vs H Q _ => ∃ (a : Addr) (ns : List Int) (j : Nat), vs = [.ref a, .int (j : Int)] ∧ SqL K H a (ns.map V.int) ∧ ns.length ≤ 63 ∧
  ∀ p x y H', Same H H' → H p = none → H' p = some (rk x y 7) → Q (.ref p) H'
theorem ok_rack (F : Fun K "_law_rack" "_law_rack" sRack f fd) (B : Bl mg) : FnOk P w K mg base CX0 1 f fd ["_law_cells", "_law_at"] (spRack K) := by
  refine F.ok scRk (fun vs H Q E h => ?_) (fun cdv A outer s H vs Q E hr h => ?_)
  · obtain ⟨a, ns, j, rfl, _⟩ := h
    rfl
  · obtain ⟨a, ns, j, rfl, hS, hlen, k⟩ := h
    refine ⟨_, pss_cons (ps_par (i := 2) (j := 3) rfl scRk.nd rfl rfl (by decide) rfl rfl (pa_cons (pe_ifExp (pt_cmpR op_lt (pv 1) (pe_callB call_len_seq (by rfl) B.len_ PySem.boot_len (pa_cons (pv 0) pa_nil)) (nomark _))
            (pe_ix ix_list (pv 0) (pv 1) (fun _ _ => rfl)) pe_int) (pa_cons (pe_op op_add pe_int (pe_op op_mul pe_int (pv 1))) pa_nil)) rfl)
      (pss_cons (ps_for PassesOwn.never rfl (pi_range1 (by rfl) B.range_ (pa_cons (pe_callB (call_min2 rfl) (by rfl) B.min_ PyProof.Rows.boot_min (pa_cons (pe_callB call_len_seq (by rfl) B.len_ PySem.boot_len (pa_cons (pv 0) pa_nil)) (pa_cons pe_int pa_nil))) pa_nil))
          (pg_name (i := 4) scRk.nd rfl (Or.inl rfl))
          (pss_one (ps_set (i := 3) scRk.nd rfl (Or.inl rfl) (pe_op op_mod (pe_callTy call_int1 (by rfl) B.int_ (by decide +kernel) (pa_cons (pe_op op_mul (pe_op op_add (pe_op op_add (pv 3) (pe_op op_mul pe_int (pe_ix ix_list (pv 0) (pv 4) (fun _ _ => rfl)))) pe_int)
            (pe_op op_add pe_int (pe_op op_mul pe_int (pv 4)))) pa_nil)) pe_int))))
      (pss_one (ps_ret (pe_lst (pa_cons (pe_ifExp (PW.pt (pw_or (pt_cmpR op_lt (pv 2) pe_int (nomark _)) (pw_or1 (pt_cmpR op_ge (pv 2) (pe_op op_pow pe_int pe_int) (nomark _)))))
            (pe_callB call_abs (by rfl) B.abs_ PyProof.Rows.boot_abs (pa_cons (pv 2) pa_nil)) pe_int)
          (pa_cons (pe_op op_mod (pe_callTy call_int1 (by rfl) B.int_ (by decide +kernel) (pa_cons (pe_op op_add (pv 3) (pe_op op_mul (pv 2) pe_int)) pa_nil)) pe_int) (pa_cons pe_int pa_nil))))))), ?_⟩
    have e0 : L2.start nRack [V.ref a, V.int (j : Int)] = [some (.ref a), some (.int (j : Int)), none, none, none] := rfl
    rw [e0]
    have mn : -(2 ^ 62) ≤ (if (8 : Int) < (((ns.map V.int).length : Nat) : Int) then 8 else (((ns.map V.int).length : Nat) : Int)) ∧
        (if (8 : Int) < (((ns.map V.int).length : Nat) : Int) then 8 else (((ns.map V.int).length : Nat) : Int)) < 2 ^ 62 ∧
        (if (8 : Int) < (((ns.map V.int).length : Nat) : Int) then 8 else (((ns.map V.int).length : Nat) : Int)).toNat ≤ ns.length := by
      rw [List.length_map]
      refine ⟨?_, ?_, ?_⟩ <;> split <;> omega
    refine ⟨_, rfl, _, rfl, a, _, rfl, .inl hS, _, _, rfl, rfl, _, rfl, ?_⟩
    refine ite2 (fun hb => ?_) (fun hb => ?_)
    · have hj : j < ns.length := by
        have q := of_decide_eq_true hb
        rw [List.length_map] at q
        omega
      have hx : (ns.map V.int)[j]? = some (.int ns[j]) := by rw [List.getElem?_map, List.getElem?_eq_getElem hj]; rfl
      refine ⟨_, rfl, _, rfl, a, _, _, .int ns[j], rfl, rfl, hS, atI_nat hx, ?_⟩
      refine ⟨_, rfl, _, _, rfl, rfl, .inl ⟨by decide, by decide⟩, _, _, rfl, rfl, _, _, rfl, ?_⟩
      refine ⟨_, rfl, a, _, rfl, .inl hS, _, _, rfl, _, rfl, mn.1, mn.2.1, for_range (fun i σ H' => H' = H ∧ ∃ m z, σ = [some (.ref a), some (.int (j : Int)), some (.int ns[j]), some (.int m), z])
        ⟨rfl, _, _, rfl⟩ ?_ ?_⟩
      · rintro i σ H' hi ⟨rfl, m, z, rfl⟩
        have hi2 : i < ns.length := Nat.lt_of_lt_of_le hi mn.2.2
        have hx : (ns.map V.int)[i]? = some (.int ns[i]) := by rw [List.getElem?_map, List.getElem?_eq_getElem hi2]; rfl
        refine ⟨_, rfl, _, rfl, _, rfl, a, _, _, .int ns[i], rfl, rfl, hS, (by rw [Int.zero_add]; exact atI_nat hx), _, _, rfl, rfl, .inl ⟨by decide, by decide⟩, ?_⟩
        refine ⟨_, _, rfl, rfl, _, _, rfl, rfl, _, rfl, _, _, rfl, rfl, .inl ⟨by decide, by decide⟩, _, _, rfl, rfl, ?_⟩
        refine ⟨_, _, rfl, rfl, .inr ⟨by omega, by omega⟩, .inl ⟨_, rfl, ?_⟩⟩
        refine ⟨_, _, rfl, rfl, (by show (0 : Int) < 2147483353; decide), rfl, _, _, rfl⟩
      · rintro σ H' ⟨rfl, m, z, rfl⟩
        refine ⟨_, rfl, _, _, rfl, rfl, _, rfl, ?_⟩
        refine ite2 (fun hb => ?_) (fun hb => ?_)
        · refine ite2 (fun _ => ?_) (fun q => absurd rfl q)
          refine ⟨_, rfl, _, rfl, _, rfl, _, rfl, _, _, rfl, rfl, .inr ⟨by decide, by decide⟩, _, _, rfl, rfl, .inl ⟨_, rfl, ?_⟩⟩
          refine ⟨_, _, rfl, rfl, (by show (0 : Int) < 2147483353; decide), (by show 3 ≤ sizeLine; decide), fun p hp => ?_⟩
          exact k p _ _ _ (same_new hp) hp upd_same
        · refine ⟨_, rfl, 10, 18, rfl, rfl, ⟨by decide, by decide, by decide⟩, _, _, rfl, rfl, _, rfl, ?_⟩
          refine ite2 (fun hb => ?_) (fun hb => ?_)
          · refine ⟨_, rfl, _, rfl, _, rfl, _, rfl, _, _, rfl, rfl, .inr ⟨by decide, by decide⟩, _, _, rfl, rfl, .inl ⟨_, rfl, ?_⟩⟩
            refine ⟨_, _, rfl, rfl, (by show (0 : Int) < 2147483353; decide), (by show 3 ≤ sizeLine; decide), fun p hp => ?_⟩
            exact k p _ _ _ (same_new hp) hp upd_same
          · refine ⟨_, rfl, _, rfl, _, _, rfl, rfl, .inr ⟨by decide, by decide⟩, _, _, rfl, rfl, .inl ⟨_, rfl, ?_⟩⟩
            refine ⟨_, _, rfl, rfl, (by show (0 : Int) < 2147483353; decide), (by show 3 ≤ sizeLine; decide), fun p hp => ?_⟩
            exact k p _ _ _ (same_new hp) hp upd_same
    · refine ⟨_, rfl, _, _, rfl, rfl, .inl ⟨by decide, by decide⟩, _, _, rfl, rfl, _, _, rfl, ?_⟩
      refine ⟨_, rfl, a, _, rfl, .inl hS, _, _, rfl, _, rfl, mn.1, mn.2.1, for_range (fun i σ H' => H' = H ∧ ∃ m z, σ = [some (.ref a), some (.int (j : Int)), some (.int 0), some (.int m), z])
        ⟨rfl, _, _, rfl⟩ ?_ ?_⟩
      · rintro i σ H' hi ⟨rfl, m, z, rfl⟩
        have hi2 : i < ns.length := Nat.lt_of_lt_of_le hi mn.2.2
        have hx : (ns.map V.int)[i]? = some (.int ns[i]) := by rw [List.getElem?_map, List.getElem?_eq_getElem hi2]; rfl
        refine ⟨_, rfl, _, rfl, _, rfl, a, _, _, .int ns[i], rfl, rfl, hS, (by rw [Int.zero_add]; exact atI_nat hx), _, _, rfl, rfl, .inl ⟨by decide, by decide⟩, ?_⟩
        refine ⟨_, _, rfl, rfl, _, _, rfl, rfl, _, rfl, _, _, rfl, rfl, .inl ⟨by decide, by decide⟩, _, _, rfl, rfl, ?_⟩
        refine ⟨_, _, rfl, rfl, .inr ⟨by omega, by omega⟩, .inl ⟨_, rfl, ?_⟩⟩
        refine ⟨_, _, rfl, rfl, (by show (0 : Int) < 2147483353; decide), rfl, _, _, rfl⟩
      · rintro σ H' ⟨rfl, m, z, rfl⟩
        refine ⟨_, rfl, _, _, rfl, rfl, _, rfl, ?_⟩
        refine ite2 (fun hb => ?_) (fun hb => ?_)
        · refine ite2 (fun _ => ?_) (fun q => absurd rfl q)
          refine ⟨_, rfl, _, rfl, _, rfl, _, rfl, _, _, rfl, rfl, .inr ⟨by decide, by decide⟩, _, _, rfl, rfl, .inl ⟨_, rfl, ?_⟩⟩
          refine ⟨_, _, rfl, rfl, (by show (0 : Int) < 2147483353; decide), (by show 3 ≤ sizeLine; decide), fun p hp => ?_⟩
          exact k p _ _ _ (same_new hp) hp upd_same
        · refine ⟨_, rfl, 10, 18, rfl, rfl, ⟨by decide, by decide, by decide⟩, _, _, rfl, rfl, _, rfl, ?_⟩
          refine ite2 (fun hb => ?_) (fun hb => ?_)
          · refine ⟨_, rfl, _, rfl, _, rfl, _, rfl, _, _, rfl, rfl, .inr ⟨by decide, by decide⟩, _, _, rfl, rfl, .inl ⟨_, rfl, ?_⟩⟩
            refine ⟨_, _, rfl, rfl, (by show (0 : Int) < 2147483353; decide), (by show 3 ≤ sizeLine; decide), fun p hp => ?_⟩
            exact k p _ _ _ (same_new hp) hp upd_same
          · refine ⟨_, rfl, _, rfl, _, _, rfl, rfl, .inr ⟨by decide, by decide⟩, _, _, rfl, rfl, .inl ⟨_, rfl, ?_⟩⟩
            refine ⟨_, _, rfl, rfl, (by show (0 : Int) < 2147483353; decide), (by show 3 ≤ sizeLine; decide), fun p hp => ?_⟩
            exact k p _ _ _ (same_new hp) hp upd_same
end
/-- the rack's three ints at r -/
def RkI (H : Hp) (r : Addr) : Prop := ∃ a b c, H r = some (rk a b c)
/-- as Prm, but the rack at r changes -/
def PrmR {α : Type} (args : α → Addr → List V) (pre : α → Hp → Prop) (post : α → Hp → V → Hp → Prop) : Sp := fun vs H Q _ => ∃ a r, vs = args a r ∧ RkI H r ∧ pre a H ∧ ∀ v H', SameX r H H' → RkI H' r → post a H v H' → Q v H'
theorem mkR {P : Program} {w : World} {K : PySem.W.Frag} {mg : Str → Option Value} {base : Heap} {α : Type} {args : α → Addr → List V} {pre : α → Hp → Prop} {post : α → Hp → V → Hp → Prop} {N ps : List Str} {x : Str} {st : Stmt} {k : Nat}
    (D : Df K mg x st) (S : FnScope N ps (defScope st))
    (hb : ∀ (kV doc pm : Value) (an : Option Addr) (cdv ct : Value) (us : List Value), us.length = ps.length → bindArgs (PySem.W.fnOf x x (defArgs st) (defBody st) (defScope st) .none kV doc pm an cdv ct) ⟨us, []⟩ = pure (ps.zip us))
    (hl : ∀ (a : α) (r : Addr), (args a r).length = ps.length)
    (h : ∀ (f : Addr) (cdv : Value) (A : Around) (outer : List Env) (s : Shared) (H : Hp) (a : α) (r : Addr) (Q : VK) (E : XK), Room k (A.deeper (envOfC x (defScope st) s.heap.objs.size f cdv)) → RkI H r → pre a H →
      (∀ v H', SameX r H H' → RkI H' r → post a H v H' → Q v H') →
      ∃ t, PSs (cxOf CX0 P w K mg base N x (defScope st) f cdv A outer s H E).nox (defBody st) t ∧ t { nx := fun _ H' => Q .non H', rt := Q } (L2.start N (args a r)) H) :
    Cal P w K mg base (k + 1) x ps (PrmR args pre post) := by
  obtain ⟨f, fd, F, m⟩ := D.ex
  have lk : ∃ oc od osl, K.lookup f = some ⟨oc, od, .func fd, osl⟩ := by
    obtain ⟨oc, od, kV, doc, pm, an, cdv, ct, osl, _, lk, _⟩ := F.ex
    exact ⟨oc, od, osl, lk⟩
  refine ⟨f, fd, F.ok S (fun vs H Q E h => ?_) (fun cdv A outer s H vs Q E hr hp => ?_), F.binds hb, m, F.kp, lk⟩
  · obtain ⟨a, r, rfl, _⟩ := h
    exact hl a r
  · obtain ⟨a, r, rfl, hk, hpre, hh⟩ := hp
    exact h f cdv A outer s H a r Q E hr hk hpre hh
theorem new_ne {r p : Addr} {H : Hp} (h : RkI H r) (hp : H p = none) : r ≠ p := by
  obtain ⟨a, b, c, e⟩ := h
  exact ne_of_none e hp
section
variable {P : Program} {w : World} {K : PySem.W.Frag} {mg : Str → Option Value} {base : Heap} {C : Addr}
theorem s82 : FnScope ["_law_rack_here", "_law_many", "_law_figure"] ["_law_rack_here", "_law_many"] (defScope (top 80)) := (⟨rfl, rfl, rfl, by decide +kernel, rfl, by decide +kernel, by decide +kernel⟩)
abbrev spPick : Sp := PrmR (α := Int) (fun m r => [.ref r, .int m]) (fun m _ => 1 ≤ m ∧ Sm 150 m) (fun m H v H' => ∃ n, v = .int n ∧ 0 ≤ n ∧ n < m)
theorem c_pick (D : Df K mg "_law_pick" (top 80)) (B : Bl mg) : Cal P w K mg base 1 "_law_pick" ["_law_rack_here", "_law_many"] spPick := by
  refine mkR D s82 (fun _ _ _ _ _ _ us hl => match us, hl with | [_, _], _ => rfl) (fun _ _ => rfl) (fun f cdv A outer s H m r Q E hr hR hm k => ?_)
  obtain ⟨a, b, c, hR⟩ := hR
  obtain ⟨m1, bm⟩ := hm
  have m1 : 1 ≤ m := m1
  have hR0 : H r = some (.lst [.int a, .int b, .int c]) := hR
  refine ⟨_, pss_cons (ps_if (pt_cmpR op_gt (pe_ix ix_list (pv 0) pe_int (fun _ _ => rfl)) pe_int (nomark _))
      (pss_cons (ps_asg (pe_callB call_divmodW (by rfl) B.divmod_ PyProof.Rows.boot_divmod (pa_cons (pe_ix ix_list (pv 0) pe_int (fun _ _ => rfl)) (pa_cons (pv 1) pa_nil)))
          (pg_tup rfl (pgs_cons (pg_sub (pv 0) pe_int set_list (fun _ => rfl)) (pgs_cons (pg_name (i := 2) s82.nd rfl (Or.inl rfl)) pgs_nil))))
        (pss_one (ps_ret (pv 2)))) pss_nil)
    (pss_cons (ps_asg (pe_op op_add (pe_ix ix_list (pv 0) pe_int (fun _ _ => rfl)) pe_int) (pg_sub (pv 0) pe_int set_list (fun _ => rfl)))
    (pss_cons (ps_asg (pe_op op_mod (pe_callTy call_int1 (by rfl) B.int_ (by decide +kernel) (pa_cons (pe_op op_add (pe_op op_add
          (pe_op op_mul (pe_ix ix_list (pv 0) pe_int (fun _ _ => rfl)) (pe_op op_add (pe_op op_mod (pe_callTy call_int1 (by rfl) B.int_ (by decide +kernel) (pa_cons (pe_op op_fdiv (pe_ix ix_list (pv 0) pe_int (fun _ _ => rfl)) pe_int) pa_nil)) pe_int) pe_int))
          (pe_op op_mul pe_int (pe_ix ix_list (pv 0) pe_int (fun _ _ => rfl)))) pe_int) pa_nil)) pe_int) (pg_sub (pv 0) pe_int set_list (fun _ => rfl)))
    (pss_one (ps_ret (pe_op op_mod (pe_callTy call_int1 (by rfl) B.int_ (by decide +kernel) (pa_cons (pe_op op_fdiv (pe_ix ix_list (pv 0) pe_int (fun _ _ => rfl)) pe_int) pa_nil)) (pv 1)))))), ?_⟩
  have e0 : L2.start ["_law_rack_here", "_law_many", "_law_figure"] [V.ref r, V.int m] = [some (.ref r), some (.int m), none] := rfl
  rw [e0]
  refine ⟨_, rfl, r, _, 0, .int a, rfl, rfl, SqL.of hR0, atI_nat (j := 0) rfl, _, _, rfl, rfl, _, rfl, ?_⟩
  refine ite2 (fun hb => ?_) (fun hb => ?_)
  · refine ⟨_, rfl, r, _, 0, .int a, rfl, rfl, SqL.of hR0, atI_nat (j := 0) rfl, _, rfl, _, _, rfl, ⟨by omega, PyProof.noPylong_of_log2 (Nat.lt_of_lt_of_le (PySem.Flt.log2_lt_of (show 0 < 150 by decide) bm) (by decide))⟩, fun p hp => ?_⟩
    have nrp : r ≠ p := ne_of_none hR hp
    refine ⟨p, _, rfl, SqT.of upd_same, rfl, _, _, rfl, ?_⟩
    refine ⟨_, rfl, r, [.int a, .int b, .int c], 0, 0, rfl, rfl, (by rw [upd_ne nrp]; exact hR0), rfl, _, _, rfl, rfl, ?_⟩
    refine ⟨_, rfl, ?_⟩
    refine k _ _ (fun b o n e => ?_) ⟨_, _, _, upd_same⟩ ⟨a % m, rfl, Int.emod_nonneg _ (by omega), Int.emod_lt_of_pos _ (by omega)⟩
    rw [upd_ne n, upd_ne (ne_of_none e hp)]
    exact e
  · refine ⟨_, rfl, r, _, 2, .int c, rfl, rfl, SqL.of hR0, atI_nat (j := 2) rfl, _, _, rfl, rfl, ?_⟩
    refine ⟨_, rfl, r, [.int a, .int b, .int c], 2, 2, rfl, rfl, hR0, rfl, ?_⟩
    refine ⟨_, rfl, r, _, 1, .int b, rfl, rfl, SqL.of upd_same, atI_nat (j := 1) rfl, ?_⟩
    refine ⟨_, rfl, r, _, 1, .int b, rfl, rfl, SqL.of upd_same, atI_nat (j := 1) rfl, _, _, rfl, rfl, ⟨by decide, by decide⟩, .inl ⟨_, rfl, ?_⟩⟩
    refine ⟨_, _, rfl, rfl, (by show (0 : Int) < 30011; decide), _, _, rfl, rfl, _, _, rfl, rfl, .inr ⟨by omega, by omega⟩, ?_⟩
    refine ⟨_, rfl, r, _, 2, .int (c + 1), rfl, rfl, SqL.of upd_same, atI_nat (j := 2) rfl, _, _, rfl, rfl, .inl ⟨by decide, by decide⟩, ?_⟩
    refine ⟨_, _, rfl, rfl, _, _, rfl, rfl, .inl ⟨_, rfl, ?_⟩⟩
    refine ⟨_, _, rfl, rfl, (by show (0 : Int) < 2147483353; decide), ?_⟩
    refine ⟨_, rfl, r, [.int a, .int b, .int (c + 1)], 1, 1, rfl, rfl, upd_same, rfl, ?_⟩
    refine ⟨_, rfl, r, _, 1, _, rfl, rfl, SqL.of upd_same, atI_nat (j := 1) rfl, ?_⟩
    refine ⟨_, _, rfl, rfl, ⟨by decide, by decide⟩, .inl ⟨_, rfl, ?_⟩⟩
    refine ⟨_, rfl, _, _, rfl, rfl, (by show (0 : Int) < m; omega), ?_⟩
    exact k _ _ (SameX.put.trans SameX.put) ⟨_, _, _, upd_same⟩ ⟨_, rfl, Int.emod_nonneg _ (by omega), Int.emod_lt_of_pos _ (by omega)⟩
end
/-! ### Euclid's way -/
/-- from f, o it ends within n turns -/
def Eucl (o f : Nat) : Nat → Prop
  | 0 => o = 0
  | n + 1 => o = 0 ∨ Eucl (f % o) o n
theorem ends_up : ∀ (n : Nat) {o f : Nat}, Eucl o f n → Eucl o f (n + 1)
  | 0, o, f, h => .inl h
  | n + 1, o, f, h => by
    rcases h with h | h
    · exact .inl h
    · exact .inr (ends_up n h)
theorem ends_le {m n : Nat} {o f : Nat} (h : Eucl o f m) (hl : m ≤ n) : Eucl o f n := by
  induction hl with
  | refl => exact h
  | step _ ih => exact ends_up _ ih
theorem ends_of : ∀ (k : Nat) {o f : Nat}, o < 2 ^ k → Eucl o f (2 * k + 1)
  | 0, o, f, h => .inl (by simpa using h)
  | k + 1, o, f, h => by
    by_cases h0 : o = 0
    · exact .inl h0
    · refine .inr ?_
      show Eucl (f % o) o (2 * k + 1 + 1)
      by_cases h1 : f % o = 0
      · exact .inl h1
      · refine .inr (ends_of k ?_)
        have l1 : f % o < o := Nat.mod_lt _ (by omega)
        have l2 : o % (f % o) < f % o := Nat.mod_lt _ (by omega)
        have e := Nat.div_add_mod o (f % o)
        have q1 : 1 ≤ o / (f % o) := Nat.div_pos (by omega) (by omega)
        have q2 : f % o ≤ (f % o) * (o / (f % o)) := Nat.le_mul_of_pos_right _ q1
        have e2 : 2 ^ (k + 1) = 2 * 2 ^ k := by rw [Nat.pow_succ]; omega
        omega
section
variable {P : Program} {w : World} {K : PySem.W.Frag} {mg : Str → Option Value} {base : Heap} {C : Addr}
abbrev nCom : List Str := ["_law_parts", "_law_found", "_law_part", "_law_one", "_law_turn"]
theorem natAbs_if (i : Int) : (i.natAbs : Int) = if i < 0 then -i else i := by
  split <;> omega
theorem gcd_take {xs : List Int} {i : Nat} {z : Int} (h : xs[i]? = some z) : gcdL (xs.take (i + 1)) = Nat.gcd (gcdL (xs.take i)) z.natAbs := gcdL_succ h
theorem n80 : FnScope nCom ["_law_parts"] (defScope (top 81)) := (⟨rfl, rfl, rfl, by decide +kernel, rfl, by decide +kernel, by decide +kernel⟩)
abbrev spComT : Sp := Prm (α := Addr × List Int) (fun a => [.ref a.1]) (fun a H => TI H a.1 a.2 ∧ a.2.length ≤ 100 ∧ ∀ x ∈ a.2, Sm 1900 x) (fun a H v H' => v = .int (gcdL a.2 : Nat) ∧ H' = H)
theorem c_comT (D : Df K mg "_law_common" (top 81)) (B : Bl mg) : Cal P w K mg base 1 "_law_common" ["_law_parts"] spComT := by
  refine mkC D n80 (fun _ _ _ _ _ _ us hl => match us, hl with | [_], _ => rfl) (fun _ => rfl) (fun f cdv A outer s H a Q E hr h k => ?_)
  obtain ⟨p, xs⟩ := a
  obtain ⟨h, hl, hx⟩ := h
  have h0 : H p = some (.tup (xs.map V.int)) := h
  have k : ∀ v H', Same H H' → (v = .int (gcdL xs : Nat) ∧ H' = H) → Q v H' := k
  refine ⟨_, pss_cons ((ps_set (i := 1) (FnScope.nd n80) rfl (Or.inl rfl) pe_int))
    (pss_cons (ps_for PassesOwn.never rfl (pi_tup (pv 0)) ((pg_name (i := 2) (FnScope.nd n80) rfl (Or.inl rfl)))
      (pss_cons ((ps_set (i := 3) (FnScope.nd n80) rfl (Or.inl rfl) (pe_callB call_abs (by rfl) B.abs_ PyProof.Rows.boot_abs (pa_cons (pv 2) pa_nil))))
      (pss_one (ps_for PassesOwn.never rfl (pi_range1 (by rfl) B.range_ (pa_cons pe_int pa_nil)) ((pg_name (i := 4) (FnScope.nd n80) rfl (Or.inl rfl)))
        (pss_cons (ps_if ((pt_cmpR op_eq (pv 3) pe_int (nomark _))) (pss_one ps_break) pss_nil)
        (pss_one (ps_par (i := 1) (j := 3) rfl n80.nd rfl rfl (by decide) rfl rfl (pa_cons (pv 3) (pa_cons (pe_op op_mod (pe_callTy call_int1 (by rfl) B.int_ PyProof.Rows.boot_int (pa_cons (pv 1) pa_nil)) (pv 3)) pa_nil)) rfl)))))))
    (pss_one (ps_ret (pv 1)))), ?_⟩
  refine ⟨_, rfl, p, rfl, ⟨_, SqT.of h0⟩, for_tup (xs := xs.map V.int) (fun i σ H' => H' = H ∧ ∃ y2 y3 y4 : Option V, σ = [some (.ref p), some (.int ((gcdL (xs.take i) : Nat) : Int)), y2, y3, y4]) ⟨rfl, none, none, none, rfl⟩ (fun i σ H' _ e => by rw [e.1]; exact SqT.of h0) ?_ ?_⟩
  · rintro i x σ H' hx2 ⟨rfl, y2, y3, y4, rfl⟩
    obtain ⟨z, hz, rfl⟩ := at_map hx2
    have bz : z.natAbs < 2 ^ 1900 := hx z (List.mem_of_getElem? hz)
    have ge := gcd_take hz
    refine ⟨_, rfl, _, rfl, ?_⟩
    refine ⟨4000, rfl, by decide, by decide, for_range (n := 4000) (fun i' σ H2 => H2 = H' ∧ ∃ (fd o : Nat) (t4 : Option V), σ = [some (.ref p), some (.int (fd : Int)), some (.int z), some (.int (o : Int)), t4] ∧ Eucl o fd (4000 - i') ∧ Nat.gcd fd o = gcdL (xs.take (i + 1))) ⟨rfl, gcdL (xs.take i), z.natAbs, y4, ?_, ends_le (ends_of 1900 bz) (by decide), ge.symm⟩ ?_ ?_⟩
    · rw [← natAbs_if z]
      rfl
    · rintro i' σ H2 hi ⟨rfl, fd, o, t4, rfl, hE, hG⟩
      refine ⟨_, rfl, rfl, _, rfl, ?_⟩
      rw [dec_int]
      refine ite2 (fun hb => ?_) (fun hb => ?_)
      · have ho : o = 0 := by
          have q : (o : Int) = 0 := by simpa using hb
          omega
        rw [ho, Nat.gcd_zero_right] at hG
        subst hG
        exact ⟨rfl, _, _, _, rfl⟩
      · have ho : o ≠ 0 := fun e => hb (by rw [e]; rfl)
        refine ⟨_, rfl, _, rfl, .inl ⟨_, rfl, _, rfl, _, _, rfl, rfl, (by show (0 : Int) < (o : Int); omega), _, _, rfl, rfl, o, fd % o, some (.int (0 + (i' : Int))), ?_, ?_, ?_⟩⟩
        · show [some (V.ref p), some (V.int (o : Int)), some (V.int z), some (V.int ((fd : Int) % (o : Int))), some (V.int (0 + (i' : Int)))] = _
          rw [← Int.natCast_emod]
        · have e4 : 4000 - i' = (4000 - (i' + 1)) + 1 := by omega
          rw [e4] at hE
          rcases hE with e | e
          · exact absurd e ho
          · exact e
        · rw [← hG, Nat.gcd_comm fd o, Nat.gcd_rec o fd, Nat.gcd_comm (fd % o) o]
    · rintro σ H2 ⟨rfl, fd, o, t4, rfl, hE, hG⟩
      have ho : o = 0 := hE
      rw [ho, Nat.gcd_zero_right] at hG
      subst hG
      exact ⟨rfl, _, _, _, rfl⟩
  · rintro σ H' ⟨rfl, y2, y3, y4, rfl⟩
    rw [List.length_map, List.take_length]
    exact ⟨_, rfl, k _ _ (Same.refl _) ⟨rfl, rfl⟩⟩
end
end Xq

/-! Numbers of quadratic shapes: the one way to write them. -/
namespace Xq
open PySem PySem.Spec PyProof.Rows L2
theorem gcd3 (b x y : Int) : gcdL [b, x, y] = Nat.gcd (Nat.gcd b.natAbs x.natAbs) y.natAbs := by
  show Nat.gcd (Nat.gcd (Nat.gcd 0 b.natAbs) x.natAbs) y.natAbs = _
  rw [Nat.gcd_zero_left]
/-- a triple in its one way -/
structure Nf (b x y : Int) : Prop where
  pos : 1 ≤ b
  red : gcdL [b, x, y] = 1
theorem low_spec {b : Int} (x y : Int) (h : b ≠ 0) : ∃ g u v w : Int, lowL 2 b [x, y] = [u, v, w] ∧ Nf u v w ∧ g ≠ 0 ∧ b = g * u ∧ x = g * v ∧ y = g * w ∧ (0 < b → 0 < g) := by
  have e : lowL 2 b [x, y] = [b.fdiv (comL b [b, x, y]), x.fdiv (comL b [b, x, y]), y.fdiv (comL b [b, x, y])] := rfl
  have gp : 0 < gcdL [b, x, y] := (gcd_head h).1
  obtain ⟨G, hG⟩ : ∃ G, G = gcdL [b, x, y] := ⟨_, rfl⟩
  have d1 : G ∣ b.natAbs := by rw [hG, gcd3]; exact Nat.dvd_trans (Nat.gcd_dvd_left _ _) (Nat.gcd_dvd_left _ _)
  have d2 : G ∣ x.natAbs := by rw [hG, gcd3]; exact Nat.dvd_trans (Nat.gcd_dvd_left _ _) (Nat.gcd_dvd_right _ _)
  have d3 : G ∣ y.natAbs := by rw [hG, gcd3]; exact Nat.gcd_dvd_right _ _
  have gp' : 0 < G := by rw [hG]; exact gp
  have D : ∀ {z : Int}, G ∣ z.natAbs → comL b [b, x, y] ∣ z := fun {z} q => by
    have q2 : (G : Int) ∣ z := Int.ofNat_dvd_left.mpr q
    unfold comL
    rw [← hG]
    split
    · exact Int.neg_dvd.mpr q2
    · exact q2
  have c0 : comL b [b, x, y] ≠ 0 := by
    unfold comL
    rw [← hG]
    split <;> omega
  have an : (comL b [b, x, y]).natAbs = G := by
    unfold comL
    rw [← hG]
    split <;> omega
  have E : ∀ {z : Int}, G ∣ z.natAbs → z = comL b [b, x, y] * z.fdiv (comL b [b, x, y]) := fun {z} q => by
    rw [Int.mul_comm]
    exact (Int.fdiv_mul_cancel (D q)).symm
  have sg : 0 < b → 0 < comL b [b, x, y] := fun q => by
    unfold comL
    rw [if_neg (by omega), ← hG]
    omega
  have up : 1 ≤ b.fdiv (comL b [b, x, y]) := by
    have e1 := E d1
    rcases Int.lt_or_le 0 b with q | q
    · have := sg q
      rcases Int.lt_or_le 0 (b.fdiv (comL b [b, x, y])) with z | z
      · exact z
      · have := Int.mul_nonpos_of_nonneg_of_nonpos (Int.le_of_lt this) z
        omega
    · have cn : comL b [b, x, y] < 0 := by
        unfold comL
        rw [if_pos (by omega), ← hG]
        omega
      rcases Int.lt_or_le 0 (b.fdiv (comL b [b, x, y])) with z | z
      · exact z
      · have := Int.mul_nonneg_of_nonpos_of_nonpos (Int.le_of_lt cn) z
        omega
  refine ⟨comL b [b, x, y], _, _, _, e, ⟨up, ?_⟩, c0, E d1, E d2, E d3, sg⟩
  rw [gcd3]
  have A : ∀ {z : Int}, G ∣ z.natAbs → (z.fdiv (comL b [b, x, y])).natAbs * G = z.natAbs := fun {z} q => by
    have := congrArg Int.natAbs (E q)
    rw [Int.natAbs_mul, an] at this
    rw [Nat.mul_comm]
    exact this.symm
  have g1 : Nat.gcd (Nat.gcd (b.fdiv (comL b [b, x, y])).natAbs (x.fdiv (comL b [b, x, y])).natAbs) (y.fdiv (comL b [b, x, y])).natAbs * G = G := by
    rw [← Nat.gcd_mul_right, ← Nat.gcd_mul_right, A d1, A d2, A d3, ← gcd3, hG]
  exact Nat.eq_of_mul_eq_mul_right gp' (by rw [g1, Nat.one_mul])
theorem nf_dvd {b x y b' x' y' : Int} (h : Nf b x y) (h' : 1 ≤ b') (e1 : b * x' = b' * x) (e2 : b * y' = b' * y) : b.natAbs ∣ b'.natAbs := by
  have r := h.red
  rw [gcd3] at r
  have a1 : b.natAbs ∣ b'.natAbs * b.natAbs := Nat.dvd_mul_left _ _
  have a2 : b.natAbs ∣ b'.natAbs * x.natAbs := by
    rw [← Int.natAbs_mul, ← e1, Int.natAbs_mul]
    exact Nat.dvd_mul_right _ _
  have a3 : b.natAbs ∣ b'.natAbs * y.natAbs := by
    rw [← Int.natAbs_mul, ← e2, Int.natAbs_mul]
    exact Nat.dvd_mul_right _ _
  have q := Nat.dvd_gcd (Nat.dvd_gcd a1 a2) a3
  rw [Nat.gcd_mul_left, Nat.gcd_mul_left, r, Nat.mul_one] at q
  exact q
theorem nf_eq {b x y b' x' y' : Int} (h : Nf b x y) (h' : Nf b' x' y') (e1 : b * x' = b' * x) (e2 : b * y' = b' * y) : b = b' ∧ x = x' ∧ y = y' := by
  have q := Nat.dvd_antisymm (nf_dvd h h'.pos e1 e2) (nf_dvd h' h.pos e1.symm e2.symm)
  have p := h.pos
  have p' := h'.pos
  have eb : b = b' := by omega
  subst eb
  have b0 : b ≠ 0 := by omega
  exact ⟨rfl, (Int.eq_of_mul_eq_mul_left b0 e1).symm, (Int.eq_of_mul_eq_mul_left b0 e2).symm⟩
/-- in proportion, so written alike -/
theorem low_eq {b x y b' x' y' : Int} (h : b ≠ 0) (h' : b' ≠ 0) (e1 : b * x' = b' * x) (e2 : b * y' = b' * y) : lowL 2 b [x, y] = lowL 2 b' [x', y'] := by
  obtain ⟨g, u, v, w, l, n, g0, b1, x1, y1, _⟩ := low_spec x y h
  obtain ⟨g', u', v', w', l', n', g0', b1', x1', y1', _⟩ := low_spec x' y' h'
  have gg : g * g' ≠ 0 := Int.mul_ne_zero g0 g0'
  have f1 : u * v' = u' * v := by
    refine Int.eq_of_mul_eq_mul_left gg ?_
    rw [b1, x1', b1', x1] at e1
    grind
  have f2 : u * w' = u' * w := by
    refine Int.eq_of_mul_eq_mul_left gg ?_
    rw [b1, y1', b1', y1] at e2
    grind
  obtain ⟨a1, a2, a3⟩ := nf_eq n n' f1 f2
  rw [l, l', a1, a2, a3]
theorem low_trim (b x y : Int) : lowL 2 b (trimI [x, y]) = lowL 2 b [x, y] := by
  have : padL 2 b (trimI [x, y]) = padL 2 b [x, y] := by
    by_cases hy : y = 0
    · rw [hy, show [x, 0] = [x] ++ [0] from rfl, trim_drop]
      by_cases hx : x = 0
      · rw [hx, show [(0 : Int)] = [] ++ [0] from rfl, trim_drop]
        rfl
      · rw [trim_keep (xs := [x]) hx]
        rfl
    · rw [trim_keep (xs := [x, y]) hy]
  unfold lowL
  rw [this]
section
variable {c m u v w u' v' w' : Int}
theorem tot_N : totL 3 [u, v, w] [u', v', w'] = lowL 2 (u * u') [u' * v + u * v', u' * w + u * w'] := by
  show lowL 2 (u * u') (trimI [0 + u' * v - -u * v', 0 + u' * w - -u * w']) = _
  rw [low_trim]
  congr 1
  rw [Int.neg_mul, Int.neg_mul]
  simp only [Int.zero_add, Int.sub_neg]
theorem mul_22 : mulL [v, w] [v', w'] = trimI [v * v', v * w' + w * v', w * w', 0] := by
  show trimI [0 + v * v', 0 + v * w' + w * v', 0 + w * w', 0] = _
  simp only [Int.zero_add]
theorem fld_low {b : Int} {ts : List Int} (h : ts.length < 3) : fldL [c, m, 1] b ts = lowL 2 b ts := by
  unfold fldL
  have : foS [c, m, 1] 10 b ts = (b, ts) := if_pos h
  rw [this]
  rfl
theorem fld_3 {b x y z : Int} (hz : z ≠ 0) : fldL [c, m, 1] b [x, y, z] = lowL 2 b [x - z * c, y - z * m] := by
  unfold fldL
  have e : foT [c, m, 1] [x, y, z] = trimI [x - z * c, y - z * m] := by
    show trimI [0 + 1 * x - z * c, 0 + 1 * y - z * m, 0 + 1 * z - z * 1] = _
    rw [show [0 + 1 * x - z * c, 0 + 1 * y - z * m, 0 + 1 * z - z * 1] = [x - z * c, y - z * m] ++ [0] by simp, trim_drop]
  have l : (trimI [x - z * c, y - z * m]).length < 3 := Nat.lt_of_le_of_lt (trim_len [x - z * c, y - z * m]) (Nat.lt_succ_self 2)
  have s : foS [c, m, 1] 10 b [x, y, z] = (b * 1, trimI [x - z * c, y - z * m]) := by
    show (if ([x, y, z] : List Int).length < 3 then (b, [x, y, z]) else foS [c, m, 1] 9 (b * 1) (foT [c, m, 1] [x, y, z])) = _
    rw [if_neg (show ¬ ([x, y, z] : List Int).length < 3 from Nat.lt_irrefl 3), e]
    exact if_pos l
  rw [s, Int.mul_one]
  exact low_trim _ _ _
/-- a sum of three terms, folded -/
theorem fld_N (b x y z : Int) : fldL [c, m, 1] b (trimI [x, y, z]) = lowL 2 b [x - z * c, y - z * m] := by
  by_cases hz : z = 0
  · rw [hz, show [x, y, 0] = [x, y] ++ [0] from rfl, trim_drop, fld_low (ts := trimI [x, y]) (Nat.lt_of_le_of_lt (trim_len [x, y]) (Nat.lt_succ_self 2)), low_trim]
    simp only [Int.zero_mul, Int.sub_zero]
  · rw [trim_keep (xs := [x, y, z]) hz, fld_3 hz]
theorem pro_N : proL [c, m, 1] [u, v, w] [u', v', w'] = lowL 2 (u * u') [v * v' - w * w' * c, v * w' + w * v' - w * w' * m] := by
  show fldL [c, m, 1] (u * u') (mulL [v, w] [v', w']) = _
  rw [mul_22, show [v * v', v * w' + w * v', w * w', 0] = [v * v', v * w' + w * v', w * w'] ++ [0] from rfl, trim_drop, fld_N]
/-! ### the reciprocal -/
/-- the norm of v + w r -/
def nrm (c m v w : Int) : Int := v * v - m * v * w + c * w * w
theorem reA_1 (w0 : w ≠ 0) : reA [v, w] [c, m, 1] = trimI [w * c, w * m - v] := by
  show trimI [0 + w * c, 0 + w * m - 1 * v, 0 + w * 1 - 1 * w] = _
  rw [show [0 + w * c, 0 + w * m - 1 * v, 0 + w * 1 - 1 * w] = [w * c, w * m - v] ++ [0] by simp, trim_drop]
theorem reB_1 : reB [v, w] [1] [c, m, 1] [] = [0, -1] := by
  show trimI [0, 0 - 1 * 1] = _
  rfl
theorem reA_2 (p q : Int) : reA [v, w] [p, q] = trimI [w * p - q * v] := by
  show trimI [0 + w * p - q * v, 0 + w * q - q * w] = _
  rw [show [0 + w * p - q * v, 0 + w * q - q * w] = [w * p - q * v] ++ [0] by simp; grind, trim_drop]
theorem reB_2 (p q : Int) (w0 : w ≠ 0) : reB [v, w] [1] [p, q] [0, -1] = [-q, -w] := by
  show trimI [0 + w * 0 - q * 1, 0 + w * -1] = _
  rw [show [0 + w * 0 - q * 1, 0 + w * -1] = [-q, -w] by simp, trim_keep (xs := [-q, -w]) (show -w ≠ 0 by omega)]
/-- the inner loop: some multiple of the norm and of what goes with it -/
theorem reI_q (w0 : w ≠ 0) (c0 : c ≠ 0) (n0 : nrm c m v w ≠ 0) : ∃ k l0 l1 : Int, ∃ N : Int, reI [v, w] [1] 10 [c, m, 1] [] = ([N], [l0, l1]) ∧ N ≠ 0 ∧ l1 ≠ 0 ∧ k ≠ 0 ∧ k * N = nrm c m v w ∧ k * l0 = v - m * w ∧ k * l1 = -w ∧
    ((k = 1 ∧ l0 = v - m * w ∧ l1 = -w) ∨ (k = w ∧ N = w * c ∧ l0 = 0 ∧ l1 = -1 ∧ w * m = v)) := by
  have s1 : reI [v, w] [1] 10 [c, m, 1] [] = reI [v, w] [1] 9 (reA [v, w] [c, m, 1]) (reB [v, w] [1] [c, m, 1] []) := if_neg (show ¬ 3 < 2 by decide)
  rw [s1, reA_1 w0, reB_1]
  by_cases q0 : w * m - v = 0
  · have wc : w * c ≠ 0 := Int.mul_ne_zero w0 c0
    rw [q0, show [w * c, 0] = [w * c] ++ [0] from rfl, trim_drop, trim_keep (xs := [w * c]) wc]
    refine ⟨w, 0, -1, w * c, if_pos (show 1 < 2 by decide), wc, by decide, w0, ?_, by rw [Int.mul_comm m w]; omega, by omega, .inr ⟨rfl, rfl, rfl, rfl, by omega⟩⟩
    have ev : v = w * m := by omega
    unfold nrm
    rw [ev]
    grind
  · rw [trim_keep (xs := [w * c, w * m - v]) q0]
    have s2 : reI [v, w] [1] 9 [w * c, w * m - v] [0, -1] = reI [v, w] [1] 8 (reA [v, w] [w * c, w * m - v]) (reB [v, w] [1] [w * c, w * m - v] [0, -1]) := if_neg (show ¬ 2 < 2 by decide)
    have en : w * (w * c) - (w * m - v) * v = nrm c m v w := by
      unfold nrm
      grind
    rw [s2, reA_2, reB_2 _ _ w0, en, trim_keep (xs := [nrm c m v w]) n0]
    refine ⟨1, -(w * m - v), -w, nrm c m v w, if_pos (show 1 < 2 by decide), n0, by omega, by decide, by omega, ?_, by omega, .inl ⟨rfl, ?_, rfl⟩⟩
    · rw [Int.mul_comm m w]; omega
    · rw [Int.mul_comm m w]; omega
end
end Xq

/-! Quotients of numbers of quadratic shapes. -/
namespace Xq
open PySem PySem.Spec PyProof.Rows L2
theorem trim3 (x y : Int) : trimI [x, y, 0] = trimI [x, y] := trim_drop [x, y]
theorem trim2 (x : Int) : trimI [x, 0] = trimI [x] := trim_drop [x]
theorem trim1 : trimI [0] = [] := rfl
theorem mul_k3 (x y z k : Int) : mulL [x, y, z] [k] = trimI [x * k, y * k, z * k] := by
  show trimI [0 + x * k, 0 + y * k, 0 + z * k, 0] = _
  rw [show [0 + x * k, 0 + y * k, 0 + z * k, 0] = [x * k, y * k, z * k] ++ [0] by simp, trim_drop]
theorem mul_k2 (x y k : Int) : mulL [x, y] [k] = trimI [x * k, y * k] := by
  show trimI [0 + x * k, 0 + y * k, 0] = _
  rw [show [0 + x * k, 0 + y * k, 0] = [x * k, y * k] ++ [0] by simp, trim_drop]
theorem mul_k1 (x k : Int) : mulL [x] [k] = trimI [x * k] := by
  show trimI [0 + x * k, 0] = _
  rw [show [0 + x * k, 0] = [x * k] ++ [0] by simp, trim_drop]
theorem mul_k0 (k : Int) : mulL [] [k] = [] := rfl
theorem mul_tk (x y z k : Int) : mulL (trimI [x, y, z]) [k] = trimI [x * k, y * k, z * k] := by
  by_cases hz : z = 0
  · rw [hz, trim3, Int.zero_mul, trim3]
    by_cases hy : y = 0
    · rw [hy, trim2, Int.zero_mul, trim2]
      by_cases hx : x = 0
      · rw [hx, trim1, Int.zero_mul, trim1]
        rfl
      · rw [trim_keep (xs := [x]) hx, mul_k1]
    · rw [trim_keep (xs := [x, y]) hy, mul_k2]
  · rw [trim_keep (xs := [x, y, z]) hz, mul_k3]
theorem reO_end {n : Nat} {one lf ot rt : List Int} (h : ot.length ≤ 1) : reO (n + 1) one lf ot rt = (rt, ot) := by
  rw [reO, if_pos h]
theorem reO_step {n : Nat} {one lf ot rt o l : List Int} {G : Nat} (h : ¬ ot.length ≤ 1) (e : reI ot rt 10 one lf = (o, l)) (g : gcdL (o ++ l) = G) : reO (n + 1) one lf ot rt = reO n ot rt (dvA G o) (dvA G l) := by
  rw [reO, if_neg h, e]
  show reO n ot rt (dvA (gcdL (o ++ l)) o) (dvA (gcdL (o ++ l)) l) = _
  rw [g]
section
variable {c m u v w u' v' w' : Int}
theorem rec_0 (v0 : v' ≠ 0) : recL [c, m, 1] (trimI [v', 0]) = ([1], [v']) := by
  rw [trim2, trim_keep (xs := [v']) v0]
  exact reO_end (n := 9) (Nat.le_refl 1)
/-- the reciprocal, where r stands in the divisor -/
theorem rec_1 (w0 : w' ≠ 0) (c0 : c ≠ 0) (n0 : nrm c m v' w' ≠ 0) : ∃ N l0 l1 : Int, recL [c, m, 1] (trimI [v', w']) = ([l0, l1], [N]) ∧ N ≠ 0 ∧ l1 ≠ 0 ∧ ∃ k : Int, k ≠ 0 ∧ k * N = nrm c m v' w' ∧ k * l0 = v' - m * w' ∧ k * l1 = -w' := by
  obtain ⟨k, l0, l1, N, e, N0, l10, k0, e1, e2, e3, _⟩ := reI_q (v := v') w0 c0 n0
  have gp : 0 < gcdL [N, l0, l1] := (gcd_head N0).1
  obtain ⟨G, hG⟩ : ∃ G, G = gcdL [N, l0, l1] := ⟨_, rfl⟩
  have s1 : recL [c, m, 1] (trimI [v', w']) = reO 9 [v', w'] [1] (dvA G [N]) (dvA G [l0, l1]) := by
    rw [trim_keep (xs := [v', w']) w0]
    exact reO_step (n := 9) (Nat.not_succ_le_self 1) e hG.symm
  rw [← hG] at gp
  have d1 : (G : Int) ∣ N := Int.ofNat_dvd_left.mpr (by rw [hG, gcd3]; exact Nat.dvd_trans (Nat.gcd_dvd_left _ _) (Nat.gcd_dvd_left _ _))
  have d2 : (G : Int) ∣ l0 := Int.ofNat_dvd_left.mpr (by rw [hG, gcd3]; exact Nat.dvd_trans (Nat.gcd_dvd_left _ _) (Nat.gcd_dvd_right _ _))
  have d3 : (G : Int) ∣ l1 := Int.ofNat_dvd_left.mpr (by rw [hG, gcd3]; exact Nat.gcd_dvd_right _ _)
  have m1 := Int.fdiv_mul_cancel d1
  have m2 := Int.fdiv_mul_cancel d2
  have m3 := Int.fdiv_mul_cancel d3
  have G0 : (G : Int) ≠ 0 := by omega
  have s2 : reO 9 [v', w'] [1] (dvA G [N]) (dvA G [l0, l1]) = (dvA G [l0, l1], dvA G [N]) := reO_end (n := 8) (show (dvA G [N]).length ≤ 1 from Nat.le_refl 1)
  refine ⟨N.fdiv G, l0.fdiv G, l1.fdiv G, ?_, ?_, ?_, k * G, Int.mul_ne_zero k0 G0, ?_, ?_, ?_⟩
  · rw [s1, s2]
    rfl
  · intro z
    rw [z, Int.zero_mul] at m1
    exact N0 m1.symm
  · intro z
    rw [z, Int.zero_mul] at m3
    exact l10 m3.symm
  · rw [Int.mul_assoc, Int.mul_comm (G : Int), m1, e1]
  · rw [Int.mul_assoc, Int.mul_comm (G : Int), m2, e2]
  · rw [Int.mul_assoc, Int.mul_comm (G : Int), m3, e3]
theorem quo_N (u0 : u ≠ 0) (u0' : u' ≠ 0) (c0 : c ≠ 0) (n0 : nrm c m v' w' ≠ 0) :
    quoL [c, m, 1] [u, v, w] [u', v', w'] = lowL 2 (u * nrm c m v' w') [u' * (v * (v' - m * w') + w * w' * c), u' * (w * v' - v * w')] := by
  have e0 : ∀ R C, recL [c, m, 1] (trimI [v', w']) = (R, [C]) → quoL [c, m, 1] [u, v, w] [u', v', w'] = fldL [c, m, 1] (u * C) (mulL (mulL [v, w] R) [u']) := fun R C e => by
    show fldL [c, m, 1] (u * (recL [c, m, 1] (trimI [v', w'])).2.getD 0 0) (mulL (mulL [v, w] (recL [c, m, 1] (trimI [v', w'])).1) [u']) = _
    rw [e]
    rfl
  by_cases w0 : w' = 0
  · subst w0
    have v0 : v' ≠ 0 := fun z => n0 (by unfold nrm; rw [z]; simp)
    rw [e0 _ _ (rec_0 v0)]
    have q1 : mulL [v, w] [1] = trimI [v, w, 0] := by rw [mul_k2, trim3, Int.mul_one, Int.mul_one]
    rw [q1, mul_tk, fld_N]
    refine low_eq (Int.mul_ne_zero u0 v0) (Int.mul_ne_zero u0 n0) ?_ ?_
    · unfold nrm; grind
    · unfold nrm; grind
  · obtain ⟨N, l0, l1, e, N0, l10, k, k0, e1, e2, e3⟩ := rec_1 (m := m) w0 c0 n0
    rw [e0 _ _ e, mul_22, show [v * l0, v * l1 + w * l0, w * l1, 0] = [v * l0, v * l1 + w * l0, w * l1] ++ [0] from rfl, trim_drop, mul_tk, fld_N]
    refine low_eq (Int.mul_ne_zero u0 N0) (Int.mul_ne_zero u0 n0) ?_ ?_
    · rw [← e1, ← e2]
      have : w' = -(k * l1) := by omega
      rw [this]
      grind
    · have h1 : v' = k * l0 + m * w' := by omega
      have h2 : w' = -(k * l1) := by omega
      rw [← e1, h1, h2]
      grind
end
end Xq

/-! Nothing grows too great on the way. -/
namespace Xq
open PySem PySem.Spec PyProof.Rows L2
theorem smB_all {n : Nat} {xs : List Int} (h : ∀ x ∈ xs, Sm n x) : smB n xs = true := List.all_eq_true.mpr fun x hx => decide_eq_true (h x hx)
theorem trim_mem {xs : List Int} {x : Int} (h : x ∈ trimI xs) : x ∈ xs := List.mem_of_mem_take h
theorem smB_trim {n : Nat} {xs : List Int} (h : smB n xs = true) : smB n (trimI xs) = true := smB_all fun x hx => smB_ok h (Nat.le_refl _) x (trim_mem hx)
theorem smB_1 {n : Nat} {x : Int} (h1 : Sm n x) : smB n [x] = true := smB_all fun z hz => by
  rw [List.mem_singleton.mp hz]; exact h1
theorem smB_2 {n : Nat} {x y : Int} (h1 : Sm n x) (h2 : Sm n y) : smB n [x, y] = true := smB_all fun z hz => by
  simp only [List.mem_cons, List.not_mem_nil, or_false] at hz
  rcases hz with rfl | rfl <;> assumption
theorem smB_3 {n : Nat} {x y z : Int} (h1 : Sm n x) (h2 : Sm n y) (h3 : Sm n z) : smB n [x, y, z] = true := smB_all fun t ht => by
  simp only [List.mem_cons, List.not_mem_nil, or_false] at ht
  rcases ht with rfl | rfl | rfl <;> assumption
theorem sm_dvd {n : Nat} {k x y : Int} (h : k * x = y) (k0 : k ≠ 0) (hy : Sm n y) : Sm n x := by
  have e := congrArg Int.natAbs h
  rw [Int.natAbs_mul] at e
  have : x.natAbs ≤ k.natAbs * x.natAbs := Nat.le_mul_of_pos_left _ (by omega)
  have hy : y.natAbs < 2 ^ n := hy
  show x.natAbs < 2 ^ n
  omega
section
variable {c m u v w u' v' w' : Int}
theorem low_ok {b : Int} {ts : List Int} (h : ts.length < 3) (b0 : b ≠ 0) (sb : Sm 4000 b) : okLow 2 b ts = true := by
  unfold okLow
  rw [decide_eq_true (show 2 ≤ 8 by decide), decide_eq_true (show ts.length ≤ 2 by omega), decide_eq_false b0, show smI 8000 b = true from decide_eq_true (sm_le sb (by decide))]
  rfl
theorem okFo_end {b : Int} {ts : List Int} {n : Nat} (h : ts.length < 3) (b0 : b ≠ 0) (sb : Sm 4000 b) : okFo [c, m, 1] (n + 1) b ts = true := by
  unfold okFo
  rw [show decide (ts.length < [c, m, 1].length) = true from decide_eq_true h, show okLow ([c, m, 1].length - 1) b ts = true from low_ok h b0 sb]
  rfl
theorem okFo_step {b : Int} {ts : List Int} {n : Nat} (h : ¬ ts.length < 3) (h1 : smB 4000 ts = true) (h2 : ts.length ≤ 100) (sb : Sm 4000 b) (h3 : okFo [c, m, 1] n (b * 1) (foT [c, m, 1] ts) = true) : okFo [c, m, 1] (n + 1) b ts = true := by
  unfold okFo
  rw [show decide (ts.length < [c, m, 1].length) = false from decide_eq_false h, h1, decide_eq_true h2, show smI 4000 b = true from decide_eq_true sb]
  exact h3
theorem okFo_N {b x y z : Int} (b0 : b ≠ 0) (sb : Sm 3900 b) (sx : Sm 3900 x) (sy : Sm 3900 y) (sz : Sm 3900 z) : okFo [c, m, 1] 10 b (trimI [x, y, z]) = true := by
  have sb4 : Sm 4000 b := sm_le sb (by decide)
  by_cases hz : z = 0
  · rw [hz, trim3]
    exact okFo_end (n := 9) (Nat.lt_of_le_of_lt (trim_len [x, y]) (Nat.lt_succ_self 2)) b0 sb4
  · rw [trim_keep (xs := [x, y, z]) hz]
    refine okFo_step (n := 9) (Nat.lt_irrefl 3) (smB_3 (sm_le sx (by decide)) (sm_le sy (by decide)) (sm_le sz (by decide))) (show 3 ≤ 100 by decide) sb4 ?_
    have e : foT [c, m, 1] [x, y, z] = trimI [x - z * c, y - z * m] := by
      show trimI [0 + 1 * x - z * c, 0 + 1 * y - z * m, 0 + 1 * z - z * 1] = _
      rw [show [0 + 1 * x - z * c, 0 + 1 * y - z * m, 0 + 1 * z - z * 1] = [x - z * c, y - z * m] ++ [0] by simp, trim_drop]
    rw [e, Int.mul_one]
    exact okFo_end (n := 8) (Nat.lt_of_le_of_lt (trim_len [x - z * c, y - z * m]) (Nat.lt_succ_self 2)) b0 sb4
theorem okMul_22 (h1 : Sm 3900 v) (h2 : Sm 3900 w) (h3 : Sm 3900 v') (h4 : Sm 3900 w') : okMul [v, w] [v', w'] = true := by
  unfold okMul
  rw [smB_2 (sm_le h1 (by decide)) (sm_le h2 (by decide)), smB_2 (sm_le h3 (by decide)) (sm_le h4 (by decide))]
  rfl
theorem okPro_N (sc : Sm 30 c) (sm : Sm 30 m) (p : u ≠ 0) (p' : u' ≠ 0) (su : Sm 300 u) (sv : Sm 300 v) (sw : Sm 300 w) (su' : Sm 300 u') (sv' : Sm 300 v') (sw' : Sm 300 w') : okPro [c, m, 1] [u, v, w] [u', v', w'] = true := by
  unfold okPro
  have e : mulL [v, w] [v', w'] = trimI [v * v', v * w' + w * v', w * w'] := by
    rw [mul_22, show [v * v', v * w' + w * v', w * w', 0] = [v * v', v * w' + w * v', w * w'] ++ [0] from rfl, trim_drop]
  show (okMul [v, w] [v', w'] && smB 4000 [c, m, 1] && okFo [c, m, 1] 10 (u * u') (mulL [v, w] [v', w'])) = true
  rw [okMul_22 (sm_le sv (by decide)) (sm_le sw (by decide)) (sm_le sv' (by decide)) (sm_le sw' (by decide)), smB_3 (sm_le sc (by decide)) (sm_le sm (by decide)) (show Sm 4000 1 from Nat.one_lt_two_pow (by decide)), e,
    okFo_N (Int.mul_ne_zero p p') (sm_le (sm_mul su su') (by decide)) (sm_le (sm_mul sv sv') (by decide)) (sm_le (sm_add (a := 600) (sm_mul sv sw') (sm_mul sw sv')) (by decide)) (sm_le (sm_mul sw sw') (by decide))]
  rfl
theorem okRi_end {ot rt one lf : List Int} {n : Nat} (h : one.length < ot.length) : okRi ot rt (n + 1) one lf = true := by
  unfold okRi
  rw [decide_eq_true h]
  rfl
theorem okRi_step {ot rt one lf : List Int} {n : Nat} (h : ¬ one.length < ot.length) (h1 : smB 4000 one = true) (h2 : smB 4000 lf = true) (h3 : one.length ≤ 100) (h4 : lf.length ≤ 100) (h5 : okRi ot rt n (reA ot one) (reB ot rt one lf) = true) : okRi ot rt (n + 1) one lf = true := by
  unfold okRi
  rw [decide_eq_false h, h1, h2, decide_eq_true h3, decide_eq_true h4, h5]
  rfl
theorem okRi_q (w0 : w ≠ 0) (sc : Sm 30 c) (sm : Sm 30 m) (sv : Sm 300 v) (sw : Sm 300 w) : okRi [v, w] [1] 10 [c, m, 1] [] = true := by
  have s1 : Sm 4000 1 := Nat.one_lt_two_pow (by decide)
  refine okRi_step (n := 9) (show ¬ 3 < 2 by decide) (smB_3 (sm_le sc (by decide)) (sm_le sm (by decide)) s1) rfl (show 3 ≤ 100 by decide) (Nat.zero_le _) ?_
  rw [reA_1 w0, reB_1]
  by_cases q0 : w * m - v = 0
  · rw [q0, trim2]
    exact okRi_end (n := 8) (Nat.lt_of_le_of_lt (trim_len [w * c]) (Nat.lt_succ_self 1))
  · rw [trim_keep (xs := [w * c, w * m - v]) q0]
    have a1 : Sm 4000 (w * c) := sm_le (sm_mul sw sc) (by decide)
    have a2 : Sm 4000 (w * m - v) := sm_le (sm_sub (a := 330) (sm_mul sw sm) (sm_le sv (by decide))) (by decide)
    refine okRi_step (n := 8) (Nat.lt_irrefl 2) (smB_2 a1 a2) (smB_2 (show Sm 4000 0 from Nat.two_pow_pos 4000) (show Sm 4000 (-1) from Nat.one_lt_two_pow (by decide))) (show 2 ≤ 100 by decide) (show 2 ≤ 100 by decide) ?_
    rw [reA_2]
    exact okRi_end (n := 7) (Nat.lt_of_le_of_lt (trim_len [w * (w * c) - (w * m - v) * v]) (Nat.lt_succ_self 1))
theorem okRo_end {n : Nat} {one lf ot rt : List Int} (h : ot.length = 1) : okRo (n + 1) one lf ot rt = true := by
  unfold okRo
  rw [decide_eq_true h]
  rfl
theorem okRo_step {n G : Nat} {one lf ot rt o l : List Int} (h : 1 < ot.length) (h1 : smB 4000 ot = true) (h2 : smB 4000 rt = true) (h3 : ot.length ≤ 100) (h4 : rt.length ≤ 100) (h5 : okRi ot rt 10 one lf = true) (e : reI ot rt 10 one lf = (o, l)) (h6 : o.length ≤ 100) (h7 : l.length ≤ 100)
    (g : gcdL (o ++ l) = G) (h8 : 0 < G) (h9 : G < 2 ^ 8000) (h10 : okRo n ot rt (dvA G o) (dvA G l) = true) : okRo (n + 1) one lf ot rt = true := by
  unfold okRo
  rw [e]
  show (_ || (decide (1 < ot.length) && smB 4000 ot && smB 4000 rt && decide (ot.length ≤ 100) && decide (rt.length ≤ 100) && okRi ot rt 10 one lf && decide (o.length ≤ 100) && decide (l.length ≤ 100) && decide (0 < gcdL (o ++ l)) && decide (gcdL (o ++ l) < 2 ^ 8000) && okRo n ot rt (dvA (gcdL (o ++ l)) o) (dvA (gcdL (o ++ l)) l))) = true
  rw [g, decide_eq_true h, h1, h2, decide_eq_true h3, decide_eq_true h4, h5, decide_eq_true h6, decide_eq_true h7, decide_eq_true h8, decide_eq_true h9, h10]
  simp
theorem okRec_q (c0 : c ≠ 0) (n0 : nrm c m v w ≠ 0) (sc : Sm 30 c) (sm : Sm 30 m) (sv : Sm 300 v) (sw : Sm 300 w) : okRec [c, m, 1] (trimI [v, w]) = true := by
  unfold okRec
  by_cases w0 : w = 0
  · have v0 : v ≠ 0 := fun z => n0 (by unfold nrm; rw [z, w0]; simp)
    rw [w0, trim2, trim_keep (xs := [v]) v0]
    exact okRo_end (n := 9) rfl
  · rw [trim_keep (xs := [v, w]) w0]
    obtain ⟨k, l0, l1, N, e, N0, l10, k0, e1, e2, e3, _⟩ := reI_q (v := v) w0 c0 n0
    have sn : Sm 700 (nrm c m v w) := by
      unfold nrm
      exact sm_le (sm_add (a := 640) (sm_le (sm_sub (a := 630) (sm_le (sm_mul sv sv) (by decide)) (sm_le (sm_mul (sm_mul sm sv) sw) (by decide))) (by decide)) (sm_le (sm_mul (sm_mul sc sw) sw) (by decide))) (by decide)
    have sN : Sm 700 N := sm_dvd e1 k0 sn
    refine okRo_step (n := 9) (Nat.lt_succ_self 1) (smB_2 (sm_le sv (by decide)) (sm_le sw (by decide))) (smB_1 (show Sm 4000 1 from Nat.one_lt_two_pow (by decide))) (show 2 ≤ 100 by decide) (show 1 ≤ 100 by decide) (okRi_q w0 sc sm sv sw) e (show 1 ≤ 100 by decide) (show 2 ≤ 100 by decide) (G := gcdL [N, l0, l1]) rfl (gcd_head N0).1 ?_ (okRo_end (n := 8) rfl)
    exact Nat.lt_of_le_of_lt (gcd_head N0).2 (show N.natAbs < 2 ^ 8000 from sm_le sN (by decide))
theorem okQuo_N (c0 : c ≠ 0) (n0 : nrm c m v' w' ≠ 0) (sc : Sm 30 c) (sm : Sm 30 m) (p : u ≠ 0) (p' : u' ≠ 0) (su : Sm 300 u) (sv : Sm 300 v) (sw : Sm 300 w) (su' : Sm 300 u') (sv' : Sm 300 v') (sw' : Sm 300 w') : okQuo [c, m, 1] [u, v, w] [u', v', w'] = true := by
  have s1 : Sm 4000 1 := Nat.one_lt_two_pow (by decide)
  have main : ∀ R C, recL [c, m, 1] (trimI [v', w']) = (R, [C]) → Sm 800 C → C ≠ 0 → (∃ x y z, mulL [v, w] R = trimI [x, y, z] ∧ Sm 800 x ∧ Sm 800 y ∧ Sm 800 z) → okMul [v, w] R = true → okQuo [c, m, 1] [u, v, w] [u', v', w'] = true := fun R C e sC C0 hx o1 => by
    obtain ⟨x, y, z, ex, sx, sy, sz⟩ := hx
    have er : qR [c, m, 1] [u', v', w'] = R := by
      show (recL [c, m, 1] (trimI [v', w'])).1 = _
      rw [e]
    have ec : qC' [c, m, 1] [u', v', w'] = C := by
      show (recL [c, m, 1] (trimI [v', w'])).2.getD 0 0 = _
      rw [e]
      rfl
    have et : qT [c, m, 1] [u, v, w] [u', v', w'] = trimI [x * u', y * u', z * u'] := by
      show mulL (mulL [v, w] (qR [c, m, 1] [u', v', w'])) [u'] = _
      rw [er, ex, mul_tk]
    unfold okQuo
    rw [er, ec, et]
    show (okRec [c, m, 1] (trimI [v', w']) && okMul [v, w] R && okMul (mulL [v, w] R) [u'] && smI 4000 C && smB 4000 [c, m, 1] && okFo [c, m, 1] 10 (u * C) (trimI [x * u', y * u', z * u'])) = true
    have o2 : okMul (mulL [v, w] R) [u'] = true := by
      rw [ex]
      unfold okMul
      rw [smB_trim (smB_3 (sm_le sx (show 800 ≤ 4000 by decide)) (sm_le sy (by decide)) (sm_le sz (by decide))), smB_1 (sm_le su' (by decide)), decide_eq_true (show (trimI [x, y, z]).length ≤ 100 from Nat.le_trans (trim_len [x, y, z]) (show 3 ≤ 100 by decide))]
      rfl
    rw [okRec_q c0 n0 sc sm sv' sw', o1, o2, show smI 4000 C = true from decide_eq_true (sm_le sC (by decide)), smB_3 (sm_le sc (by decide)) (sm_le sm (by decide)) s1,
      okFo_N (Int.mul_ne_zero p C0) (sm_le (sm_mul su sC) (by decide)) (sm_le (sm_mul sx su') (by decide)) (sm_le (sm_mul sy su') (by decide)) (sm_le (sm_mul sz su') (by decide))]
    rfl
  by_cases w0 : w' = 0
  · subst w0
    have v0 : v' ≠ 0 := fun z => n0 (by unfold nrm; rw [z]; simp)
    refine main _ _ (rec_0 v0) (sm_le sv' (by decide)) v0 ⟨v, w, 0, ?_, sm_le sv (by decide), sm_le sw (by decide), Nat.two_pow_pos 800⟩ ?_
    · rw [mul_k2, trim3, Int.mul_one, Int.mul_one]
    · unfold okMul
      rw [smB_2 (sm_le sv (show 300 ≤ 4000 by decide)) (sm_le sw (by decide)), smB_1 s1]
      rfl
  · obtain ⟨N, l0, l1, e, N0, l10, k, k0, e1, e2, e3⟩ := rec_1 (m := m) w0 c0 n0
    have sn : Sm 700 (nrm c m v' w') := by
      unfold nrm
      exact sm_le (sm_add (a := 640) (sm_le (sm_sub (a := 630) (sm_le (sm_mul sv' sv') (by decide)) (sm_le (sm_mul (sm_mul sm sv') sw') (by decide))) (by decide)) (sm_le (sm_mul (sm_mul sc sw') sw') (by decide))) (by decide)
    have q0 : Sm 340 l0 := sm_dvd e2 k0 (sm_le (sm_sub (a := 330) (sm_le sv' (by decide)) (sm_mul sm sw')) (by decide))
    have q1 : Sm 300 l1 := sm_dvd e3 k0 (sm_neg sw')
    refine main _ _ e (sm_le (sm_dvd e1 k0 sn) (by decide)) N0 ⟨v * l0, v * l1 + w * l0, w * l1, ?_, sm_le (sm_mul sv q0) (by decide), sm_le (sm_add (a := 640) (sm_le (sm_mul sv q1) (by decide)) (sm_mul sw q0)) (by decide), sm_le (sm_mul sw q1) (by decide)⟩ ?_
    · rw [mul_22, show [v * l0, v * l1 + w * l0, w * l1, 0] = [v * l0, v * l1 + w * l0, w * l1] ++ [0] from rfl, trim_drop]
    · exact okMul_22 (sm_le sv (by decide)) (sm_le sw (by decide)) (sm_le q0 (by decide)) (sm_le q1 (by decide))
end
end Xq

/-! Equations x x + m x + c with two roots above 0: their floors, the ends of a number of the one and of its mirror of the other. -/
namespace Xq
open PySem PySem.Spec PyProof.Rows L2
theorem sq_lt_iff9 {a b : Int} (ha : 0 ≤ a) (hb : 0 ≤ b) (h : a * a < b * b) : a < b := by
  rcases Int.lt_or_le a b with q | q
  · exact q
  · have := Int.mul_le_mul q q hb ha
    omega
/-- both roots' floors, mirrored -/
theorem fl_sum {B D P f g : Int} (hP : 0 < P)
    (a1 : (2 * (f + 1) - B * P) * (2 * (f + 1) - B * P) < D * (P * P)) (a2 : D * (P * P) < (2 * f - B * P) * (2 * f - B * P))
    (b1 : (2 * g - B * P) * (2 * g - B * P) < D * (P * P)) (b2 : D * (P * P) < (2 * (g + 1) - B * P) * (2 * (g + 1) - B * P)) : f + g + 1 = B * P := by
  obtain ⟨x, hx⟩ : ∃ x, x = B * P - 2 * (f + 1) := ⟨_, rfl⟩
  obtain ⟨y, hy⟩ : ∃ y, y = 2 * g - B * P := ⟨_, rfl⟩
  obtain ⟨w, hw⟩ : ∃ w, w = D * (P * P) := ⟨_, rfl⟩
  have e1 : (2 * (f + 1) - B * P) * (2 * (f + 1) - B * P) = x * x := by rw [hx]; grind
  have e2 : (2 * f - B * P) * (2 * f - B * P) = (x + 2) * (x + 2) := by rw [hx]; grind
  have e3 : (2 * g - B * P) * (2 * g - B * P) = y * y := by rw [hy]
  have e4 : (2 * (g + 1) - B * P) * (2 * (g + 1) - B * P) = (y + 2) * (y + 2) := by rw [hy]; grind
  rw [e1, ← hw] at a1
  rw [e2, ← hw] at a2
  rw [e3, ← hw] at b1
  rw [e4, ← hw] at b2
  clear e1 e2 e3 e4 hw
  have x1 : -1 < x := by
    have : (x + 2) * (x + 2) = x * x + 4 * x + 4 := by grind
    omega
  have y1 : -1 < y := by
    have : (y + 2) * (y + 2) = y * y + 4 * y + 4 := by grind
    omega
  have q1 := sq_lt_iff9 (a := x) (b := y + 2) (by omega) (by omega) (by omega)
  have q2 := sq_lt_iff9 (a := y) (b := x + 2) (by omega) (by omega) (by omega)
  have : x - y = 2 * (B * P - f - g - 1) := by omega
  omega
/-- far enough, 0 does not lie between the ends of v + w r -/
theorem no_str2 {B c P F v w : Int} (B0 : 0 ≤ B) (B1 : B ≤ 62) (hP : 0 < P) (f0 : 0 ≤ F) (f1 : F ≤ B * P) (hX : (F * F - B * P * F + c * (P * P)).natAbs ≤ (2 * F + 1 - B * P).natAbs)
    (nz : v * v + B * v * w + c * w * w ≠ 0) (hw : w.natAbs ≤ 2 ^ 200) (hPP : 2 ^ 512 ≤ P) (hZ : (v * P + w * F).natAbs ≤ w.natAbs) : False := by
  obtain ⟨Z, eZ⟩ : ∃ Z, Z = v * P + w * F := ⟨_, rfl⟩
  obtain ⟨X, eX⟩ : ∃ X, X = F * F - B * P * F + c * (P * P) := ⟨_, rfl⟩
  obtain ⟨N, eN⟩ : ∃ N, N = v * v + B * v * w + c * w * w := ⟨_, rfl⟩
  have key : Z * (Z + w * (B * P - 2 * F)) = P * P * N - w * w * X := by
    rw [eZ, eX, eN]
    grind
  rw [← eX] at hX
  rw [← eN] at nz
  rw [← eZ] at hZ
  have BP : B * P ≤ 62 * P := Int.mul_le_mul_of_nonneg_right B1 (Int.le_of_lt hP)
  have BP0 : 0 ≤ B * P := Int.mul_nonneg B0 (Int.le_of_lt hP)
  clear eZ eX eN
  have hX2 : X.natAbs ≤ 63 * P.natAbs := by omega
  have hG : (B * P - 2 * F).natAbs ≤ 62 * P.natAbs := by omega
  have h1 : (P * P * N).natAbs ≤ w.natAbs * (w.natAbs + w.natAbs * (62 * P.natAbs)) + w.natAbs * w.natAbs * (63 * P.natAbs) := by
    have e : P * P * N = Z * (Z + w * (B * P - 2 * F)) + w * w * X := by omega
    rw [e]
    refine Nat.le_trans (Int.natAbs_add_le _ _) (Nat.add_le_add ?_ ?_)
    · rw [Int.natAbs_mul]
      refine Nat.mul_le_mul hZ (Nat.le_trans (Int.natAbs_add_le _ _) (Nat.add_le_add hZ ?_))
      rw [Int.natAbs_mul]
      exact Nat.mul_le_mul_left _ hG
    · rw [Int.natAbs_mul, Int.natAbs_mul]
      exact Nat.mul_le_mul_left _ hX2
  have h2 : P.natAbs * P.natAbs ≤ (P * P * N).natAbs := by
    rw [Int.natAbs_mul, Int.natAbs_mul]
    exact Nat.le_mul_of_pos_right _ (by omega)
  have p1 : 2 ^ 512 ≤ P.natAbs := by
    have e : ((2 ^ 512 : Nat) : Int) = (2 : Int) ^ 512 := Int.natCast_pow 2 512
    have : ((2 ^ 512 : Nat) : Int) ≤ P := by rw [e]; exact hPP
    omega
  have ww : w.natAbs * w.natAbs ≤ 2 ^ 400 := by
    have := Nat.mul_le_mul hw hw
    exact Nat.le_trans this (by decide)
  generalize w.natAbs = W at *
  generalize P.natAbs = p at *
  have h3 : W * (W + W * (62 * p)) + W * W * (63 * p) = W * W + 125 * (W * W * p) := by grind
  rw [h3] at h1
  have h4 : W * W * p ≤ 2 ^ 400 * p := Nat.mul_le_mul_right _ ww
  have h5 : 2 ^ 512 * p ≤ p * p := Nat.mul_le_mul_right _ p1
  have e5 : (2 : Nat) ^ 512 = 2 ^ 400 * 2 ^ 112 := by decide +kernel
  have e6 : (2 : Nat) ^ 112 = 1000 + (2 ^ 112 - 1000) := by decide +kernel
  rw [e5, e6, Nat.mul_add, Nat.add_mul] at h5
  have e7 : 2 ^ 400 * 1000 * p = 1000 * (2 ^ 400 * p) := by grind
  rw [e7] at h5
  have h6 : 2 ^ 400 ≤ 2 ^ 400 * p := Nat.le_mul_of_pos_right _ (by
    have : 0 < 2 ^ 512 := Nat.two_pow_pos 512
    omega)
  have : 0 < (2 : Nat) ^ 400 := Nat.two_pow_pos 400
  generalize 2 ^ 400 * (2 ^ 112 - 1000) * p = R at *
  generalize 2 ^ 400 * p = T at *
  generalize (2 : Nat) ^ 400 = U at *
  omega

theorem sq_nn (x : Int) : 0 ≤ x * x := by
  rcases Int.le_total 0 x with h | h
  · exact Int.mul_nonneg h h
  · exact Int.mul_nonneg_of_nonpos_of_nonpos h h
/-- no fraction's square is a whole number that is no square -/
theorem irr {n a b : Int} (ns : ∀ v : Int, v * v ≠ n) (b0 : b ≠ 0) : a * a - n * b * b ≠ 0 := fun e => by
  have h : a * a = n * (b * b) := by
    rw [← Int.mul_assoc]; omega
  have hN : a.natAbs * a.natAbs = n.natAbs * (b.natAbs * b.natAbs) := by
    rw [← Int.natAbs_mul, ← Int.natAbs_mul, ← Int.natAbs_mul, h]
  have n0 : 0 ≤ n := by
    rcases Int.lt_or_le n 0 with q | q
    · have bb : 0 < b * b := by
        rcases Int.lt_or_le 0 b with z | z
        · exact Int.mul_pos z z
        · exact Int.mul_pos_of_neg_of_neg (by omega) (by omega)
      have := Int.mul_neg_of_neg_of_pos q bb
      have := sq_nn a
      omega
    · exact q
  have bp : 0 < b.natAbs := by omega
  have gp : 0 < Nat.gcd a.natAbs b.natAbs := Nat.gcd_pos_of_pos_right _ bp
  obtain ⟨x, hx⟩ := Nat.gcd_dvd_left a.natAbs b.natAbs
  obtain ⟨y, hy⟩ := Nat.gcd_dvd_right a.natAbs b.natAbs
  have cp : Nat.Coprime x y := by
    have q := Nat.coprime_div_gcd_div_gcd gp
    rwa [Nat.div_eq_of_eq_mul_right gp hx, Nat.div_eq_of_eq_mul_right gp hy] at q
  generalize Nat.gcd a.natAbs b.natAbs = d at *
  rw [hx, hy] at hN
  have h2 : x * x = n.natAbs * (y * y) := by
    have e1 : d * x * (d * x) = d * d * (x * x) := by grind
    have e2 : n.natAbs * (d * y * (d * y)) = d * d * (n.natAbs * (y * y)) := by grind
    rw [e1, e2] at hN
    exact Nat.eq_of_mul_eq_mul_left (Nat.mul_pos gp gp) hN
  have dv : y ∣ x * x := ⟨n.natAbs * y, by rw [h2]; grind⟩
  have y1 : y ∣ x := (cp.symm).dvd_of_dvd_mul_left dv
  have y2 : y = 1 := Nat.Coprime.eq_one_of_dvd cp.symm y1
  rw [y2] at h2
  refine ns (x : Int) ?_
  have : ((x * x : Nat) : Int) = ((n.natAbs * (1 * 1) : Nat) : Int) := by rw [h2]
  rw [Int.natCast_mul] at this
  omega

/-- the conditions on c, m -/
structure Eb (c m : Int) : Prop where
  m1 : -62 ≤ m
  m2 : m ≤ -3
  c1 : 1 ≤ c
  c4 : 4 * c < m * m
  ns : ∀ v : Int, v * v ≠ m * m - 4 * c
/-- the floor of the root of rank r at b bits -/
structure Fb (c m r : Int) (F : Nat → Int) (b : Nat) : Prop where
  a0 : r = 0 → (2 * (F b + 1) + m * 2 ^ b) * (2 * (F b + 1) + m * 2 ^ b) < (m * m - 4 * c) * (2 ^ b * 2 ^ b) ∧ (m * m - 4 * c) * (2 ^ b * 2 ^ b) < (2 * F b + m * 2 ^ b) * (2 * F b + m * 2 ^ b)
  a1 : r = 1 → (2 * F b + m * 2 ^ b) * (2 * F b + m * 2 ^ b) < (m * m - 4 * c) * (2 ^ b * 2 ^ b) ∧ (m * m - 4 * c) * (2 ^ b * 2 ^ b) < (2 * (F b + 1) + m * 2 ^ b) * (2 * (F b + 1) + m * 2 ^ b)
  f0 : 0 ≤ F b
  f1 : F b ≤ -m * 2 ^ b
  sv : b ≤ 800 → Sm 900 (F b)
  sv1 : b ≤ 800 → Sm 900 (F b + 1)
section
variable {c m r : Int}
theorem Eb.mm (h : Eb c m) : m * m ≤ 62 * 62 := by
  have := sq_up (a := -m) (b := 62) (by have := h.m2; omega) (by have := h.m1; omega)
  rw [Int.neg_mul_neg] at this
  exact this
theorem Eb.qd (h : Eb c m) : Qd c m := by
  have a := h.m1
  have b := h.m2
  have c1 := h.c1
  have d := h.c4
  have e := h.mm
  have ed : dis c m = m * m - 4 * c := rfl
  exact ⟨by omega, by omega, by omega, by omega, by omega, fun u => by rw [ed]; exact h.ns u⟩
theorem Eb.up0 (h : Eb c m) : upL (qC c m) 0 1 = 0 := by
  have Q := h.qd
  have a := h.m2
  have d := h.c1
  rw [Q.up]
  have z : (2 * 0 + m) * (2 * 0 + m) = m * m := by grind
  have ed : dis c m = m * m - 4 * c := rfl
  rw [(Q.cnt 0).2.1 (by rw [z, ed]; omega) (by omega)]
  rfl
theorem Eb.txt (h : Eb c m) (hr : r = 0 ∨ r = 1) : okT (txL r [c, m, 1]) r [c, m, 1] = true := by
  refine okT_of (h.qd.okTN hr ?_)
  rw [h.up0]
  rcases hr with e | e <;> omega
theorem Eb.fl (h : Eb c m) (hr : r = 0 ∨ r = 1) : okStr [c, m, 1] r = true ∧ ∃ F, FlA [c, m, 1] r F ∧ ∀ b, Fb c m r F b := by
  have Q := h.qd
  have h0 : upL (qC c m) 0 1 ≤ r := by
    rw [h.up0]
    rcases hr with e | e <;> omega
  obtain ⟨o, z, z0, hz, M, e⟩ := Q.str hr h0
  refine ⟨o, _, FlA.of M e, fun b => ?_⟩
  obtain ⟨i1, i2, i3, i4⟩ := M.inv b
  have g0 : 0 ≤ flS [c, m, 1] (decide (r = 1)) z b := Int.le_trans (Int.mul_nonneg z0 (Int.le_of_lt (two_pos b))) i1
  have g1 : b ≤ 800 → Sm 900 (flS [c, m, 1] (decide (r = 1)) z b) := fun lb => (M.fl.small (Nat.zero_le b) lb (t := flS [c, m, 1] (decide (r = 1)) z b) i1 (by show _ ≤ (z + 1) * 2 ^ b; omega)).1
  have g2 : b ≤ 800 → Sm 900 (flS [c, m, 1] (decide (r = 1)) z b + 1) := fun lb => (M.fl.small (Nat.zero_le b) lb (t := flS [c, m, 1] (decide (r = 1)) z b + 1) (by show z * 2 ^ b ≤ _; omega) i2).1
  clear i1 i2 z0 hz M e o
  generalize flS [c, m, 1] (decide (r = 1)) z = F at *
  have ngl : ∀ x : Int, ng [c, m, 1] x (pw b) = true ↔ (2 * x + m * 2 ^ b) * (2 * x + m * 2 ^ b) < (m * m - 4 * c) * (2 ^ b * 2 ^ b) := fun x => by
    have q := ng_q (c := c) (m := m) x b
    rw [val2] at q
    rw [q, pw_eq]
    exact Iff.rfl
  have neq : ∀ x : Int, x * x ≠ (m * m - 4 * c) * (2 ^ b * 2 ^ b) := nsq h.ns b
  have P := two_pos b
  generalize hp : (2 : Int) ^ b = p at *
  have dp : (m * m - 4 * c) * (p * p) < (m * p) * (m * p) := by
    have e : (m * p) * (m * p) = m * m * (p * p) := by grind
    rw [e]
    exact Int.mul_lt_mul_of_pos_right (by have := h.c1; omega) (Int.mul_pos P P)
  have mp : m * p < 0 := Int.mul_neg_of_neg_of_pos (by have := h.m2; omega) P
  have e9 : -m * p = -(m * p) := Int.neg_mul ..
  have in_ : ∀ x : Int, (2 * x + m * p) * (2 * x + m * p) < (m * m - 4 * c) * (p * p) → x ≤ -m * p := fun x hx => by
    rw [e9]
    rcases Int.lt_or_le (-(m * p)) x with q | q
    · have := sq_up (a := -(m * p)) (b := 2 * x + m * p) (by omega) (by omega)
      rw [Int.neg_mul_neg] at this
      omega
    · exact q
  rcases hr with rfl | rfl
  · have i3 : ng [c, m, 1] (F b) (pw b) = false := i3
    have i4 : ng [c, m, 1] (F b + 1) (pw b) = true := by
      cases q : ng [c, m, 1] (F b + 1) (pw b) with
      | true => rfl
      | false => exact absurd q i4
    have k1 := (ngl (F b + 1)).mp i4
    have k2 : ¬ (2 * F b + m * p) * (2 * F b + m * p) < (m * m - 4 * c) * (p * p) := fun z => by
      rw [(ngl (F b)).mpr z] at i3
      cases i3
    have k3 := neq (2 * F b + m * p)
    have := in_ _ k1
    exact ⟨fun _ => by rw [hp]; exact ⟨k1, by omega⟩, fun z => absurd z (by decide), g0, by rw [hp]; omega, g1, g2⟩
  · have k1 := (ngl (F b)).mp i3
    have k2 : ¬ (2 * (F b + 1) + m * p) * (2 * (F b + 1) + m * p) < (m * m - 4 * c) * (p * p) := fun z => i4 ((ngl (F b + 1)).mpr z)
    have k3 := neq (2 * (F b + 1) + m * p)
    have := in_ _ k1
    exact ⟨fun z => absurd z (by decide), fun _ => by rw [hp]; exact ⟨k1, by omega⟩, g0, by rw [hp]; exact this, g1, g2⟩
theorem fb_sum {F G : Nat → Int} {b : Nat} (A : Fb c m 0 F b) (B : Fb c m 1 G b) : F b + G b + 1 + m * 2 ^ b = 0 := by
  obtain ⟨a1, a2⟩ := A.a0 rfl
  obtain ⟨b1, b2⟩ := B.a1 rfl
  have e : ∀ x : Int, 2 * x + m * 2 ^ b = 2 * x - -m * 2 ^ b := fun x => by rw [Int.neg_mul]; omega
  rw [e] at a1 a2 b1 b2
  have := fl_sum (two_pos b) a1 a2 b1 b2
  rw [Int.neg_mul] at this
  omega
/-! ### the ends -/
theorem val2' (x y t b : Int) : valL [x, y] t b = y * t + x * b := by
  show ((0 * t + y * 1) * t + x * (1 * b)) = _
  simp only [Int.zero_mul, Int.zero_add, Int.one_mul, Int.mul_one]
theorem ends_g (u v w f : Int) (b : Nat) : endA [u, v, w] f b = v * 2 ^ b + w * f - mx0 (-w) ∧ endB [u, v, w] f b = v * 2 ^ b + w * f + mx0 w := by
  constructor
  · show valL [mx0 v, mx0 w] f (pw b) - valL [mx0 (-v), mx0 (-w)] (f + 1) (pw b) = _
    rw [val2', val2', pw_eq]
    unfold mx0
    split <;> split <;> split <;> split <;> grind
  · show valL [mx0 v, mx0 w] (f + 1) (pw b) - valL [mx0 (-v), mx0 (-w)] f (pw b) = _
    rw [val2', val2', pw_eq]
    unfold mx0
    split <;> split <;> split <;> split <;> grind
theorem ends_sym (u v w : Int) {f g : Int} {b : Nat} (h : f + g + 1 + m * 2 ^ b = 0) : endA [u, v - w * m, 0 - w] g b = endA [u, v, w] f b ∧ endB [u, v - w * m, 0 - w] g b = endB [u, v, w] f b := by
  obtain ⟨e1, e2⟩ := ends_g u v w f b
  obtain ⟨e3, e4⟩ := ends_g u (v - w * m) (0 - w) g b
  rw [e1, e2, e3, e4]
  have eg : g = -(m * 2 ^ b) - f - 1 := by omega
  rw [eg]
  generalize (2 : Int) ^ b = p
  unfold mx0
  constructor <;> (split <;> split <;> grind)
theorem sm_mx {k : Nat} {x : Int} (h : Sm k x) : Sm k (mx0 x) := by
  unfold mx0
  split
  · exact Nat.two_pow_pos k
  · exact h
section
variable {u v w sc : Int} {F G : Nat → Int} {b : Nat}
theorem okEn_b (lb : b ≤ 800) (R : Fb c m r F b) (sv : Sm 300 v) (sw : Sm 300 w) : okEn [u, v, w] (F b) b = true := by
  have pv := sm_le (sm_mx sv) (show 300 ≤ 900 by decide)
  have pw' := sm_le (sm_mx sw) (show 300 ≤ 900 by decide)
  have qv := sm_le (sm_mx (sm_neg sv)) (show 300 ≤ 900 by decide)
  have qw := sm_le (sm_mx (sm_neg sw)) (show 300 ≤ 900 by decide)
  have m2 : ∀ {x y : Int}, Sm 900 x → Sm 900 y → ∀ z ∈ [x, y], Sm 900 z := fun {x y} a b z hz => by
    simp only [List.mem_cons, List.not_mem_nil, or_false] at hz
    rcases hz with rfl | rfl <;> assumption
  have o : ∀ {x y z : Int}, Sm 900 x → Sm 900 y → Sm 900 z → okVB [x, y] z (pw b) = true := fun {x y z} a b c => okVB_of (show 1 ≤ 2 by decide) (show 2 ≤ 8 by decide) c (pw_sm lb) (m2 a b)
  unfold okEn
  show (decide (b < 4000) && true && okVB [mx0 v, mx0 w] (F b) (pw b) && okVB [mx0 (-v), mx0 (-w)] (F b + 1) (pw b) && okVB [mx0 v, mx0 w] (F b + 1) (pw b) && okVB [mx0 (-v), mx0 (-w)] (F b) (pw b)) = true
  rw [decide_eq_true (show b < 4000 by omega), o pv pw' (R.sv lb), o qv qw (R.sv1 lb), o pv pw' (R.sv1 lb), o qv qw (R.sv lb)]
  rfl
theorem nrm_ne (h : Eb c m) (nz : ¬ (v = 0 ∧ w = 0)) : nrm c m v w ≠ 0 := by
  unfold nrm
  by_cases w0 : w = 0
  · rw [w0]
    have v0 : v ≠ 0 := fun z => nz ⟨z, w0⟩
    have := Int.mul_ne_zero v0 v0
    simpa using this
  · have q := irr (a := 2 * v - m * w) h.ns w0
    have e : (2 * v - m * w) * (2 * v - m * w) - (m * m - 4 * c) * w * w = 4 * (v * v - m * v * w + c * w * w) := by grind
    rw [e] at q
    omega
/-- far enough the ends are on one side -/
theorem no_512 (h : Eb c m) (hr : r = 0 ∨ r = 1) (R : Fb c m r F 512) (nz : ¬ (v = 0 ∧ w = 0)) (hw : w.natAbs ≤ 2 ^ 200) (hZ : (v * 2 ^ 512 + w * F 512).natAbs ≤ w.natAbs) : False := by
  have P := two_pos 512
  have p5 : (2 : Int) ^ 512 ≤ 2 ^ 512 := Int.le_refl _
  generalize hp : (2 : Int) ^ 512 = p at P hZ
  have a0 := R.a0
  have a1 := R.a1
  have f1 := R.f1
  rw [hp] at a0 a1 f1 p5
  refine no_str2 (B := -m) (c := c) (P := p) (F := F 512) (v := v) (w := w) (by have := h.m2; omega) (by have := h.m1; omega) P R.f0 f1 ?_ ?_ hw (by rw [hp]; exact Int.le_refl _) hZ
  · have e1 : F 512 * F 512 - -m * p * F 512 + c * (p * p) = F 512 * F 512 + m * p * F 512 + c * (p * p) := by grind
    have e2 : 2 * F 512 + 1 - -m * p = 2 * F 512 + 1 + m * p := by grind
    rw [e1, e2]
    have e3 : (2 * F 512 + m * p) * (2 * F 512 + m * p) - (m * m - 4 * c) * (p * p) = 4 * (F 512 * F 512 + m * p * F 512 + c * (p * p)) := by grind
    have e4 : (2 * (F 512 + 1) + m * p) * (2 * (F 512 + 1) + m * p) - (m * m - 4 * c) * (p * p) = 4 * (F 512 * F 512 + m * p * F 512 + c * (p * p)) + 4 * (2 * F 512 + 1 + m * p) := by grind
    rcases hr with e | e
    · obtain ⟨x, y⟩ := a0 e
      omega
    · obtain ⟨x, y⟩ := a1 e
      omega
  · have q := nrm_ne (c := c) (m := m) h nz
    unfold nrm at q
    have e : v * v + -m * v * w + c * w * w = v * v - m * v * w + c * w * w := by grind
    rw [e]
    exact q
theorem str_512 (h : Eb c m) (hr : r = 0 ∨ r = 1) (R : Fb c m r F 512) (nz : ¬ (v = 0 ∧ w = 0)) (hw : w.natAbs ≤ 2 ^ 200) : str0 F [u, v, w] 512 = false := by
  obtain ⟨e1, e2⟩ := ends_g u v w (F 512) 512
  unfold str0
  rw [e1, e2]
  by_cases c1 : v * 2 ^ 512 + w * F 512 - mx0 (-w) ≤ 0
  · by_cases c2 : 0 ≤ v * 2 ^ 512 + w * F 512 + mx0 w
    · exfalso
      refine no_512 h hr R nz hw ?_
      generalize v * 2 ^ 512 + w * F 512 = Z at *
      unfold mx0 at c1 c2
      split at c1 <;> split at c2 <;> omega
    · rw [decide_eq_false c2, Bool.and_false]
  · rw [decide_eq_false c1, Bool.false_and]
theorem trim_ne (nz : ¬ (v = 0 ∧ w = 0)) : trimI [v, w] ≠ [] := by
  by_cases w0 : w = 0
  · rw [w0, trim2, trim_keep (xs := [v]) (fun z => nz ⟨z, w0⟩)]
    simp
  · rw [trim_keep (xs := [v, w]) w0]
    simp
theorem trim_00 : trimI [0, 0] = [] := by rw [trim2, trim1]
theorem sg_ok (h : Eb c m) (hr : r = 0 ∨ r = 1) (hR : ∀ b, Fb c m r F b) (sv : Sm 300 v) (hw : w.natAbs ≤ 2 ^ 200) : trimI (([u, v, w] : List Int).drop 1) = [] ∨ okSg F [u, v, w] 3 64 = true := by
  by_cases nz : v = 0 ∧ w = 0
  · obtain ⟨rfl, rfl⟩ := nz
    exact .inl trim_00
  · right
    have sw : Sm 300 w := Nat.lt_of_le_of_lt hw (Nat.pow_lt_pow_right (by decide) (by decide))
    have o1 := okEn_b (u := u) (by decide) (hR 64) sv sw
    have o2 := okEn_b (u := u) (by decide) (hR 128) sv sw
    have o3 := okEn_b (u := u) (by decide) (hR 256) sv sw
    have o4 := okEn_b (u := u) (by decide) (hR 512) sv sw
    have z := str_512 (u := u) h hr (hR 512) nz hw
    show (true && true && okEn [u, v, w] (F 64) 64 && (!str0 F [u, v, w] 64 || (true && true && okEn [u, v, w] (F 128) 128 && (!str0 F [u, v, w] 128 || (true && true && okEn [u, v, w] (F 256) 256 && (!str0 F [u, v, w] 256 || (true && true && okEn [u, v, w] (F 512) 512 && !str0 F [u, v, w] 512))))))) = true
    rw [o1, o2, o3, o4, z]
    simp
theorem str_sym (hs : ∀ b, F b + G b + 1 + m * 2 ^ b = 0) (b : Nat) : str0 G [u, v - w * m, 0 - w] b = str0 F [u, v, w] b := by
  obtain ⟨e1, e2⟩ := ends_sym u v w (hs b)
  unfold str0
  rw [e1, e2]
theorem sgBt_sym (hs : ∀ b, F b + G b + 1 + m * 2 ^ b = 0) : ∀ k b, sgBt G [u, v - w * m, 0 - w] k b = sgBt F [u, v, w] k b
  | 0, _ => rfl
  | k + 1, b => by
    unfold sgBt
    rw [str_sym hs, sgBt_sym hs k]
theorem sg_sym (hs : ∀ b, F b + G b + 1 + m * 2 ^ b = 0) : sgnF G [u, v - w * m, 0 - w] = sgnF F [u, v, w] := by
  unfold sgnF
  rw [sgBt_sym hs, (ends_sym u v w (hs (sgBt F [u, v, w] 3 64))).1]
  by_cases nz : v = 0 ∧ w = 0
  · obtain ⟨rfl, rfl⟩ := nz
    have e : (0 : Int) - 0 * m = 0 := by rw [Int.zero_mul]; rfl
    rw [e]
    rfl
  · have nz2 : ¬ (v - w * m = 0 ∧ 0 - w = 0) := fun ⟨x, y⟩ => nz (by
      have w0 : w = 0 := by omega
      rw [w0, Int.zero_mul] at x
      exact ⟨by omega, w0⟩)
    rw [if_neg (show ¬ trimI (([u, v, w] : List Int).drop 1) = [] from trim_ne nz), if_neg (show ¬ trimI (([u, v - w * m, 0 - w] : List Int).drop 1) = [] from trim_ne nz2)]
theorem lo_sym (hs : ∀ b, F b + G b + 1 + m * 2 ^ b = 0) (b : Nat) : loF G [u, v - w * m, 0 - w] 3 sc b = loF F [u, v, w] 3 sc b ∧ hiF G [u, v - w * m, 0 - w] 3 sc b = hiF F [u, v, w] 3 sc b := by
  obtain ⟨e1, e2⟩ := ends_sym u v w (hs b)
  unfold loF hiF
  rw [e1, e2]
  exact ⟨rfl, rfl⟩
theorem flBt_sym (hs : ∀ b, F b + G b + 1 + m * 2 ^ b = 0) : ∀ k b, flBt G [u, v - w * m, 0 - w] 3 sc k b = flBt F [u, v, w] 3 sc k b
  | 0, _ => rfl
  | k + 1, b => by
    unfold flBt
    rw [(lo_sym hs b).1, (lo_sym hs b).2, flBt_sym hs k]
theorem fl_sym (hs : ∀ b, F b + G b + 1 + m * 2 ^ b = 0) : floF G [u, v - w * m, 0 - w] 3 sc = floF F [u, v, w] 3 sc := by
  unfold floF
  rw [flBt_sym hs, (lo_sym hs _).1]
theorem okB1_b (b64 : 64 ≤ b) (lb : b ≤ 800) (R : Fb c m r F b) (su : Sm 300 u) (sv : Sm 300 v) (sw : Sm 300 w) : okB1 F [u, v, w] 3 b = true := by
  obtain ⟨e1, e2⟩ := ends_g u v w (F b) b
  have sB : Sm 801 ((2 : Int) ^ b) := by
    show ((2 : Int) ^ b).natAbs < 2 ^ 801
    rw [Int.natAbs_pow]
    exact Nat.pow_lt_pow_right (by decide) (by omega)
  have s1 : Sm 1201 (v * 2 ^ b + w * F b) := sm_add (a := 1200) (sm_le (sm_mul sv sB) (by decide)) (sm_mul sw (R.sv lb))
  have q1 : Sm 8000 (v * 2 ^ b + w * F b - mx0 (-w)) := sm_le (sm_sub (a := 1201) s1 (sm_le (sm_mx (sm_neg sw)) (by decide))) (by decide)
  have q2 : Sm 8000 (v * 2 ^ b + w * F b + mx0 w) := sm_le (sm_add (a := 1201) s1 (sm_le (sm_mx sw) (by decide))) (by decide)
  have q3 : Sm 8000 (bot [u, v, w] 3 b) := by
    have e : bot [u, v, w] 3 b = u * 2 ^ b := by
      show u * 2 ^ (b * 1) = _
      rw [Nat.mul_one]
    rw [e]
    exact sm_le (sm_mul su sB) (by decide)
  unfold okB1 smI
  rw [e1, e2, decide_eq_true b64, decide_eq_true lb, okEn_b lb R sv sw, decide_eq_true (show (v * 2 ^ b + w * F b - mx0 (-w)).natAbs < 2 ^ 8000 from q1), decide_eq_true (show (v * 2 ^ b + w * F b + mx0 w).natAbs < 2 ^ 8000 from q2), decide_eq_true (show (bot [u, v, w] 3 b).natAbs < 2 ^ 8000 from q3)]
  rfl
/-- at 512 bits both ends give one floor -/
theorem fl_512 (h : Eb c m) (hr : r = 0 ∨ r = 1) (R : Fb c m r F 512) (u1 : 1 ≤ u) (hw : w.natAbs ≤ 2 ^ 150) (sc1 : 1 ≤ sc) (sc2 : sc ≤ 2 ^ 45) : loF F [u, v, w] 3 sc 512 = hiF F [u, v, w] 3 sc 512 := by
  obtain ⟨e1, e2⟩ := ends_g u v w (F 512) 512
  have eb : bot [u, v, w] 3 512 = u * 2 ^ 512 := rfl
  unfold loF hiF
  rw [e1, e2, eb]
  have D : 0 < u * 2 ^ 512 := Int.mul_pos (by omega) (two_pos 512)
  rw [Int.fdiv_eq_ediv_of_nonneg _ (Int.le_of_lt D), Int.fdiv_eq_ediv_of_nonneg _ (Int.le_of_lt D)]
  have s0 : 0 ≤ sc := by omega
  have le : (v * 2 ^ 512 + w * F 512 - mx0 (-w)) * sc ≤ (v * 2 ^ 512 + w * F 512 + mx0 w) * sc := Int.mul_le_mul_of_nonneg_right (by unfold mx0; split <;> split <;> omega) s0
  have l1 := Int.ediv_le_ediv D le
  rcases Int.lt_or_le ((v * 2 ^ 512 + w * F 512 - mx0 (-w)) * sc / (u * 2 ^ 512)) ((v * 2 ^ 512 + w * F 512 + mx0 w) * sc / (u * 2 ^ 512)) with l2 | l2
  · exfalso
    obtain ⟨k, hk⟩ : ∃ k, k = (v * 2 ^ 512 + w * F 512 + mx0 w) * sc / (u * 2 ^ 512) := ⟨_, rfl⟩
    rw [← hk] at l2
    have a1 : (v * 2 ^ 512 + w * F 512 - mx0 (-w)) * sc < k * (u * 2 ^ 512) := Int.lt_mul_of_ediv_lt D l2
    have a2 : k * (u * 2 ^ 512) ≤ (v * 2 ^ 512 + w * F 512 + mx0 w) * sc := Int.mul_le_of_le_ediv D (by omega)
    have x1 : (v * sc - k * u) * 2 ^ 512 + w * sc * F 512 = (v * 2 ^ 512 + w * F 512) * sc - k * (u * 2 ^ 512) := by
      generalize (2 : Int) ^ 512 = p
      grind
    have y1 : (v * 2 ^ 512 + w * F 512 - mx0 (-w)) * sc = (v * 2 ^ 512 + w * F 512) * sc - mx0 (-w) * sc := Int.sub_mul ..
    have y2 : (v * 2 ^ 512 + w * F 512 + mx0 w) * sc = (v * 2 ^ 512 + w * F 512) * sc + mx0 w * sc := Int.add_mul ..
    rw [y1] at a1
    rw [y2] at a2
    have z1 : mx0 (-w) * sc ≤ (w * sc).natAbs := by
      rw [Int.natAbs_mul, Int.natCast_mul]
      exact Int.mul_le_mul (by unfold mx0; split <;> omega) (by omega) s0 (by omega)
    have z2 : mx0 w * sc ≤ (w * sc).natAbs := by
      rw [Int.natAbs_mul, Int.natCast_mul]
      exact Int.mul_le_mul (by unfold mx0; split <;> omega) (by omega) s0 (by omega)
    refine no_512 (v := v * sc - k * u) (w := w * sc) h hr R ?_ ?_ ?_
    · rintro ⟨p1, p2⟩
      have w0 : w = 0 := by
        rcases Int.mul_eq_zero.mp p2 with q | q
        · exact q
        · omega
      subst w0
      rw [p1] at x1
      simp [mx0] at x1 a1 a2
      omega
    · rw [Int.natAbs_mul]
      have : w.natAbs * sc.natAbs ≤ 2 ^ 150 * 2 ^ 45 := Nat.mul_le_mul hw (by omega)
      exact Nat.le_trans this (by decide +kernel)
    · rw [x1]
      omega
  · omega
theorem fl_ok (h : Eb c m) (hr : r = 0 ∨ r = 1) (hR : ∀ b, Fb c m r F b) (u1 : 1 ≤ u) (su : Sm 300 u) (sv : Sm 300 v) (hw : w.natAbs ≤ 2 ^ 150) (sc1 : 1 ≤ sc) (sc2 : sc ≤ 2 ^ 45) : okFl F [u, v, w] 3 sc 3 64 = true := by
  have sw : Sm 300 w := Nat.lt_of_le_of_lt hw (Nat.pow_lt_pow_right (by decide) (by decide))
  have o1 := okB1_b (by decide) (by decide) (hR 64) su sv sw
  have o2 := okB1_b (by decide) (by decide) (hR 128) su sv sw
  have o3 := okB1_b (by decide) (by decide) (hR 256) su sv sw
  have o4 := okB1_b (by decide) (by decide) (hR 512) su sv sw
  have z : decide (loF F [u, v, w] 3 sc 512 = hiF F [u, v, w] 3 sc 512) = true := decide_eq_true (fl_512 h hr (hR 512) u1 hw sc1 sc2)
  show (okB1 F [u, v, w] 3 64 && (decide (loF F [u, v, w] 3 sc 64 = hiF F [u, v, w] 3 sc 64) || (okB1 F [u, v, w] 3 128 && (decide (loF F [u, v, w] 3 sc 128 = hiF F [u, v, w] 3 sc 128) || (okB1 F [u, v, w] 3 256 && (decide (loF F [u, v, w] 3 sc 256 = hiF F [u, v, w] 3 sc 256) || (okB1 F [u, v, w] 3 512 && decide (loF F [u, v, w] 3 sc 512 = hiF F [u, v, w] 3 sc 512)))))))) = true
  rw [o1, o2, o3, o4, z]
  simp
/-- the mirror is written in its one way, too -/
theorem gcd_sym (h : gcdL [u, v, w] = 1) : gcdL [u, v - w * m, 0 - w] = 1 := by
  rw [gcd3] at h ⊢
  obtain ⟨g, hg⟩ : ∃ g, g = Nat.gcd (Nat.gcd u.natAbs (v - w * m).natAbs) (0 - w).natAbs := ⟨_, rfl⟩
  rw [← hg]
  have d1 : g ∣ u.natAbs := by rw [hg]; exact Nat.dvd_trans (Nat.gcd_dvd_left _ _) (Nat.gcd_dvd_left _ _)
  have d2 : g ∣ (v - w * m).natAbs := by rw [hg]; exact Nat.dvd_trans (Nat.gcd_dvd_left _ _) (Nat.gcd_dvd_right _ _)
  have d3 : g ∣ (0 - w).natAbs := by rw [hg]; exact Nat.gcd_dvd_right _ _
  have e3 : g ∣ w.natAbs := by
    have : (0 - w).natAbs = w.natAbs := by omega
    rwa [this] at d3
  have i2 : (g : Int) ∣ v := by
    have a := Int.ofNat_dvd_left.mpr d2
    have b := Int.dvd_trans (Int.ofNat_dvd_left.mpr e3) (Int.dvd_mul_right w m)
    have := Int.dvd_add a b
    rwa [Int.sub_add_cancel] at this
  have d4 : g ∣ v.natAbs := Int.ofNat_dvd_left.mp i2
  have := Nat.dvd_gcd (Nat.dvd_gcd d1 d4) e3
  rw [h] at this
  exact Nat.dvd_one.mp this
end
end
end Xq

/-! What is compared as text: lists of ints and of tuples of ints. -/
namespace Xq
open PySem PySem.Spec PyProof.Rows L2 Xk
/-- an int, or a tuple of ints, as data -/
inductive S1 (H : Hp) : V → PyData → Prop
  | int (i : Int) : S1 H (.int i) (.int i)
  | tup {p : Addr} {xs : List Int} : TI H p xs → S1 H (.ref p) (.tuple (xs.map PyData.int))
inductive SA (H : Hp) : List V → List PyData → Prop
  | nil : SA H [] []
  | cons {v : V} {vs : List V} {d : PyData} {ds : List PyData} : S1 H v d → SA H vs ds → SA H (v :: vs) (d :: ds)
theorem S1.same {H H' : Hp} (s : Same H H') {v : V} {d : PyData} : S1 H v d → S1 H' v d
  | .int i => .int i
  | .tup h => .tup (TI.same s h)
theorem SA.same {H H' : Hp} (s : Same H H') : ∀ {vs : List V} {ds : List PyData}, SA H vs ds → SA H' vs ds
  | _, _, .nil => .nil
  | _, _, .cons a b => .cons (a.same s) (SA.same s b)
theorem SA.snoc {H : Hp} {v : V} {d : PyData} (h : S1 H v d) : ∀ {vs : List V} {ds : List PyData}, SA H vs ds → SA H (vs ++ [v]) (ds ++ [d])
  | _, _, .nil => .cons h .nil
  | _, _, .cons a b => .cons a (SA.snoc h b)
theorem nd_ints (xs : List Int) : PyData.hasDictAll (xs.map PyData.int) = false := by
  induction xs with
  | nil => rfl
  | cons x r ih =>
    show (PyData.hasDict (.int x) || PyData.hasDictAll (r.map PyData.int)) = false
    rw [ih]
    rfl
theorem S1.nd {H : Hp} {v : V} {d : PyData} (h : S1 H v d) : d.hasDict = false := by
  cases h with
  | int i => rfl
  | @tup p xs _ =>
    exact nd_ints xs
theorem SA.nd {H : Hp} : ∀ {vs : List V} {ds : List PyData}, SA H vs ds → PyData.hasDictAll ds = false
  | _, _, .nil => rfl
  | _, _, @SA.cons _ v vs d ds a b => by
    show (d.hasDict || PyData.hasDictAll ds) = false
    rw [a.nd, SA.nd b]
    rfl
section
variable {X : Cx} {pins : List (Addr × Obj)} {σ : L2.St} {H : Hp} {s : Shared}
theorem S1.reads (I : Inv X pins σ H s) {v : V} {d : PyData} {u : Value} (h : S1 H v d) (r : RelV v u) : ∃ as, Reads s.heap u d as := by
  cases h with
  | int i =>
    obtain ⟨t, rfl⟩ := r
    exact ⟨_, Reads.int i t⟩
  | @tup p xs e =>
    cases r
    obtain ⟨_, its, rv, o, ho, hc, n, hd⟩ := (show ObjOk X.prog X.w H s.heap p (.tup (xs.map V.int)) from I.hok p _ e)
    exact ⟨_, Reads.tuple ho hc hd (ints_reads _ _ rv)⟩
theorem SA.reads (I : Inv X pins σ H s) : ∀ {vs : List V} {ds : List PyData} {us : List Value}, SA H vs ds → Vals vs us → ∃ as, ReadsAll s.heap us ds as
  | _, _, _, .nil, r => by
    cases r
    exact ⟨_, ReadsAll.nil⟩
  | _, _, _, .cons a b, r => by
    cases r with
    | cons r1 r2 =>
      obtain ⟨as, q1⟩ := S1.reads I a r1
      obtain ⟨bs, q2⟩ := SA.reads I b r2
      exact ⟨_, ReadsAll.cons q1 q2⟩
end
/-- what may stand in a list that is shown -/
structure It1 (d : PyData) : Prop where
  sh : d.showable = true
  dp : d.depth ≤ 3
  ln : d.shown.length ≤ 3000
/-- a list of such is shown -/
structure Sho (d : PyData) : Prop where
  sh : d.showable = true
  dp : d.depth ≤ 20
  ln : d.shown.length ≤ sizeLine
def rRep1 : List V → Hp → VK → Prop := fun xs H Q => ∃ (a : Addr) (vs : List V) (ds : List PyData), xs = [.ref a] ∧ H a = some (.lst vs) ∧ SA H vs ds ∧ Sho (.list ds) ∧ Q (.str (PyData.list ds).shown) H
theorem call_rep1 {X : Cx} (hG : X.A.guards = some []) (hu : X.A.units + 21 < cLine) : CallR X (.builtin "repr") rRep1 := by
  intro pins s σ H xs us Q I r h
  obtain ⟨a, vs, ds, rfl, e, hd, hS, q⟩ := h
  cases r with
  | cons rx rr =>
    cases rr
    cases rx
    obtain ⟨_, its, m, rv, ho⟩ := (show ObjOk X.prog X.w H s.heap a (.lst vs) from I.hok a _ e)
    obtain ⟨as, hr⟩ := SA.reads I hd rv
    have hr2 := Reads.list ho rfl rfl hr
    have nd : (PyData.list ds).hasDict = false := hd.nd
    refine repr_of_reads' hr2 hS.sh (fun z => ?_) hG (by have := hS.dp; omega) (fun _ _ e => e) (fun h' u tk k => ?_) hS.ln
    · rw [nd] at z
      cases z
    exact ⟨.str (PyData.list ds).shown, H, I.kept k, ⟨u, rfl⟩, q⟩
theorem it_int {i : Int} (h : Sm 600 i) : It1 (.int i) := by
  have l : i.natAbs.log2 < 600 := PySem.Flt.log2_lt_of (by decide) h
  refine ⟨?_, by simp [PyData.depth], ?_⟩
  · simp only [PyData.showable]
    exact decide_eq_true (Nat.lt_trans l (by decide))
  · have q := PySem.int_text_length_le (a := i) (k := 600) (by decide) l
    have e : (PyData.int i).shown = Str.ofString (toString i) := rfl
    rw [e, PySem.ofString_length]
    omega
theorem it_len {i : Int} (h : Sm 600 i) : (PyData.int i).shown.length ≤ 601 := by
  have q := PySem.int_text_length_le (a := i) (k := 600) (by decide) (PySem.Flt.log2_lt_of (by decide) h)
  have e : (PyData.int i).shown = Str.ofString (toString i) := rfl
  rw [e, PySem.ofString_length]
  omega
theorem it_three {i j k : Int} (hi : Sm 600 i) (hj : Sm 600 j) (hk : Sm 600 k) : It1 (.tuple ([i, j, k].map PyData.int)) := by
  have a := it_int hi
  have b := it_int hj
  have c := it_int hk
  have li := it_len hi
  have lj := it_len hj
  have lk := it_len hk
  refine ⟨?_, ?_, ?_⟩
  · show ((PyData.int i).showable && ((PyData.int j).showable && ((PyData.int k).showable && true))) = true
    rw [a.sh, b.sh, c.sh]
    rfl
  · simp only [List.map_cons, List.map_nil, PyData.depth, PyData.depthAll]
    omega
  · have q := tupleText_len_le [(PyData.int i).shown, (PyData.int j).shown, (PyData.int k).shown]
    have e : (PyData.tuple ([i, j, k].map PyData.int)).shown = tupleText [(PyData.int i).shown, (PyData.int j).shown, (PyData.int k).shown] := rfl
    rw [e]
    refine Nat.le_trans q ?_
    show (PyData.int i).shown.length + ((PyData.int j).shown.length + ((PyData.int k).shown.length + 0)) + 2 * 3 + 3 ≤ 3000
    omega
theorem all_it : ∀ ds : List PyData, (∀ d ∈ ds, It1 d) → PyData.showableAll ds = true ∧ PyData.depthAll ds ≤ 4 ∧ ((PyData.shownAll ds).map (·.length)).sum ≤ 3000 * ds.length ∧ (PyData.shownAll ds).length = ds.length
  | [], _ => ⟨rfl, by simp [PyData.depthAll], by simp [PyData.shownAll], rfl⟩
  | d :: ds, h => by
    obtain ⟨a, b, c, e⟩ := all_it ds fun x hx => h x (List.mem_cons_of_mem _ hx)
    have hd := h d (List.mem_cons_self ..)
    refine ⟨?_, ?_, ?_, ?_⟩
    · show (d.showable && PyData.showableAll ds) = true
      rw [hd.sh, a]
      rfl
    · have := hd.dp
      simp only [PyData.depthAll]
      omega
    · have := hd.ln
      simp only [PyData.shownAll, List.map_cons, List.sum_cons, List.length_cons]
      omega
    · simp only [PyData.shownAll, List.length_cons, e]
theorem sho_list {ds : List PyData} (h : ∀ d ∈ ds, It1 d) (hl : ds.length ≤ 10) : Sho (.list ds) := by
  obtain ⟨a, b, c, e⟩ := all_it ds h
  refine ⟨?_, ?_, ?_⟩
  · simpa only [PyData.showable] using a
  · simp only [PyData.depth]
    omega
  · have q := listText_len_le (PyData.shownAll ds)
    have e2 : (PyData.list ds).shown = listText (PyData.shownAll ds) := by simp only [PyData.shown]
    have big : 40000 ≤ sizeLine := by decide
    rw [e2]
    omega
/-- a def where no repr is under way -/
structure CalG (P : Program) (w : World) (K : PySem.W.Frag) (mg : Str → Option Value) (base : Heap) (k : Nat) (x : Str) (ps : List Str) (sp : Sp) : Prop where
  ex : ∃ f fd, FnG P w K mg base k f fd ps sp ∧ Binds K fd ps [] ∧ mg x = some (.ref f) ∧ PySem.W.keepIn K (.ref f) = true
theorem mkG {P : Program} {w : World} {K : PySem.W.Frag} {mg : Str → Option Value} {base : Heap} {sp : Sp} {N ps : List Str} {x : Str} {st : Stmt} {k : Nat}
    (D : Df K mg x st) (S : FnScope N ps (defScope st))
    (hb : ∀ (kV doc pm : Value) (an : Option Addr) (cdv ct : Value) (us : List Value), us.length = ps.length → bindArgs (PySem.W.fnOf x x (defArgs st) (defBody st) (defScope st) .none kV doc pm an cdv ct) ⟨us, []⟩ = pure (ps.zip us))
    (hl : ∀ vs H Q E, sp vs H Q E → vs.length = ps.length)
    (h : ∀ (f : Addr) (cdv : Value) (A : Around) (outer : List Env) (s : Shared) (H : Hp) (vs : List V) (Q : VK) (E : XK), Room k (A.deeper (envOfC x (defScope st) s.heap.objs.size f cdv)) → A.guards = some [] → sp vs H Q E →
      ∃ t, PSs (cxOf CX0 P w K mg base N x (defScope st) f cdv A outer s H E).nox (defBody st) t ∧ t { nx := fun _ H' => Q .non H', rt := Q } (L2.start N vs) H) :
    CalG P w K mg base (k + 1) x ps sp := by
  obtain ⟨f, fd, F, m⟩ := D.ex
  exact ⟨f, fd, fn_g F S hl (fun cdv A outer s H vs Q E hr hG hsp => h f cdv A outer s H vs Q E hr hG hsp), F.binds hb, m, F.kp⟩
theorem pe_clG {X : Cx} {k j : Nat} {ps : List Str} {sp : Sp} {x : Str} {p pos : Pos} {e : Expr} {es : List Expr} {t : TA} (C : CalG X.prog X.w X.K X.mg X.base k x ps sp) (hr : Room j X.A) (hG : X.A.guards = some []) (ha : PA X (e :: es) t) (hkj : k ≤ j := by decide) (hg : Gl X x := by rfl) (hdb : (x == ("__debug__" : Str)) = false := by decide)
    (he : starEach (e :: es) X.env = (false, eval e X.env) :: starEach es X.env := by rfl) (hpl : (backTo pos (starEach es X.env)).any (·.1) = false := by rfl) :
    PE X (.Call (.Name x p) (e :: es) [] pos) (tCall sp [] E0 t) := by
  obtain ⟨f, fd, F, b, m, kp⟩ := C.ex
  exact pe_callg F (hr.mono hkj) hG hg m kp b ha hdb he hpl
end Xq

/-! opposite of any number; what the law draws: squares, equations with two roots. -/
namespace Xq
open PySem PySem.Spec PyProof.Rows L2
section
variable {P : Program} {w : World} {K : PySem.W.Frag} {mg : Str → Option Value} {base : Heap} {C : Addr}
theorem nOp : FnScope ["shape", "number"] ["shape", "number"] (defScope (top 69)) := (⟨rfl, rfl, rfl, by decide +kernel, rfl, by decide +kernel, by decide +kernel⟩)
def oppL (ns : List Int) : List Int := ns.getD 0 0 :: (ns.drop 1).map fun x => -x
abbrev spOppG (C : Addr) : Sp := Prm (α := ANum) (fun ⟨sh, t, r, xs, p, ns⟩ => [.ref sh, .ref p]) (fun ⟨sh, t, r, xs, p, ns⟩ H => ShpG C H sh t r xs ∧ NumG H p xs.length ns ∧ 2 ≤ ns.length ∧ ns.length ≤ 100) (fun ⟨sh, t, r, xs, p, ns⟩ H v H' => ∃ q, v = .ref q ∧ TI H' q (oppL ns))
theorem c_oppG (D : Df K mg "opposite" (top 69)) (CK : Cal P w K mg base 1 "check_shape" ["value"] (spChkG C)) (CN : Cal P w K mg base 4 "check_number" ["shape", "value"] (spChkN C)) (CG : Cal P w K mg base 1 "negative" ["terms"] spNegG) :
    Cal P w K mg base 5 "opposite" ["shape", "number"] (spOppG C) := by
  refine mkC D nOp (fun _ _ _ _ _ _ us hl => match us, hl with | [_, _], _ => rfl) (fun _ => rfl) (fun f cdv A outer s H a Q E hr h k => ?_)
  obtain ⟨sh, t, r, xs, p, ns⟩ := a
  obtain ⟨hs, hp, l2, l1⟩ := h
  have hs : ShpG C H sh t r xs := hs
  have hp : NumG H p xs.length ns := hp
  have l2 : 2 ≤ ns.length := l2
  have l1 : ns.length ≤ 100 := l1
  have hp0 : H p = some (.tup (ns.map V.int)) := hp.at_
  have k : ∀ v H', Same H H' → (∃ q, v = .ref q ∧ TI H' q (oppL ns)) → Q v H' := k
  refine ⟨_, pss_cons (ps_expr (pe_cl CK hr (pa_cons (pv 0) pa_nil)))
    (pss_cons (ps_expr (pe_cl CN hr (pa_cons (pv 0) (pa_cons (pv 1) pa_nil))))
    (pss_one (ps_ret (pe_op op_catT (pe_tup (pa_cons ((pe_ix ix_tup (pv 1) pe_int (fun _ _ => rfl))) pa_nil)) (pe_cl CG hr (pa_cons (pe_slice sl_tupA (pv 1) (po_some pe_int) po_none) pa_nil)))))), ?_⟩
  refine ⟨_, rfl, (sh, t, r, xs), rfl, hs, ?_⟩
  rintro _ _ - rfl
  refine ⟨_, rfl, _, rfl, (sh, t, r, xs, p, ns), rfl, ⟨hs, hp, by show ns.length ≤ 1000; omega⟩, ?_⟩
  rintro _ H1 s1 -
  have hp1 := s1 _ _ hp0
  refine ⟨_, rfl, p, _, _, _, rfl, rfl, SqT.of hp1, atI_nat (j := 0) (getD_map (by omega)), (by show 1 ≤ sizeLine; decide), fun u hu => ?_⟩
  have t2 := Same.new (o := .tup [.int (ns.getD 0 0)]) s1 hu
  refine ⟨_, rfl, _, rfl, p, _, rfl, SqT.of (t2 _ _ hp0), (fun z => absurd (show HT.sIx (ns.map V.int).length 0 (some 1) = 0 from z.1) (not_whole (by rw [List.length_map]; omega))), fun _ u2 hu2 => ?_⟩
  rw [cut_1, tail_map] at *
  have t3 := Same.new (o := .tup ((ns.drop 1).map V.int)) t2 hu2
  have n3 := same_new (o := .tup ((ns.drop 1).map V.int)) hu2
  have ld : (ns.drop 1).length = ns.length - 1 := List.length_drop ..
  refine ⟨(u2, ns.drop 1), rfl, ⟨upd_same, by show (ns.drop 1).length ≤ 1000; omega⟩, ?_⟩
  rintro _ H4 s4 ⟨g, rfl, hg⟩
  have hg : H4 g = some (.tup (((ns.drop 1).map fun x => -x).map V.int)) := hg
  refine ⟨u, g, [.int (ns.getD 0 0)], ((ns.drop 1).map fun x => -x).map V.int, rfl, rfl, SqT.of ((n3.trans s4) u _ upd_same), SqT.of hg, by simp, ?_, fun z => ?_, fun _ r hr5 => ?_⟩
  · have big : 200 ≤ sizeLine := by decide
    rw [List.length_map, List.length_map, ld]
    show 1 + (ns.length - 1) ≤ sizeLine
    omega
  · exfalso
    have z2 := congrArg List.length z
    rw [List.length_map, List.length_map, ld] at z2
    have z2 : ns.length - 1 = 0 := z2
    omega
  · exact k _ _ (t3.trans (Same.new s4 hr5)) ⟨r, rfl, upd_same⟩
abbrev nSq : List Str := ["_law_number_here", "_law_low", "_law_high", "_law_turn", "_law_middle"]
theorem nSq_ : FnScope nSq ["_law_number_here"] (defScope (top 82)) := (⟨rfl, rfl, rfl, by decide +kernel, rfl, by decide +kernel, by decide +kernel⟩)
abbrev spSq : Sp := Prm (α := Int) (fun n => [.int n]) (fun n _ => 0 ≤ n ∧ Sm 250 n) (fun n H v H' => ∃ b : Bool, v = .bl b ∧ (b = false → ∀ s : Int, s * s ≠ n) ∧ (b = true → ∃ s : Int, s * s = n))
theorem c_sq (D : Df K mg "_law_square" (top 82)) (B : Bl mg) : Cal P w K mg base 1 "_law_square" ["_law_number_here"] spSq := by
  refine mkC D nSq_ (fun _ _ _ _ _ _ us hl => match us, hl with | [_], _ => rfl) (fun _ => rfl) (fun f cdv A outer s H n Q E hr h k => ?_)
  obtain ⟨n0, bn⟩ := h
  have n0 : 0 ≤ n := n0
  have bn : n.natAbs < 2 ^ 250 := bn
  have k : ∀ v H', Same H H' → (∃ b : Bool, v = .bl b ∧ (b = false → ∀ s : Int, s * s ≠ n) ∧ (b = true → ∃ s : Int, s * s = n)) → Q v H' := k
  refine ⟨_, pss_cons (ps_par (i := 1) (j := 2) rfl nSq_.nd rfl rfl (by decide) rfl rfl (pa_cons pe_int (pa_cons (pe_op op_add (pv 0) pe_int) pa_nil)) rfl)
    (pss_cons (ps_for PassesOwn.never rfl (pi_range1 (by rfl) B.range_ (pa_cons pe_int pa_nil)) ((pg_name (i := 3) (FnScope.nd nSq_) rfl (Or.inl rfl)))
      (pss_cons (ps_if ((pt_cmpR op_lt (pe_op op_sub (pv 2) (pv 1)) pe_int (nomark _))) (pss_one ps_break) pss_nil)
      (pss_cons ((ps_set (i := 4) (FnScope.nd nSq_) rfl (Or.inl rfl) (pe_op op_fdiv (pe_op op_add (pv 1) (pv 2)) pe_int)))
      (pss_one (ps_asg (pe_ifExp (pt_cmpR op_le (pe_op op_mulW (pv 4) (pv 4)) (pv 0) (nomark _)) (pe_tup (pa_cons (pv 4) (pa_cons (pv 2) pa_nil))) (pe_tup (pa_cons (pv 1) (pa_cons (pv 4) pa_nil)))) (pg_tup rfl (pgs_cons ((pg_name (i := 1) (FnScope.nd nSq_) rfl (Or.inl rfl))) (pgs_cons ((pg_name (i := 2) (FnScope.nd nSq_) rfl (Or.inl rfl))) pgs_nil))))))))
    (pss_one (ps_ret (pe_cmpR op_eq (pe_op op_mulW (pv 1) (pv 1)) (pv 0) (nomark _))))), ?_⟩
  have z2 : (2 : Nat) ≤ sizeLine := by decide
  have n2 : n < 2 ^ 250 := by
    have e : ((2 ^ 250 : Nat) : Int) = (2 : Int) ^ 250 := Int.natCast_pow 2 250
    have : ((n.natAbs : Nat) : Int) < ((2 ^ 250 : Nat) : Int) := Int.ofNat_lt.mpr bn
    rw [e] at this
    omega
  have fin : ∀ (lo : Int) (H' : Hp), Same H H' → 0 ≤ lo → lo * lo ≤ n → n < (lo + 1) * (lo + 1) → Q (.bl (decide (V.int (lo * lo) = V.int n))) H' := fun lo H' s1 l0 ll hh => by
    refine k _ _ s1 ⟨_, rfl, fun z s e => ?_, fun z => ⟨lo, V.int.inj (of_decide_eq_true z)⟩⟩
    have z := of_decide_eq_false z
    have ns : lo * lo ≠ n := fun q => z (by rw [q])
    have hv : s * s = (s.natAbs : Int) * (s.natAbs : Int) := by rw [Int.natAbs_mul_self']
    have p : (0 : Int) ≤ (s.natAbs : Int) := Int.natCast_nonneg _
    rw [hv] at e
    have a := sq_lt_iff9 (a := lo) (b := (s.natAbs : Int)) l0 p (by omega)
    have b := sq_lt_iff9 (a := (s.natAbs : Int)) (b := lo + 1) p (by omega) (by omega)
    omega
  have smL : ∀ {lo : Int}, 0 ≤ lo → lo ≤ n → Sm 250 lo := fun {lo} h1 h2 => Nat.lt_of_le_of_lt (show lo.natAbs ≤ n.natAbs by omega) bn
  refine ⟨_, rfl, _, _, rfl, rfl, _, _, rfl, ?_⟩
  refine ⟨300, rfl, by decide, by decide, for_range (n := 300) (fun i σ H' => Same H H' ∧ ∃ (lo hi : Int) (y3 y4 : Option V), σ = [some (.int n), some (.int lo), some (.int hi), y3, y4] ∧ 0 ≤ lo ∧ lo < hi ∧ hi ≤ n + 1 ∧ lo * lo ≤ n ∧ n < hi * hi ∧ hi - lo ≤ 2 ^ (251 - i))
    ⟨Same.refl _, 0, n + 1, none, none, rfl, Int.le_refl _, by omega, Int.le_refl _, by omega, ?_, ?_⟩ ?_ ?_⟩
  · have : n * 1 ≤ n * n ∨ n = 0 := by
      rcases Int.lt_or_le 0 n with q | q
      · exact .inl (Int.mul_le_mul_of_nonneg_left (by omega) n0)
      · exact .inr (by omega)
    have e : (n + 1) * (n + 1) = n * n + 2 * n + 1 := by grind
    rcases this with q | q
    · omega
    · rw [q]; decide
  · have e : (2 : Int) ^ (251 - 0) = 2 ^ 250 * 2 := Int.pow_succ ..
    rw [e]
    omega
  · rintro i σ H' hi' ⟨s1, lo, hi, y3, y4, rfl, l0, lh, hn, ll, hh, df⟩
    refine ⟨_, rfl, _, rfl, _, _, rfl, rfl, _, _, rfl, rfl, _, rfl, ?_⟩
    by_cases c : hi - lo < 2
    · rw [decide_eq_true c]
      have e : hi = lo + 1 := by omega
      rw [e] at hh
      have sl := smL l0 (by omega)
      exact iteT ⟨_, rfl, _, rfl, _, _, rfl, rfl, cm sl sl, _, rfl, rfl, fin _ _ s1 l0 ll hh⟩
    · rw [decide_eq_false c]
      have k1 : 1 ≤ 251 - i := by
        rcases Nat.eq_zero_or_pos (251 - i) with z | z
        · rw [z] at df
          have : hi - lo ≤ 1 := df
          omega
        · exact z
      have e2 : (2 : Int) ^ (251 - i) = 2 ^ (251 - (i + 1)) * 2 := by
        rw [show 251 - i = (251 - (i + 1)) + 1 by omega]
        exact Int.pow_succ ..
      rw [e2] at df
      have sm : Sm 250 ((lo + hi) / 2) := smL (by omega) (by omega)
      refine iteF ⟨_, rfl, _, rfl, _, _, rfl, rfl, _, _, rfl, rfl, ⟨by decide, by decide⟩, ?_⟩
      refine ⟨_, rfl, _, rfl, _, _, rfl, rfl, cm sm sm, _, rfl, _, _, rfl, rfl, _, rfl, ?_⟩
      by_cases c2 : (lo + hi) / 2 * ((lo + hi) / 2) ≤ n
      · rw [decide_eq_true c2]
        refine iteT ⟨_, rfl, _, rfl, z2, fun q hq => ⟨q, _, rfl, SqT.of upd_same, rfl, _, _, rfl, _, _, rfl, rfl, ?_⟩⟩
        exact ⟨Same.new s1 hq, (lo + hi) / 2, hi, _, _, rfl, by omega, by omega, hn, c2, hh, by omega⟩
      · rw [decide_eq_false c2]
        refine iteF ⟨_, rfl, _, rfl, z2, fun q hq => ⟨q, _, rfl, SqT.of upd_same, rfl, _, _, rfl, _, _, rfl, rfl, ?_⟩⟩
        exact ⟨Same.new s1 hq, lo, (lo + hi) / 2, _, _, rfl, l0, by omega, by omega, ll, by omega, by omega⟩
  · rintro σ H' ⟨s1, lo, hi, y3, y4, rfl, l0, lh, hn, ll, hh, df⟩
    have df : hi - lo ≤ 1 := df
    have e : hi = lo + 1 := by omega
    rw [e] at hh
    have sl := smL l0 (by omega)
    exact ⟨_, rfl, _, rfl, _, _, rfl, rfl, cm sl sl, _, rfl, rfl, fin _ _ s1 l0 ll hh⟩
end
end Xq

/-! What the law draws: divisors in common, equations with two roots. -/
namespace Xq
open PySem PySem.Spec PyProof.Rows L2
theorem RkI.same {H H' : Hp} {r : Addr} (h : RkI H r) (s : Same H H') : RkI H' r := by
  obtain ⟨a, b, c, e⟩ := h
  exact ⟨a, b, c, s _ _ e⟩
theorem TI.sl {l q : Addr} {H H' : Hp} {xs : List Int} {ys : List V} (e : H l = some (.lst ys)) (s : SameX l H H') (h : TI H q xs) : TI H' q xs :=
  s _ _ (fun z => by
    have h : H q = some (.tup (xs.map V.int)) := h
    rw [z, e] at h
    cases h) h
theorem TI.sameX {r q : Addr} {H H' : Hp} {xs : List Int} (R : RkI H r) (s : SameX r H H') (h : TI H q xs) : TI H' q xs := by
  obtain ⟨a, b, c, e⟩ := R
  exact TI.sl e s h
/-- the half of b as a fraction, as the law has it -/
def hafL (b : Int) : Int × Int := if b % 2 = 1 then (b, 2) else (b / 2, 1)
/-- the stretch that the law draws -/
def StrT (m : Int) (x y : Int × Int) : Prop := (x = (0, 1) ∧ y = hafL (-m)) ∨ (x = hafL (-m) ∧ y = (-m, 1))
section
variable {P : Program} {w : World} {K : PySem.W.Frag} {mg : Str → Option Value} {base : Heap} {C : Addr}
theorem nCm_ : FnScope nCom ["_law_parts"] (defScope (top 81)) := (⟨rfl, rfl, rfl, by decide +kernel, rfl, by decide +kernel, by decide +kernel⟩)
/-- a list or a tuple of ints -/
abbrev spCom : Sp := Prm (α := Addr × List Int) (fun a => [.ref a.1]) (fun a H => Sq H a.1 a.2 ∧ a.2.length ≤ 100 ∧ ∀ x ∈ a.2, Sm 1900 x) (fun a H v H' => v = .int (gcdL a.2 : Nat) ∧ H' = H)
theorem c_com (D : Df K mg "_law_common" (top 81)) (B : Bl mg) : Cal P w K mg base 1 "_law_common" ["_law_parts"] spCom := by
  refine mkC D nCm_ (fun _ _ _ _ _ _ us hl => match us, hl with | [_], _ => rfl) (fun _ => rfl) (fun f cdv A outer s H a Q E hr h k => ?_)
  obtain ⟨p, xs⟩ := a
  obtain ⟨h, hl, hx⟩ := h
  have k : ∀ v H', Same H H' → (v = .int (gcdL xs : Nat) ∧ H' = H) → Q v H' := k
  rcases h with h | h
  · have h0 : H p = some (.lst (xs.map V.int)) := h
    refine ⟨_, pss_cons ((ps_set (i := 1) (FnScope.nd nCm_) rfl (Or.inl rfl) pe_int))
      (pss_cons (ps_for PassesOwn.never rfl (pi_list (pv 0)) ((pg_name (i := 2) (FnScope.nd nCm_) rfl (Or.inl rfl)))
        (pss_cons ((ps_set (i := 3) (FnScope.nd nCm_) rfl (Or.inl rfl) (pe_callB call_abs (by rfl) B.abs_ PyProof.Rows.boot_abs (pa_cons (pv 2) pa_nil))))
        (pss_one (ps_for PassesOwn.never rfl (pi_range1 (by rfl) B.range_ (pa_cons pe_int pa_nil)) ((pg_name (i := 4) (FnScope.nd nCm_) rfl (Or.inl rfl)))
          (pss_cons (ps_if ((pt_cmpR op_eq (pv 3) pe_int (nomark _))) (pss_one ps_break) pss_nil)
          (pss_one (ps_par (i := 1) (j := 3) rfl nCm_.nd rfl rfl (by decide) rfl rfl (pa_cons (pv 3) (pa_cons (pe_op op_mod (pe_callTy call_int1 (by rfl) B.int_ PyProof.Rows.boot_int (pa_cons (pv 1) pa_nil)) (pv 3)) pa_nil)) rfl)))))))
      (pss_one (ps_ret (pv 1)))), ?_⟩
    refine ⟨_, rfl, p, rfl, ⟨_, SqL.of h0⟩, for_list (xs := xs.map V.int) (fun i σ H' => H' = H ∧ ∃ y2 y3 y4 : Option V, σ = [some (.ref p), some (.int ((gcdL (xs.take i) : Nat) : Int)), y2, y3, y4]) ⟨rfl, none, none, none, rfl⟩ (fun i σ H' _ e => by rw [e.1]; exact SqL.of h0) ?_ ?_⟩
    · rintro i x σ H' hx2 ⟨rfl, y2, y3, y4, rfl⟩
      obtain ⟨z, hz, rfl⟩ := at_map hx2
      have bz : z.natAbs < 2 ^ 1900 := hx z (List.mem_of_getElem? hz)
      have ge := gcd_take hz
      refine ⟨_, rfl, _, rfl, ?_⟩
      refine ⟨4000, rfl, by decide, by decide, for_range (n := 4000) (fun i' σ H2 => H2 = H' ∧ ∃ (fd o : Nat) (t4 : Option V), σ = [some (.ref p), some (.int (fd : Int)), some (.int z), some (.int (o : Int)), t4] ∧ Eucl o fd (4000 - i') ∧ Nat.gcd fd o = gcdL (xs.take (i + 1))) ⟨rfl, gcdL (xs.take i), z.natAbs, y4, ?_, ends_le (ends_of 1900 bz) (by decide), ge.symm⟩ ?_ ?_⟩
      · rw [← natAbs_if z]
        rfl
      · rintro i' σ H2 hi ⟨rfl, fd, o, t4, rfl, hE, hG⟩
        refine ⟨_, rfl, rfl, _, rfl, ?_⟩
        rw [dec_int]
        refine ite2 (fun hb => ?_) (fun hb => ?_)
        · have ho : o = 0 := by
            have q : (o : Int) = 0 := by simpa using hb
            omega
          rw [ho, Nat.gcd_zero_right] at hG
          subst hG
          exact ⟨rfl, _, _, _, rfl⟩
        · have ho : o ≠ 0 := fun e => hb (by rw [e]; rfl)
          refine ⟨_, rfl, _, rfl, .inl ⟨_, rfl, _, rfl, _, _, rfl, rfl, (by show (0 : Int) < (o : Int); omega), _, _, rfl, rfl, o, fd % o, some (.int (0 + (i' : Int))), ?_, ?_, ?_⟩⟩
          · show [some (V.ref p), some (V.int (o : Int)), some (V.int z), some (V.int ((fd : Int) % (o : Int))), some (V.int (0 + (i' : Int)))] = _
            rw [← Int.natCast_emod]
          · have e4 : 4000 - i' = (4000 - (i' + 1)) + 1 := by omega
            rw [e4] at hE
            rcases hE with e | e
            · exact absurd e ho
            · exact e
          · rw [← hG, Nat.gcd_comm fd o, Nat.gcd_rec o fd, Nat.gcd_comm (fd % o) o]
      · rintro σ H2 ⟨rfl, fd, o, t4, rfl, hE, hG⟩
        have ho : o = 0 := hE
        rw [ho, Nat.gcd_zero_right] at hG
        subst hG
        exact ⟨rfl, _, _, _, rfl⟩
    · rintro σ H' ⟨rfl, y2, y3, y4, rfl⟩
      rw [List.length_map, List.take_length]
      exact ⟨_, rfl, k _ _ (Same.refl _) ⟨rfl, rfl⟩⟩
  · have h0 : H p = some (.tup (xs.map V.int)) := h
    refine ⟨_, pss_cons ((ps_set (i := 1) (FnScope.nd nCm_) rfl (Or.inl rfl) pe_int))
      (pss_cons (ps_for PassesOwn.never rfl (pi_tup (pv 0)) ((pg_name (i := 2) (FnScope.nd nCm_) rfl (Or.inl rfl)))
        (pss_cons ((ps_set (i := 3) (FnScope.nd nCm_) rfl (Or.inl rfl) (pe_callB call_abs (by rfl) B.abs_ PyProof.Rows.boot_abs (pa_cons (pv 2) pa_nil))))
        (pss_one (ps_for PassesOwn.never rfl (pi_range1 (by rfl) B.range_ (pa_cons pe_int pa_nil)) ((pg_name (i := 4) (FnScope.nd nCm_) rfl (Or.inl rfl)))
          (pss_cons (ps_if ((pt_cmpR op_eq (pv 3) pe_int (nomark _))) (pss_one ps_break) pss_nil)
          (pss_one (ps_par (i := 1) (j := 3) rfl nCm_.nd rfl rfl (by decide) rfl rfl (pa_cons (pv 3) (pa_cons (pe_op op_mod (pe_callTy call_int1 (by rfl) B.int_ PyProof.Rows.boot_int (pa_cons (pv 1) pa_nil)) (pv 3)) pa_nil)) rfl)))))))
      (pss_one (ps_ret (pv 1)))), ?_⟩
    refine ⟨_, rfl, p, rfl, ⟨_, SqT.of h0⟩, for_tup (xs := xs.map V.int) (fun i σ H' => H' = H ∧ ∃ y2 y3 y4 : Option V, σ = [some (.ref p), some (.int ((gcdL (xs.take i) : Nat) : Int)), y2, y3, y4]) ⟨rfl, none, none, none, rfl⟩ (fun i σ H' _ e => by rw [e.1]; exact SqT.of h0) ?_ ?_⟩
    · rintro i x σ H' hx2 ⟨rfl, y2, y3, y4, rfl⟩
      obtain ⟨z, hz, rfl⟩ := at_map hx2
      have bz : z.natAbs < 2 ^ 1900 := hx z (List.mem_of_getElem? hz)
      have ge := gcd_take hz
      refine ⟨_, rfl, _, rfl, ?_⟩
      refine ⟨4000, rfl, by decide, by decide, for_range (n := 4000) (fun i' σ H2 => H2 = H' ∧ ∃ (fd o : Nat) (t4 : Option V), σ = [some (.ref p), some (.int (fd : Int)), some (.int z), some (.int (o : Int)), t4] ∧ Eucl o fd (4000 - i') ∧ Nat.gcd fd o = gcdL (xs.take (i + 1))) ⟨rfl, gcdL (xs.take i), z.natAbs, y4, ?_, ends_le (ends_of 1900 bz) (by decide), ge.symm⟩ ?_ ?_⟩
      · rw [← natAbs_if z]
        rfl
      · rintro i' σ H2 hi ⟨rfl, fd, o, t4, rfl, hE, hG⟩
        refine ⟨_, rfl, rfl, _, rfl, ?_⟩
        rw [dec_int]
        refine ite2 (fun hb => ?_) (fun hb => ?_)
        · have ho : o = 0 := by
            have q : (o : Int) = 0 := by simpa using hb
            omega
          rw [ho, Nat.gcd_zero_right] at hG
          subst hG
          exact ⟨rfl, _, _, _, rfl⟩
        · have ho : o ≠ 0 := fun e => hb (by rw [e]; rfl)
          refine ⟨_, rfl, _, rfl, .inl ⟨_, rfl, _, rfl, _, _, rfl, rfl, (by show (0 : Int) < (o : Int); omega), _, _, rfl, rfl, o, fd % o, some (.int (0 + (i' : Int))), ?_, ?_, ?_⟩⟩
          · show [some (V.ref p), some (V.int (o : Int)), some (V.int z), some (V.int ((fd : Int) % (o : Int))), some (V.int (0 + (i' : Int)))] = _
            rw [← Int.natCast_emod]
          · have e4 : 4000 - i' = (4000 - (i' + 1)) + 1 := by omega
            rw [e4] at hE
            rcases hE with e | e
            · exact absurd e ho
            · exact e
          · rw [← hG, Nat.gcd_comm fd o, Nat.gcd_rec o fd, Nat.gcd_comm (fd % o) o]
      · rintro σ H2 ⟨rfl, fd, o, t4, rfl, hE, hG⟩
        have ho : o = 0 := hE
        rw [ho, Nat.gcd_zero_right] at hG
        subst hG
        exact ⟨rfl, _, _, _, rfl⟩
    · rintro σ H' ⟨rfl, y2, y3, y4, rfl⟩
      rw [List.length_map, List.take_length]
      exact ⟨_, rfl, k _ _ (Same.refl _) ⟨rfl, rfl⟩⟩
end
end Xq

/-! What the law draws: equations with two roots. -/
namespace Xq
open PySem PySem.Spec PyProof.Rows L2
section
variable {P : Program} {w : World} {K : PySem.W.Frag} {mg : Str → Option Value} {base : Heap} {C : Addr}
abbrev nTr : List Str := ["_law_rack_here", "_law_b", "_law_c", "_law_some", "_law_middle", "_law_k"]
theorem nTr_ : FnScope nTr ["_law_rack_here"] (defScope (top 83)) := (⟨rfl, rfl, rfl, by decide +kernel, rfl, by decide +kernel, by decide +kernel⟩)
abbrev spTwo : Sp := PrmR (α := Unit) (fun _ r => [.ref r]) (fun _ _ => True) (fun _ H v H' => ∃ (p q st lo hi : Addr) (c m : Int) (x y : Int × Int), v = .ref p ∧ H' p = some (.tup [.ref q, .ref st]) ∧ TI H' q [c, m, 1] ∧ H' st = some (.tup [.ref lo, .ref hi]) ∧
  TI H' lo [x.1, x.2] ∧ TI H' hi [y.1, y.2] ∧ Eb c m ∧ StrT m x y)
/-- what the law takes for c -/
def GoodC (b c : Int) : Prop := 1 ≤ c ∧ 4 * c < b * b ∧ ∀ v : Int, v * v ≠ b * b - 4 * c
theorem good_1 {b : Int} (b3 : 3 ≤ b) : ∀ v : Int, v * v ≠ b * b - 4 * 1 := fun v e => by
  have hv : v * v = (v.natAbs : Int) * (v.natAbs : Int) := by rw [Int.natAbs_mul_self']
  have p : (0 : Int) ≤ (v.natAbs : Int) := Int.natCast_nonneg _
  rw [hv] at e
  generalize (v.natAbs : Int) = u at *
  have h1 := sq_lt_iff9 (a := u) (b := b) p (by omega) (by omega)
  have h2 := sq_up (a := u) (b := b - 1) p (by omega)
  have e2 : (b - 1) * (b - 1) = b * b - 2 * b + 1 := by grind
  omega
theorem c_two (D : Df K mg "_law_two_roots" (top 83)) (B : Bl mg) (CP : Cal P w K mg base 1 "_law_pick" ["_law_rack_here", "_law_many"] spPick) (CS : Cal P w K mg base 1 "_law_square" ["_law_number_here"] spSq) :
    Cal P w K mg base 2 "_law_two_roots" ["_law_rack_here"] spTwo := by
  refine mkR D nTr_ (fun _ _ _ _ _ _ us hl => match us, hl with | [_], _ => rfl) (fun _ _ => rfl) (fun f cdv A outer s H u r Q E hr hR _ k => ?_)
  have k : ∀ v H', SameX r H H' → RkI H' r → (∃ (p q st lo hi : Addr) (c m : Int) (x y : Int × Int), v = .ref p ∧ H' p = some (.tup [.ref q, .ref st]) ∧ TI H' q [c, m, 1] ∧ H' st = some (.tup [.ref lo, .ref hi]) ∧
    TI H' lo [x.1, x.2] ∧ TI H' hi [y.1, y.2] ∧ Eb c m ∧ StrT m x y) → Q v H' := k
  refine ⟨_, pss_cons (ps_set (i := 1) nTr_.nd rfl (Or.inr rfl) (pe_op op_add pe_int (pe_cl CP hr (pa_cons (pv 0) (pa_cons pe_int pa_nil)))))
    (pss_cons (ps_set (i := 2) nTr_.nd rfl (Or.inr rfl) (pe_op op_add pe_int (pe_cl CP hr (pa_cons (pv 0) (pa_cons (pe_op op_fdiv (pe_op op_sub (pe_op op_mulW (pv 1) (pv 1)) pe_int) pe_int) pa_nil)))))
    (pss_cons ((ps_set (i := 3) (FnScope.nd nTr_) rfl (Or.inl rfl) (pe_op op_cat (pe_lc (own := [("_law_k", 5)]) (g := gName 5) (tt := tYes) (te := tOp (rI0 fun i j => .int (i + j)) (tVar 2) (tVar 5)) rfl nTr_.nd
        (pi_range1 (by rfl) B.range_ (pa_cons (pe_op op_add (pe_op op_sub (pe_op op_fdiv (pe_op op_sub (pe_op op_mulW (pv 1) (pv 1)) pe_int) pe_int) (pv 2)) pe_int) pa_nil))
        (blkOk_by (N := nTr) (sc := defScope (top 83)) (by decide +kernel)) (fun _ _ _ _ _ => (pg_name (i := 5) (FnScope.nd nTr_) rfl (Or.inl rfl))) (fun _ _ _ _ _ => pts_nil) (fun _ _ _ _ _ => pe_op op_add (pv 2) (pv 5))) (pe_lst (pa_cons pe_int pa_nil)))))
    (pss_cons (ps_set (i := 2) nTr_.nd rfl (Or.inr rfl) ((pe_ix ix_list (pe_lc (own := [("_law_k", 5)]) (g := gName 5) (tt := tNot (tB (tCall spSq [] E0 (tCons (tOp (rI0 fun i j => .int (i - j)) (tOp (rI CMulW fun i j => .int (i * j)) (tVar 1) (tVar 1)) (tOp (rI CMul fun i j => .int (i * j)) (tC (.int 4)) (tVar 5))) tNil)))) (te := tVar 5) rfl nTr_.nd
        (pi_list (pv 3))
        (blkOk_by (N := nTr) (sc := defScope (top 83)) (by decide +kernel)) (fun _ _ _ _ _ => (pg_name (i := 5) (FnScope.nd nTr_) rfl (Or.inl rfl))) (fun _ _ _ _ _ => pts_one (pt_not (pt_val (pe_cl CS hr (pa_cons (pe_op op_sub (pe_op op_mulW (pv 1) (pv 1)) (pe_op op_mul pe_int (pv 5))) pa_nil))))) (fun _ _ _ _ _ => pv 5)) pe_int (fun _ _ => rfl))))
    (C8.pss_cut ((ps_set (i := 4) (FnScope.nd nTr_) rfl (Or.inl rfl) (pe_ifExp ((pt_cmpR op_eq (pe_op op_mod (pe_callTy call_int1 (by rfl) B.int_ PyProof.Rows.boot_int (pa_cons (pv 1) pa_nil)) pe_int) pe_int (nomark _))) (pe_tup (pa_cons (pv 1) (pa_cons pe_int pa_nil))) (pe_tup (pa_cons (pe_op op_fdiv (pv 1) pe_int) (pa_cons pe_int pa_nil))))))
    (pss_one (ps_ret (pe_tup (pa_cons (pe_tup (pa_cons (pv 2) (pa_cons (pe_op op_sub pe_int (pv 1)) (pa_cons pe_int pa_nil))))
      (pa_cons ((pe_ix ix_list (pe_lst (pa_cons (pe_tup (pa_cons (pe_tup (pa_cons pe_int (pa_cons pe_int pa_nil))) (pa_cons (pv 4) pa_nil))) (pa_cons (pe_tup (pa_cons (pv 4) (pa_cons (pe_tup (pa_cons (pv 1) (pa_cons pe_int pa_nil))) pa_nil))) pa_nil))) (pe_cl CP hr (pa_cons (pv 0) (pa_cons pe_int pa_nil))) (fun _ _ => rfl))) pa_nil))))))))), ?_⟩
  have e0 : L2.start nTr [V.ref r] = [some (.ref r), none, none, none, none, none] := rfl
  rw [e0]
  refine ⟨_, rfl, 60, r, rfl, hR, ⟨by decide, by decide +kernel⟩, ?_⟩
  rintro _ H1 x1 R1 ⟨n1, rfl, n10, n11⟩
  have n11 : n1 < 60 := n11
  refine ⟨_, _, rfl, rfl, ?_⟩
  dsimp only
  have b3 : 3 ≤ 3 + n1 := by omega
  have b62 : 3 + n1 ≤ 62 := by omega
  generalize 3 + n1 = b at *
  clear hR
  have bb9 : 9 ≤ b * b := sq_up (a := 3) (by decide) b3
  have bb : b * b ≤ 62 * 62 := sq_up (by omega) b62
  have s6 : Sm 6 b := show b.natAbs < 2 ^ 6 by omega
  refine ⟨_, rfl, _, rfl, _, rfl, _, _, rfl, rfl, cm s6 s6, _, _, rfl, rfl, _, _, rfl, rfl, ⟨by decide, by decide⟩, (b * b - 1) / 4, r, rfl, R1, ⟨by show 1 ≤ (b * b - 1) / 4; omega, ?_⟩, ?_⟩
  · exact Nat.lt_of_lt_of_le (show ((b * b - 1) / 4).natAbs < 2 ^ 10 by omega) (Nat.pow_le_pow_right (by decide) (by decide))
  rintro _ H2 x2 R2 ⟨n2, rfl, n20, n21⟩
  have n21 : n2 < (b * b - 1) / 4 := n21
  refine ⟨_, _, rfl, rfl, ?_⟩
  dsimp only
  have x2 := x1.trans x2
  have c1 : 1 ≤ 1 + n2 := by omega
  have c2 : 1 + n2 ≤ (b * b - 1) / 4 := by omega
  generalize 1 + n2 = c at *
  clear x1 R1
  -- all that c may be
  refine ⟨_, rfl, _, rfl, _, _, rfl, rfl, cm s6 s6, _, _, rfl, rfl, _, _, rfl, rfl, ⟨by decide, by decide⟩, _, rfl, _, _, rfl, rfl, _, _, rfl, rfl, _, rfl, ?_⟩
  have nn : 0 ≤ (b * b - 1) / 4 - c + 1 := by omega
  refine ⟨by omega, by omega, fun D hD => ?_⟩
  have Dr : D ≠ r := fun e => new_ne R2 hD e.symm
  obtain ⟨N, hN⟩ : ∃ N : Nat, ((b * b - 1) / 4 - c + 1).toNat = N := ⟨_, rfl⟩
  have N1 : 1 ≤ N := by omega
  have N2 : N ≤ 1000 := by omega
  have Nc : c + N = (b * b - 1) / 4 + 1 := by omega
  have big : 5000 ≤ sizeLine := by decide
  rw [hN]
  refine lc_range (fun i H' => Same H2 H' ∧ H' D = some (.lst (((List.range i).map fun j : Nat => c + (j : Int)).map V.int))) ⟨same_new hD, upd_same⟩ (fun i H' hi e => ?_) (fun H3 e => ?_)
  · obtain ⟨sT, hDl⟩ := e
    refine ⟨rfl, ?_⟩
    simp only [tYes, if_true]
    refine ⟨_, rfl, _, rfl, _, _, rfl, rfl, _, hDl, ?_, Same.put sT hD, ?_⟩
    · rw [List.length_map, List.length_map, List.length_range]
      exact sz_lt (by omega)
    · rw [upd_same, List.range_succ, List.map_append, List.map_append, Int.zero_add]
      rfl
  obtain ⟨s3, e3⟩ := e
  have x3 := x2.trans (SameX.of s3)
  have R3 := R2.same s3
  obtain ⟨Ls, hLs⟩ : ∃ Ls : List Int, Ls = (List.range N).map (fun j : Nat => c + (j : Int)) ++ [1] := ⟨_, rfl⟩
  refine ⟨by decide, fun l hl => ⟨D, l, _, _, rfl, rfl, (upd_ne (ne_of_none e3 hl)).trans e3, upd_same, ?_, fun p hp => ?_⟩⟩
  · rw [List.length_map, List.length_map, List.length_range]
    show N + 1 ≤ sizeLine
    omega
  have y1 := same_new (o := .lst [.int 1]) hl
  have y2 := Same.new (o := .lst (((List.range N).map fun j : Nat => c + (j : Int)).map V.int ++ [V.int 1])) y1 hp
  have hp4 : (upd (upd H3 l (.lst [.int 1])) p (.lst (((List.range N).map fun j : Nat => c + (j : Int)).map V.int ++ [V.int 1]))) p = some (.lst (Ls.map V.int)) := by
    rw [upd_same, hLs, List.map_append]
    rfl
  generalize (upd (upd H3 l (.lst [.int 1])) p (.lst (((List.range N).map fun j : Nat => c + (j : Int)).map V.int ++ [V.int 1]))) = H4 at *
  have x4 := x3.trans (SameX.of y2)
  have R4 := R3.same y2
  have lL : Ls.length = N + 1 := by rw [hLs, List.length_append, List.length_map, List.length_range]; rfl
  have okL : ∀ z ∈ Ls, 1 ≤ z ∧ 4 * z < b * b := fun z hz => by
    rw [hLs] at hz
    rcases List.mem_append.mp hz with hz | hz
    · obtain ⟨j, hj, rfl⟩ := List.mem_map.mp hz
      have := List.mem_range.mp hj
      omega
    · rw [List.mem_singleton.mp hz]
      omega
  have atL : ∀ z, Ls[N]? = some z → z = 1 := fun z hz => by
    rw [hLs, List.getElem?_append_right (by rw [List.length_map, List.length_range]; exact Nat.le_refl _), List.length_map, List.length_range, Nat.sub_self] at hz
    exact (Option.some.inj hz).symm
  refine ⟨_, rfl, p, rfl, ⟨_, SqL.of hp4⟩, fun D2 hD2 => ?_⟩
  refine lc_list (xs := Ls.map V.int) (fun i H' => Same H4 H' ∧ ∃ ys : List Int, H' D2 = some (.lst (ys.map V.int)) ∧ ys.length ≤ i ∧ (∀ y ∈ ys, GoodC b y) ∧ (N + 1 ≤ i → ys ≠ [])) ⟨same_new hD2, [], upd_same, Nat.le_refl _, fun y hy => (by cases hy), fun z => (by omega)⟩ (fun i H' _ e => SqL.of (e.1 _ _ hp4)) (fun i x H' hx e => ?_) (fun H5 e => ?_)
  · obtain ⟨s5, ys, e5, ly, gy, ny⟩ := e
    obtain ⟨z, hz, rfl⟩ := at_map hx
    have li : i < N + 1 := lL ▸ lt_of_at hz
    obtain ⟨z1, z4⟩ := okL z (List.mem_of_getElem? hz)
    refine ⟨rfl, _, rfl, _, rfl, _, _, rfl, rfl, cm s6 s6, _, rfl, _, _, rfl, rfl, .inl ⟨by decide, by decide⟩, _, _, rfl, rfl, b * b - 4 * z, rfl, ⟨by show 0 ≤ b * b - 4 * z; omega, Nat.lt_of_lt_of_le (show (b * b - 4 * z).natAbs < 2 ^ 12 by omega) (Nat.pow_le_pow_right (by decide) (by decide))⟩, ?_⟩
    rintro _ H6 s6' ⟨q, rfl, q1, q2⟩
    refine ⟨_, rfl, ?_⟩
    cases q with
    | true =>
      refine iteF ⟨s5.trans s6', ys, s6' _ _ e5, by omega, gy, fun h => ?_⟩
      exfalso
      have iN : i = N := by omega
      rw [iN] at hz
      obtain rfl := atL z hz
      obtain ⟨v, hv⟩ := q2 rfl
      exact good_1 b3 v hv
    | false =>
      refine iteT ⟨_, rfl, _, s6' _ _ e5, ?_, Same.put (s5.trans s6') hD2, ys ++ [z], ?_, ?_, fun y hy => ?_, fun _ => by simp⟩
      · rw [List.length_map]
        exact sz_lt (by omega)
      · rw [upd_same, List.map_append]
        rfl
      · rw [List.length_append]
        show ys.length + 1 ≤ i + 1
        omega
      · rcases List.mem_append.mp hy with hy | hy
        · exact gy y hy
        · rw [List.mem_singleton.mp hy]
          exact ⟨z1, z4, q1 rfl⟩
  obtain ⟨s5, ys, e5, ly, gy, ny⟩ := e
  obtain ⟨c', ys', rfl⟩ : ∃ c' ys', ys = c' :: ys' := by
    cases ys with
    | nil => exact absurd rfl (ny (by rw [List.length_map, lL]; exact Nat.le_refl _))
    | cons a l => exact ⟨a, l, rfl⟩
  obtain ⟨g1, g2, g3⟩ := gy c' (List.mem_cons_self ..)
  refine ⟨D2, _, 0, .int c', rfl, rfl, SqL.of e5, atI_nat (j := 0) rfl, ?_⟩
  have x5 := x4.trans (SameX.of s5)
  have R5 := R4.same s5
  have z2 : (2 : Nat) ≤ sizeLine := by decide
  -- the middle
  refine ⟨fun σ' H' => ∃ m2, σ' = [some (.ref r), some (.int b), some (.int c'), some (.ref p), some (.ref m2), none] ∧ SameX r H H' ∧ RkI H' r ∧ TI H' m2 [(hafL b).1, (hafL b).2], ?_, ?_⟩
  · refine ⟨_, rfl, .inl ⟨_, rfl, _, _, rfl, rfl, (by show (0 : Int) < 2; decide), rfl, _, rfl, ?_⟩⟩
    by_cases o : b % 2 = 1
    · rw [decide_eq_true (show V.int (b % 2) = V.int 1 by rw [o])]
      refine iteT ⟨_, rfl, z2, fun q hq => ⟨q, rfl, x5.trans (SameX.of (same_new hq)), R5.same (same_new hq), ?_⟩⟩
      unfold hafL
      rw [if_pos o]
      exact upd_same
    · rw [decide_eq_false (show ¬ V.int (b % 2) = V.int 1 from fun z => o (V.int.inj z))]
      refine iteF ⟨_, rfl, _, _, rfl, rfl, ⟨by decide, by decide⟩, z2, fun q hq => ⟨q, rfl, x5.trans (SameX.of (same_new hq)), R5.same (same_new hq), ?_⟩⟩
      unfold hafL
      rw [if_neg o]
      exact upd_same
  rintro σ' H7 ⟨m2, rfl, x7, R7, t7⟩
  clear x5 R5 x4 R4 x3 R3 x2 R2
  have z3 : (3 : Nat) ≤ sizeLine := by decide
  refine ⟨_, rfl, _, rfl, _, _, rfl, rfl, z3, fun q hq => ?_⟩
  have tq : TI (upd H7 q (.tup [.int c', .int (0 - b), .int 1])) q [c', 0 - b, 1] := upd_same
  have w1 := same_new (o := .tup [.int c', .int (0 - b), .int 1]) hq
  generalize upd H7 q (.tup [.int c', .int (0 - b), .int 1]) = G1 at *
  refine ⟨z2, fun a1 ha1 => ⟨_, rfl, z2, fun a2 ha2 => ?_⟩⟩
  have t1 : TI (upd G1 a1 (.tup [.int 0, .int 1])) a1 [0, 1] := upd_same
  have w2 := same_new (o := .tup [.int 0, .int 1]) ha1
  generalize upd G1 a1 (.tup [.int 0, .int 1]) = G2 at *
  have t2 : upd G2 a2 (.tup [.ref a1, .ref m2]) a2 = some (.tup [.ref a1, .ref m2]) := upd_same
  have w3 := same_new (o := .tup [.ref a1, .ref m2]) ha2
  generalize upd G2 a2 (.tup [.ref a1, .ref m2]) = G3 at *
  refine ⟨_, rfl, _, rfl, z2, fun a3 ha3 => ⟨z2, fun a4 ha4 => ?_⟩⟩
  have t3 : TI (upd G3 a3 (.tup [.int b, .int 1])) a3 [b, 1] := upd_same
  have w4 := same_new (o := .tup [.int b, .int 1]) ha3
  generalize upd G3 a3 (.tup [.int b, .int 1]) = G4 at *
  have t4 : upd G4 a4 (.tup [.ref m2, .ref a3]) a4 = some (.tup [.ref m2, .ref a3]) := upd_same
  have w5 := same_new (o := .tup [.ref m2, .ref a3]) ha4
  generalize upd G4 a4 (.tup [.ref m2, .ref a3]) = G5 at *
  refine ⟨z2, fun l2 hl2 => ?_⟩
  have t5 : upd G5 l2 (.lst [.ref a2, .ref a4]) l2 = some (.lst [.ref a2, .ref a4]) := upd_same
  have w6 := same_new (o := .lst [.ref a2, .ref a4]) hl2
  have w15 := w1.trans (w2.trans (w3.trans (w4.trans (w5.trans w6))))
  have l2r : l2 ≠ r := fun e => new_ne (R7.same (w1.trans (w2.trans (w3.trans (w4.trans w5))))) hl2 e.symm
  generalize upd G5 l2 (.lst [.ref a2, .ref a4]) = G6 at *
  have R8 := R7.same w15
  refine ⟨_, rfl, 2, r, rfl, R8, ⟨by decide, by decide +kernel⟩, ?_⟩
  rintro _ G7 x8 R9 ⟨n3, rfl, n30, n31⟩
  have tq := TI.sameX R8 x8 (TI.same (w2.trans (w3.trans (w4.trans (w5.trans w6)))) tq)
  have tm := TI.sameX R8 x8 (TI.same w15 t7)
  have t1 := TI.sameX R8 x8 (TI.same (w3.trans (w4.trans (w5.trans w6))) t1)
  have t3 := TI.sameX R8 x8 (TI.same (w5.trans w6) t3)
  have tupX : ∀ {a : Addr} {us : List V}, G6 a = some (.tup us) → G7 a = some (.tup us) := fun {a us} e => x8 _ _ (fun z => by
    obtain ⟨i1, i2, i3, e2⟩ := R8
    rw [z, e2] at e
    cases e) e
  have t2 := tupX ((w4.trans (w5.trans w6)) _ _ t2)
  have t4 := tupX (w6 _ _ t4)
  have t5 := x8 _ _ l2r t5
  have xF := x7.trans ((SameX.of w15).trans x8)
  have eb : Eb c' (0 - b) := ⟨by omega, by omega, g1, by
    have e : (0 - b) * (0 - b) = b * b := by grind
    rw [e]; exact g2, fun v => by
    have e : (0 - b) * (0 - b) = b * b := by grind
    rw [e]; exact g3 v⟩
  have nb : -(0 - b) = b := by omega
  rcases (show n3 = 0 ∨ n3 = 1 by omega) with rfl | rfl
  · refine ⟨l2, _, _, _, rfl, rfl, SqL.of t5, atI_nat (j := 0) rfl, z2, fun pf hpf => ?_⟩
    have wf := same_new (o := .tup [.ref q, .ref a2]) hpf
    exact k _ _ (xF.trans (SameX.of wf)) (R9.same wf) ⟨pf, q, a2, a1, m2, c', 0 - b, (0, 1), hafL b, rfl, upd_same, TI.same wf tq, wf _ _ t2, TI.same wf t1, TI.same wf tm, eb, .inl ⟨rfl, by rw [nb]⟩⟩
  · refine ⟨l2, _, _, _, rfl, rfl, SqL.of t5, atI_nat (j := 1) rfl, z2, fun pf hpf => ?_⟩
    have wf := same_new (o := .tup [.ref q, .ref a4]) hpf
    exact k _ _ (xF.trans (SameX.of wf)) (R9.same wf) ⟨pf, q, a4, m2, a3, c', 0 - b, hafL b, (b, 1), rfl, upd_same, TI.same wf tq, wf _ _ t4, TI.same wf tm, TI.same wf t3, eb, .inr ⟨by rw [nb], by rw [nb]⟩⟩
end
end Xq

/-! The law draws numbers, and turns them. -/
namespace Xq
open PySem PySem.Spec PyProof.Rows L2
theorem dvd_gcdf (d : Nat) : ∀ (l : List Int) (g : Nat), d ∣ l.foldl (fun g x => Nat.gcd g x.natAbs) g ↔ d ∣ g ∧ ∀ x ∈ l, d ∣ x.natAbs
  | [], g => by simp
  | x :: l, g => by
    rw [List.foldl_cons, dvd_gcdf d l, Nat.dvd_gcd_iff]
    simp only [List.mem_cons, forall_eq_or_imp]
    exact and_assoc
theorem dvd_gcdL (d : Nat) (l : List Int) : d ∣ gcdL l ↔ ∀ x ∈ l, d ∣ x.natAbs := by
  unfold gcdL
  rw [dvd_gcdf]
  simp
theorem gcdL_dvd {l : List Int} {x : Int} (h : x ∈ l) : ((gcdL l : Nat) : Int) ∣ x := Int.ofNat_dvd_left.mpr ((dvd_gcdL _ l).mp (Nat.dvd_refl _) x h)
/-- all divided by what they have in common -/
def dvQ (l : List Int) : List Int := l.map fun x => x.fdiv (gcdL l : Nat)
theorem dvQ_gcd {l : List Int} (h : 0 < gcdL l) : gcdL (dvQ l) = 1 := by
  have q : gcdL (dvQ l) * gcdL l ∣ gcdL l := by
    rw [dvd_gcdL]
    intro x hx
    have e := Int.fdiv_mul_cancel (gcdL_dvd hx)
    have d := (dvd_gcdL _ (dvQ l)).mp (Nat.dvd_refl _) (x.fdiv (gcdL l : Nat)) (List.mem_map.mpr ⟨x, hx, rfl⟩)
    have e2 := congrArg Int.natAbs e
    rw [Int.natAbs_mul, Int.natAbs_natCast] at e2
    rw [← e2]
    exact Nat.mul_dvd_mul_right d _
  have le := Nat.le_of_dvd h q
  have p : 0 < gcdL (dvQ l) := by
    rcases Nat.eq_zero_or_pos (gcdL (dvQ l)) with z | z
    · rw [z, Nat.zero_mul] at q
      have := Nat.eq_zero_of_zero_dvd q
      omega
    · exact z
  rcases Nat.lt_or_ge 1 (gcdL (dvQ l)) with z | z
  · have := Nat.mul_le_mul_right (gcdL l) z
    omega
  · omega
theorem fdiv_le {x : Int} {g : Nat} (h : 0 < g) (d : (g : Int) ∣ x) : (x.fdiv g).natAbs ≤ x.natAbs := by
  have e2 := congrArg Int.natAbs (Int.fdiv_mul_cancel d)
  rw [Int.natAbs_mul, Int.natAbs_natCast] at e2
  have := Nat.le_mul_of_pos_right (x.fdiv g).natAbs h
  omega
theorem fdiv_pos {x : Int} {g : Nat} (h : 0 < g) (d : (g : Int) ∣ x) (p : 1 ≤ x) : 1 ≤ x.fdiv g := by
  have e := Int.fdiv_mul_cancel d
  rcases Int.lt_or_le 0 (x.fdiv g) with q | q
  · exact q
  · have := Int.mul_nonpos_of_nonpos_of_nonneg q (show (0 : Int) ≤ (g : Int) by omega)
    omega
section
variable {P : Program} {w : World} {K : PySem.W.Frag} {mg : Str → Option Value} {base : Heap} {C : Addr}
abbrev nNu : List Str := ["_law_rack_here", "_law_many", "_law_size", "_law_parts", "_law_common_here", "_law_k", "_law_part"]
theorem nNu_ : FnScope nNu ["_law_rack_here", "_law_many"] (defScope (top 87)) := (⟨rfl, rfl, rfl, by decide +kernel, rfl, by decide +kernel, by decide +kernel⟩)
abbrev spNu : Sp := PrmR (α := Nat) (fun m r => [.ref r, .int (m : Int)]) (fun m _ => 1 ≤ m ∧ m ≤ 5) (fun m H v H' => ∃ (p : Addr) (ns : List Int), v = .ref p ∧ NumG H' p (m + 1) ns ∧ ∀ x ∈ ns, x.natAbs ≤ 10 ^ 40)
theorem c_nu (D : Df K mg "_law_number" (top 87)) (B : Bl mg) (CP : Cal P w K mg base 1 "_law_pick" ["_law_rack_here", "_law_many"] spPick) (CC : Cal P w K mg base 1 "_law_common" ["_law_parts"] spCom) :
    Cal P w K mg base 2 "_law_number" ["_law_rack_here", "_law_many"] spNu := by
  refine mkR D nNu_ (fun _ _ _ _ _ _ us hl => match us, hl with | [_, _], _ => rfl) (fun _ _ => rfl) (fun f cdv A outer s H m r Q E hr hR hm k => ?_)
  have hm : 1 ≤ m ∧ m ≤ 5 := hm
  obtain ⟨m1, m5⟩ := hm
  have k : ∀ v H', SameX r H H' → RkI H' r → (∃ (p : Addr) (ns : List Int), v = .ref p ∧ NumG H' p (m + 1) ns ∧ ∀ x ∈ ns, x.natAbs ≤ 10 ^ 40) → Q v H' := k
  refine ⟨_, pss_cons (ps_set (i := 2) nNu_.nd rfl (Or.inr rfl) ((pe_ix ix_list (pe_lst (pa_cons pe_int (pa_cons pe_int (pa_cons (pe_op op_pow pe_int pe_int) (pa_cons (pe_op op_pow pe_int pe_int) pa_nil))))) (pe_cl CP hr (pa_cons (pv 0) (pa_cons pe_int pa_nil))) (fun _ _ => rfl))))
    (pss_cons (ps_set (i := 3) nNu_.nd rfl (Or.inr rfl) (pe_op op_cat (pe_lst (pa_cons (pe_op op_add pe_int (pe_cl CP hr (pa_cons (pv 0) (pa_cons (pv 2) pa_nil)))) pa_nil))
        (pe_lc (own := [("_law_k", 5)]) (g := gName 5) (tt := tYes) (te := tOp (rI0 fun i j => .int (i - j)) (tCall spPick [] E0 (tCons (tVar 0) (tCons (tOp (rI CMul fun i j => .int (i * j)) (tC (.int 2)) (tVar 2)) tNil))) (tVar 2)) rfl nNu_.nd
          (pi_range1 (by rfl) B.range_ (pa_cons (pv 1) pa_nil))
          (blkOk_by (N := nNu) (sc := defScope (top 87)) (by decide +kernel)) (fun _ _ _ _ _ => (pg_name (i := 5) (FnScope.nd nNu_) rfl (Or.inl rfl))) (fun _ _ _ _ _ => pts_nil) (fun _ _ _ _ _ => pe_op op_sub (pe_cl CP hr (pa_cons (pv 0) (pa_cons (pe_op op_mul pe_int (pv 2)) pa_nil))) (pv 2)))))
    (pss_cons (ps_set (i := 3) nNu_.nd rfl (Or.inr rfl)
        (pe_lc (own := [("_law_k", 5)]) (g := gName 5) (tt := tYes) (te := tIf (tOr (tTest (tOp rEq (tVar 5) (tC (.int 0)))) (tTest (tOp (rI0 fun i j => .bl (decide (i > j))) (tCall spPick [] E0 (tCons (tVar 0) (tCons (tC (.int 4)) tNil))) (tC (.int 0))))) (tOp (rIxL K) (tVar 3) (tVar 5)) (tC (.int 0))) rfl nNu_.nd
          (pi_range1 (by rfl) B.range_ (pa_cons (pe_op op_add (pv 1) pe_int) pa_nil))
          (blkOk_by (N := nNu) (sc := defScope (top 87)) (by decide +kernel)) (fun _ _ _ _ _ => (pg_name (i := 5) (FnScope.nd nNu_) rfl (Or.inl rfl))) (fun _ _ _ _ _ => pts_nil)
          (fun _ _ _ _ _ => pe_ifExp (PW.pt (pw_or ((pt_cmpR op_eq (pv 5) pe_int (nomark _))) (pw_or1 ((pt_cmpR op_gt (pe_cl CP hr (pa_cons (pv 0) (pa_cons pe_int pa_nil))) pe_int (nomark _)))))) ((pe_ix ix_list (pv 3) (pv 5) (fun _ _ => rfl))) pe_int)))
    (pss_cons (ps_set (i := 4) nNu_.nd rfl (Or.inr rfl) (pe_cl CC hr (pa_cons (pv 3) pa_nil)))
    (pss_one (ps_ret (pe_callTy call_tuple_of (by rfl) B.tuple_ PyProof.Rows.boot_tuple (pa_cons
      (pe_lc (own := [("_law_part", 6)]) (g := gName 6) (tt := tYes) (te := tOp (rI CDivX fun i j => .int (i.fdiv j)) (tVar 6) (tVar 4)) rfl nNu_.nd (pi_list (pv 3))
        (blkOk_by (N := nNu) (sc := defScope (top 87)) (by decide +kernel)) (fun _ _ _ _ _ => (pg_name (i := 6) (FnScope.nd nNu_) rfl (Or.inl rfl))) (fun _ _ _ _ _ => pts_nil)
        (fun _ _ _ _ _ => pe_op op_fdivX (pv 6) (pv 4))) pa_nil))))))), ?_⟩
  have e0 : L2.start nNu [V.ref r, V.int (m : Int)] = [some (.ref r), some (.int (m : Int)), none, none, none, none, none] := rfl
  rw [e0]
  have z4 : (4 : Nat) ≤ sizeLine := by decide
  have big : 100 ≤ sizeLine := by decide
  refine ⟨10, 9, rfl, rfl, ⟨by decide, by decide, by decide⟩, 10, 40, rfl, rfl, ⟨by decide, by decide, by decide⟩, z4, fun l hl => ?_⟩
  have y1 := same_new (o := .lst [.int 3, .int 20, .int (10 ^ 9), .int (10 ^ 40)]) hl
  have lr : l ≠ r := fun e => new_ne hR hl e.symm
  refine ⟨_, rfl, 4, r, rfl, hR.same y1, ⟨by decide, by decide +kernel⟩, ?_⟩
  rintro _ H1 x1 R1 ⟨n1, rfl, n10, n11⟩
  have hl1 : H1 l = some (.lst [.int 3, .int 20, .int (10 ^ 9), .int (10 ^ 40)]) := x1 _ _ lr upd_same
  obtain ⟨sz, hsz, hat⟩ : ∃ sz : Int, (1 ≤ sz ∧ sz ≤ 10 ^ 40) ∧ atI [V.int 3, V.int 20, V.int (10 ^ 9), V.int (10 ^ 40)] n1 = some (.int sz) := by
    rcases (show n1 = 0 ∨ n1 = 1 ∨ n1 = 2 ∨ n1 = 3 by omega) with rfl | rfl | rfl | rfl
    · exact ⟨3, by decide, rfl⟩
    · exact ⟨20, by decide, rfl⟩
    · exact ⟨10 ^ 9, by decide, rfl⟩
    · exact ⟨10 ^ 40, by decide, rfl⟩
  obtain ⟨sz1, sz2⟩ := hsz
  refine ⟨l, _, _, .int sz, rfl, rfl, SqL.of hl1, hat, ?_⟩
  have x2 : SameX r H H1 := (SameX.of y1).trans x1
  clear y1 x1 hl hl1 hat n10 n11
  have ss : ∀ {z : Int}, z.natAbs ≤ 2 * 10 ^ 40 → Sm 150 z := fun {z} h => Nat.lt_of_le_of_lt h (by decide +kernel)
  -- the first part, then the others
  refine ⟨_, rfl, _, rfl, sz, r, rfl, R1, ⟨sz1, ss (by omega)⟩, ?_⟩
  rintro _ H2 x3 R2 ⟨n2, rfl, n20, n21⟩
  have n21 : n2 < sz := n21
  refine ⟨_, _, rfl, rfl, (by show 1 ≤ sizeLine; omega), fun l1 hl1 => ?_⟩
  have y2 := same_new (o := .lst [.int (1 + n2)]) hl1
  have l1r : l1 ≠ r := fun e => new_ne R2 hl1 e.symm
  have el1 : upd H2 l1 (.lst [.int (1 + n2)]) l1 = some (.lst [.int (1 + n2)]) := upd_same
  have R3 := R2.same y2
  have x4 := x2.trans (x3.trans (SameX.of y2))
  generalize upd H2 l1 (.lst [.int (1 + n2)]) = H3 at *
  clear x2 x3 R1 R2 y2 hl1
  refine ⟨_, rfl, _, rfl, by omega, by omega, fun D hD => ?_⟩
  have Dr : D ≠ r := fun e => new_ne R3 hD e.symm
  have em : ((m : Int)).toNat = m := Int.toNat_natCast m
  rw [em]
  refine lc_range (fun i H' => SameX r H3 H' ∧ RkI H' r ∧ ∃ as : List Int, as.length = i ∧ H' D = some (.lst (as.map V.int)) ∧ ∀ a ∈ as, a.natAbs ≤ 10 ^ 40) ⟨SameX.of (same_new hD), R3.same (same_new hD), [], rfl, upd_same, fun a ha => by cases ha⟩ (fun i H' hi e => ?_) (fun H4 e => ?_)
  · obtain ⟨xa, Ra, as, la, ea, ba⟩ := e
    refine ⟨rfl, ?_⟩
    simp only [tYes, if_true]
    refine ⟨_, rfl, _, rfl, _, _, rfl, rfl, .inl ⟨by decide, by decide⟩, 2 * sz, r, rfl, Ra, ⟨by show 1 ≤ 2 * sz; omega, ss (by omega)⟩, ?_⟩
    rintro _ Hb xb Rb ⟨nb, rfl, b0, b1⟩
    have b1 : nb < 2 * sz := b1
    refine ⟨_, rfl, _, _, rfl, rfl, _, xb _ _ Dr ea, ?_, ?_⟩
    · rw [List.length_map, la]
      exact sz_lt (by omega)
    refine ⟨?_, ?_, as ++ [nb - sz], by rw [List.length_append, la]; rfl, ?_, ?_⟩
    · intro b o hb e
      rw [upd_ne (ne_of_none e hD)]
      exact (xa.trans xb) b o hb e
    · obtain ⟨u1, u2, u3, hu⟩ := Rb
      exact ⟨u1, u2, u3, (upd_ne (Ne.symm Dr)).trans hu⟩
    · rw [upd_same, List.map_append]
      rfl
    · intro a ha
      rcases List.mem_append.mp ha with ha | ha
      · exact ba a ha
      · rw [List.mem_singleton.mp ha]
        omega
  obtain ⟨x5, R4, as, la, ea, ba⟩ := e
  have x6 := x4.trans x5
  have el4 := x5 _ _ l1r el1
  refine ⟨l1, D, [.int (1 + n2)], as.map V.int, rfl, rfl, el4, ea, ?_, fun pl hpl => ?_⟩
  · rw [List.length_map, la]
    show 1 + m ≤ sizeLine
    omega
  have y5 := same_new (o := .lst ([V.int (1 + n2)] ++ as.map V.int)) hpl
  have epl : upd H4 pl (.lst ([V.int (1 + n2)] ++ as.map V.int)) pl = some (.lst (((1 + n2) :: as).map V.int)) := upd_same
  have R5 := R4.same y5
  have x7 := x6.trans (SameX.of y5)
  have plr : pl ≠ r := fun e => new_ne R4 hpl e.symm
  generalize upd H4 pl (.lst ([V.int (1 + n2)] ++ as.map V.int)) = H5 at *
  clear x4 x5 x6 R3 R4 y5 hpl el4 ea el1
  have hd1 : 1 ≤ 1 + n2 := by omega
  have hd2 : (1 + n2).natAbs ≤ 10 ^ 40 := by omega
  generalize 1 + n2 = h1 at *
  have allb : ∀ a ∈ h1 :: as, a.natAbs ≤ 10 ^ 40 := fun a ha => by
    rcases List.mem_cons.mp ha with rfl | ha
    · exact hd2
    · exact ba a ha
  have lall : (h1 :: as).length = m + 1 := by rw [List.length_cons, la]
  -- some of them become 0
  refine ⟨_, rfl, _, _, rfl, rfl, _, rfl, by omega, by omega, fun D2 hD2 => ?_⟩
  have D2r : D2 ≠ r := fun e => new_ne R5 hD2 e.symm
  have em2 : ((m : Int) + 1).toNat = m + 1 := by omega
  rw [em2]
  refine lc_range (fun i H' => SameX r H5 H' ∧ RkI H' r ∧ ∃ bs : List Int, bs.length = i ∧ H' D2 = some (.lst (bs.map V.int)) ∧ (∀ a ∈ bs, a.natAbs ≤ 10 ^ 40) ∧ (1 ≤ i → bs.getD 0 0 = h1)) ⟨SameX.of (same_new hD2), R5.same (same_new hD2), [], rfl, upd_same, fun a ha => (by cases ha), fun z => absurd z (by decide)⟩ (fun i H' hi e => ?_) (fun H6 e => ?_)
  · obtain ⟨xa, Ra, bs, lb, eb, bb, b0⟩ := e
    have li : i < (h1 :: as).length := by omega
    obtain ⟨y, hy⟩ : ∃ y, (h1 :: as)[i]? = some y := ⟨_, List.getElem?_eq_getElem li⟩
    have yb := allb y (List.mem_of_getElem? hy)
    have fin : ∀ (z : Int) (Hb : Hp), SameX r H' Hb → RkI Hb r → z.natAbs ≤ 10 ^ 40 → (i = 0 → z = h1) → ∃ acc, Hb D2 = some (.lst acc) ∧ acc.length < sizeLine ∧ (SameX r H5 (upd Hb D2 (.lst (acc ++ [V.int z]))) ∧ RkI (upd Hb D2 (.lst (acc ++ [V.int z]))) r ∧ ∃ bs : List Int, bs.length = i + 1 ∧ (upd Hb D2 (.lst (acc ++ [V.int z]))) D2 = some (.lst (bs.map V.int)) ∧ (∀ a ∈ bs, a.natAbs ≤ 10 ^ 40) ∧ (1 ≤ i + 1 → bs.getD 0 0 = h1)) := fun z Hb xb Rb zb z0 => by
      refine ⟨_, xb _ _ D2r eb, ?_, ?_, ?_, bs ++ [z], by rw [List.length_append, lb]; rfl, ?_, ?_, fun _ => ?_⟩
      · rw [List.length_map, lb]
        exact sz_lt (by omega)
      · intro b o hb e
        rw [upd_ne (ne_of_none e hD2)]
        exact (xa.trans xb) b o hb e
      · obtain ⟨u1, u2, u3, hu⟩ := Rb
        exact ⟨u1, u2, u3, (upd_ne (Ne.symm D2r)).trans hu⟩
      · rw [upd_same, List.map_append]
        rfl
      · intro a ha
        rcases List.mem_append.mp ha with ha | ha
        · exact bb a ha
        · rw [List.mem_singleton.mp ha]
          exact zb
      · cases bs with
        | nil => exact z0 (by simpa using lb.symm)
        | cons x l => exact b0 (by rw [← lb]; simp)
    refine ⟨rfl, ?_⟩
    simp only [tYes, if_true]
    refine ⟨_, rfl, rfl, _, rfl, ?_⟩
    have hy2 : ((h1 :: as).map V.int)[i]? = some (.int y) := by rw [List.getElem?_map, hy]; rfl
    by_cases i0 : i = 0
    · rw [decide_eq_true (show V.int (0 + (i : Int)) = V.int 0 by rw [i0]; rfl)]
      refine iteT ⟨_, rfl, _, rfl, pl, _, _, .int y, rfl, rfl, SqL.of (xa _ _ plr epl), (by rw [Int.zero_add]; exact atI_nat hy2), ?_⟩
      exact fin y H' (SameX.of (Same.refl _)) Ra yb fun z => by
        rw [z] at hy
        exact (Option.some.inj hy).symm
    · rw [decide_eq_false (show ¬ V.int (0 + (i : Int)) = V.int 0 from fun z => i0 (by have := V.int.inj z; omega))]
      refine iteF ⟨_, rfl, 4, r, rfl, Ra, ⟨by decide, by decide +kernel⟩, ?_⟩
      rintro _ Hb xb Rb ⟨nb, rfl, b0', b1⟩
      refine ⟨_, _, rfl, rfl, _, rfl, ?_⟩
      by_cases c : nb > 0
      · rw [decide_eq_true c]
        refine iteT ⟨_, rfl, _, rfl, pl, _, _, .int y, rfl, rfl, SqL.of ((xa.trans xb) _ _ plr epl), (by rw [Int.zero_add]; exact atI_nat hy2), ?_⟩
        exact fin y Hb xb Rb yb fun z => absurd z i0
      · rw [decide_eq_false c]
        exact iteF (fin 0 Hb xb Rb (by decide) fun z => absurd z i0)
  obtain ⟨xa, Ra, bs, lb, eb, bb, b0⟩ := e
  have b0 := b0 (by omega)
  obtain ⟨t, rfl⟩ : ∃ t, bs = h1 :: t := by
    cases bs with
    | nil => cases lb
    | cons x l => exact ⟨l, by rw [← b0]; rfl⟩
  have xF := x7.trans xa
  refine ⟨_, rfl, (D2, h1 :: t), rfl, ⟨.inl eb, (by show (h1 :: t).length ≤ 100; omega), fun x hx => Nat.lt_of_le_of_lt (bb x hx) (Nat.lt_of_lt_of_le (show 10 ^ 40 < 2 ^ 133 by decide +kernel) (Nat.pow_le_pow_right (by decide) (by decide)))⟩, ?_⟩
  rintro _ HX s7 ⟨rfl, eX⟩
  have eX : H6 = HX := (show HX = H6 from eX).symm
  subst eX
  have gp : 0 < gcdL (h1 :: t) := (gcd_head (show h1 ≠ 0 by omega)).1
  have gl : gcdL (h1 :: t) < 2 ^ 8000 := Nat.lt_of_le_of_lt (Nat.le_trans (gcd_head (show h1 ≠ 0 by omega)).2 hd2) (Nat.lt_of_lt_of_le (show 10 ^ 40 < 2 ^ 133 by decide +kernel) (Nat.pow_le_pow_right (by decide) (by decide)))
  refine ⟨_, rfl, D2, rfl, ⟨_, SqL.of eb⟩, fun D3 hD3 => lc_list (xs := (h1 :: t).map V.int) (fun i H' => Same H6 H' ∧ H' D3 = some (.lst (((((h1 :: t)).take i).map fun x => x.fdiv (gcdL (h1 :: t) : Nat)).map V.int))) ⟨same_new hD3, upd_same⟩ (fun i H' _ e => SqL.of (e.1 _ _ eb)) (fun i x H' hx e => ?_) (fun H' e => ?_)⟩
  · obtain ⟨s6, e6⟩ := e
    obtain ⟨z, hz, rfl⟩ := at_map hx
    have li : i < m + 1 := lb ▸ lt_of_at hz
    refine ⟨rfl, _, rfl, _, rfl, _, _, rfl, rfl, dv_lc gp gl, _, e6, ?_, Same.put s6 hD3, ?_⟩
    · rw [List.length_map, List.length_map, List.length_take]
      exact sz_lt (Nat.le_trans (Nat.min_le_left _ _) (by omega))
    · rw [upd_same, List.take_succ, hz, List.map_append, List.map_append]
      rfl
  · obtain ⟨s6, e6⟩ := e
    rw [List.length_map, List.take_length] at e6
    refine ⟨D3, _, rfl, .inl ⟨SqL.of e6, fun q3 hq3 => ?_⟩⟩
    have s8 := s6.trans (same_new (o := .tup (((h1 :: t).map fun x => x.fdiv (gcdL (h1 :: t) : Nat)).map V.int)) hq3)
    refine k _ _ (xF.trans (SameX.of s8)) (Ra.same s8) ⟨q3, dvQ (h1 :: t), rfl, ⟨upd_same, ?_, ?_, dvQ_gcd gp⟩, fun x hx => ?_⟩
    · unfold dvQ
      rw [List.length_map, lb]
    · exact fdiv_pos gp (gcdL_dvd (List.mem_cons_self ..)) hd1
    · obtain ⟨y, hy, rfl⟩ := List.mem_map.mp hx
      exact Nat.le_trans (fdiv_le gp (gcdL_dvd hy)) (bb y hy)
abbrev nTu : List Str := ["_law_equation_here", "_law_number_here", "_law_bottom", "_law_a", "_law_b"]
theorem nTu_ : FnScope nTu ["_law_equation_here", "_law_number_here"] (defScope (top 88)) := (⟨rfl, rfl, rfl, by decide +kernel, rfl, by decide +kernel, by decide +kernel⟩)
abbrev spTu : Sp := Prm (α := Addr × Addr × (Int × Int) × Int × Int × Int) (fun ⟨q, p, _⟩ => [.ref q, .ref p]) (fun ⟨q, p, (c, m), u, v, x⟩ H => TI H q [c, m, 1] ∧ TI H p [u, v, x] ∧ Sm 500 x ∧ Sm 500 m) (fun ⟨q, p, (c, m), u, v, x⟩ H o H' => ∃ t, o = .ref t ∧ TI H' t [u, v - x * m, 0 - x])
theorem c_tu (D : Df K mg "_law_turned" (top 88)) : Cal P w K mg base 1 "_law_turned" ["_law_equation_here", "_law_number_here"] spTu := by
  refine mkC D nTu_ (fun _ _ _ _ _ _ us hl => match us, hl with | [_, _], _ => rfl) (fun _ => rfl) (fun f cdv A outer s H a Q E hr h k => ?_)
  obtain ⟨q, p, ⟨c, m⟩, u, v, x⟩ := a
  obtain ⟨hq, hp, sx, sm⟩ := h
  have hq : H q = some (.tup [.int c, .int m, .int 1]) := hq
  have hp : H p = some (.tup [.int u, .int v, .int x]) := hp
  have sx : Sm 500 x := sx
  have sm : Sm 500 m := sm
  refine ⟨_, pss_cons (ps_asg (pv 1) (pg_tup rfl (pgs_cons ((pg_name (i := 2) (FnScope.nd nTu_) rfl (Or.inl rfl))) (pgs_cons ((pg_name (i := 3) (FnScope.nd nTu_) rfl (Or.inl rfl))) (pgs_cons ((pg_name (i := 4) (FnScope.nd nTu_) rfl (Or.inl rfl))) pgs_nil)))))
    (pss_one (ps_ret (pe_tup (pa_cons (pv 2) (pa_cons (pe_op op_sub (pv 3) (pe_op op_mulW (pv 4) ((pe_ix ix_tup (pv 0) pe_int (fun _ _ => rfl))))) (pa_cons (pe_op op_sub pe_int (pv 4)) pa_nil)))))), ?_⟩
  refine ⟨_, rfl, p, _, rfl, SqT.of hp, rfl, _, _, rfl, _, _, rfl, _, _, rfl, rfl, ?_⟩
  refine ⟨_, rfl, _, rfl, _, rfl, _, rfl, q, _, _, .int m, rfl, rfl, SqT.of hq, atI_nat (j := 1) rfl, _, _, rfl, rfl, cm sx sm, _, _, rfl, rfl, _, rfl, _, _, rfl, rfl, (by show 3 ≤ sizeLine; decide), fun t ht => ?_⟩
  exact k _ _ (same_new ht) ⟨t, rfl, upd_same⟩
end
end Xq

/-! What _law_right rests on. -/
namespace Xq
open PySem PySem.Spec PyProof.Rows L2 Xk
theorem len_add (a b : Str) : (a ++ b).length = a.length + b.length := by
  rw [TL.len_tl, TL.len_tl, TL.len_tl, TL.tl_append, List.length_append]
theorem none_of {r p : Addr} {H H' : Hp} (s : SameX r H H') (k : RkI H' r) (h : H' p = none) : H p = none := by
  cases z : H p with
  | none => rfl
  | some o =>
    have := s _ _ (fun e => new_ne k h e.symm) z
    rw [h] at this
    cases this
theorem ShpG.sl {C l x : Addr} {H H' : Hp} {t : Str} {r : Int} {xs : List Int} {ys : List V} (e : H l = some (.lst ys)) (s : SameX l H H') (h : ShpG C H x t r xs) : ShpG C H' x t r xs := by
  obtain ⟨dx, q, h1, h2⟩ := h
  exact ⟨dx, q, s _ _ (fun z => by rw [z, e] at h1; cases h1) h1, TI.sl e s h2⟩
theorem ShpG.sameX {C r x : Addr} {H H' : Hp} {t : Str} {k : Int} {xs : List Int} (R : RkI H r) (s : SameX r H H') (h : ShpG C H x t k xs) : ShpG C H' x t k xs := by
  obtain ⟨a, b, c, e⟩ := R
  exact ShpG.sl e s h
theorem S1.sl {l : Addr} {H H' : Hp} {ys : List V} (e : H l = some (.lst ys)) (s : SameX l H H') {v : V} {d : PyData} : S1 H v d → S1 H' v d
  | .int i => .int i
  | .tup h => .tup (TI.sl e s h)
theorem SA.sl {l : Addr} {H H' : Hp} {ys : List V} (e : H l = some (.lst ys)) (s : SameX l H H') : ∀ {vs : List V} {ds : List PyData}, SA H vs ds → SA H' vs ds
  | _, _, .nil => .nil
  | _, _, .cons a b => .cons (a.sl e s) (SA.sl e s b)
theorem SA.len {H : Hp} : ∀ {vs : List V} {ds : List PyData}, SA H vs ds → vs.length = ds.length
  | _, _, .nil => rfl
  | _, _, .cons _ b => congrArg (· + 1) (SA.len b)
/-- a number that the law draws -/
structure Nm (u v w : Int) : Prop where
  pos : 1 ≤ u
  red : gcdL [u, v, w] = 1
  bu : u.natAbs ≤ 10 ^ 40
  bv : v.natAbs ≤ 10 ^ 40
  bw : w.natAbs ≤ 10 ^ 40
theorem nm_of {H : Hp} {p : Addr} {ns : List Int} (h : NumG H p 3 ns) (b : ∀ x ∈ ns, x.natAbs ≤ 10 ^ 40) : ∃ u v w, ns = [u, v, w] ∧ Nm u v w := by
  obtain ⟨h1, h2, h3, h4⟩ := h
  rcases ns with _ | ⟨u, _ | ⟨v, _ | ⟨w, _ | ⟨z, l⟩⟩⟩⟩
  · cases h2
  · cases h2
  · cases h2
  · exact ⟨u, v, w, rfl, h3, h4, b u (by simp), b v (by simp), b w (by simp)⟩
  · simp at h2
section
variable {c m r u v w u' v' w' : Int}
theorem s140 {x : Int} (h : x.natAbs ≤ 10 ^ 40) : Sm 133 x := Nat.lt_of_le_of_lt h (by decide +kernel)
theorem Nm.num {H : Hp} {p : Addr} (h : Nm u v w) (t : TI H p [u, v, w]) : NumG H p 3 [u, v, w] := ⟨t, rfl, h.pos, h.red⟩
theorem Nm.sm (h : Nm u v w) : smB 3000 [u, v, w] = true := smB_3 (sm_le (s140 h.bu) (by decide)) (sm_le (s140 h.bv) (by decide)) (sm_le (s140 h.bw) (by decide))
theorem Eb.sc {k : Nat} (h : Eb c m) (hk : 10 ≤ k) : Sm k c := Nat.lt_of_lt_of_le (show c.natAbs < 2 ^ 10 by have := h.mm; have := h.c1; have := h.c4; omega) (Nat.pow_le_pow_right (by decide) hk)
theorem Eb.sm {k : Nat} (h : Eb c m) (hk : 6 ≤ k) : Sm k m := Nat.lt_of_lt_of_le (show m.natAbs < 2 ^ 6 by have := h.m1; have := h.m2; omega) (Nat.pow_le_pow_right (by decide) hk)
theorem it_low {b x y : Int} (b0 : b ≠ 0) (sb : Sm 600 b) (sx : Sm 600 x) (sy : Sm 600 y) : It1 (.tuple ((lowL 2 b [x, y]).map PyData.int)) := by
  obtain ⟨g, u, v, w, e, nf, g0, e1, e2, e3, _⟩ := low_spec (b := b) x y b0
  rw [e]
  exact it_three (sm_dvd e1.symm g0 sb) (sm_dvd e2.symm g0 sx) (sm_dvd e3.symm g0 sy)
theorem it_tot (h : Nm u v w) (h' : Nm u' v' w') : It1 (.tuple ((totL 3 [u, v, w] [u', v', w']).map PyData.int)) := by
  have := h.pos
  have := h'.pos
  rw [tot_N]
  exact it_low (Int.mul_ne_zero (by omega) (by omega)) (sm_le (sm_mul (s140 h.bu) (s140 h'.bu)) (by decide)) (sm_le (sm_add (sm_mul (s140 h'.bu) (s140 h.bv)) (sm_mul (s140 h.bu) (s140 h'.bv))) (by decide)) (sm_le (sm_add (sm_mul (s140 h'.bu) (s140 h.bw)) (sm_mul (s140 h.bu) (s140 h'.bw))) (by decide))
theorem it_pro (hE : Eb c m) (h : Nm u v w) (h' : Nm u' v' w') : It1 (.tuple ((proL [c, m, 1] [u, v, w] [u', v', w']).map PyData.int)) := by
  have := h.pos
  have := h'.pos
  rw [pro_N]
  refine it_low (Int.mul_ne_zero (by omega) (by omega)) (sm_le (sm_mul (s140 h.bu) (s140 h'.bu)) (by decide)) (sm_le (sm_sub (a := 300) (sm_le (sm_mul (s140 h.bv) (s140 h'.bv)) (by decide)) (sm_le (sm_mul (sm_mul (s140 h.bw) (s140 h'.bw)) (hE.sc (Nat.le_refl _))) (by decide))) (by decide)) ?_
  exact sm_le (sm_sub (a := 300) (sm_le (sm_add (sm_mul (s140 h.bv) (s140 h'.bw)) (sm_mul (s140 h.bw) (s140 h'.bv))) (by decide)) (sm_le (sm_mul (sm_mul (s140 h.bw) (s140 h'.bw)) (hE.sm (Nat.le_refl _))) (by decide))) (by decide)
theorem it_quo (hE : Eb c m) (h : Nm u v w) (h' : Nm u' v' w') (nz : ¬ (v' = 0 ∧ w' = 0)) : It1 (.tuple ((quoL [c, m, 1] [u, v, w] [u', v', w']).map PyData.int)) := by
  have := h.pos
  have := h'.pos
  have := hE.c1
  have n0 := nrm_ne hE nz
  rw [quo_N (by omega) (by omega) (by omega) n0]
  have sv := s140 h'.bv
  have sw := s140 h'.bw
  have sn : Sm 300 (nrm c m v' w') := by
    unfold nrm
    exact sm_le (sm_add (a := 290) (sm_le (sm_sub (a := 280) (sm_le (sm_mul sv sv) (by decide)) (sm_le (sm_mul (sm_mul (hE.sm (Nat.le_refl _)) sv) sw) (by decide))) (by decide)) (sm_le (sm_mul (sm_mul (hE.sc (Nat.le_refl _)) sw) sw) (by decide))) (by decide)
  refine it_low (Int.mul_ne_zero (by omega) n0) (sm_le (sm_mul (s140 h.bu) sn) (by decide)) ?_ ?_
  · refine sm_le (sm_mul (a := 133) (b := 300) (s140 h'.bu) (sm_le (sm_add (a := 290) (sm_le (sm_mul (s140 h.bv) (sm_sub (a := 140) (sm_le sv (by decide)) (sm_le (sm_mul (hE.sm (Nat.le_refl _)) sw) (by decide)))) (by decide)) (sm_le (sm_mul (sm_mul (s140 h.bw) sw) (hE.sc (Nat.le_refl _))) (by decide))) (by decide))) (by decide)
  · exact sm_le (sm_mul (a := 133) (b := 300) (s140 h'.bu) (sm_le (sm_sub (sm_mul (s140 h.bw) sv) (sm_mul (s140 h.bv) sw)) (by decide))) (by decide)
theorem it_opp (h : Nm u v w) : It1 (.tuple ((oppL [u, v, w]).map PyData.int)) := it_three (sm_le (s140 h.bu) (by decide)) (sm_le (sm_neg (s140 h.bv)) (by decide)) (sm_le (sm_neg (s140 h.bw)) (by decide))
/-- whether the second number is 0, as the law asks -/
def zqL (u v w : Int) : Bool := PyData.eqv (dT [u, v, w]) (dT [1, 0, 0])
theorem zq_ne (h : Nm u v w) (e : zqL u v w = false) : ¬ (v = 0 ∧ w = 0) := by
  rintro ⟨rfl, rfl⟩
  have u1 : u = 1 := by
    have q := h.red
    rw [gcd3] at q
    simp at q
    have := h.pos
    omega
  rw [u1] at e
  have t : zqL 1 0 0 = true := by decide +kernel
  rw [t] at e
  cases e
/-- what the law has told of both numbers -/
def dsL (c m u v w u' v' w' : Int) : List PyData := [.tuple ((totL 3 [u, v, w] [u', v', w']).map PyData.int), .tuple ((proL [c, m, 1] [u, v, w] [u', v', w']).map PyData.int), .tuple ((oppL [u, v, w]).map PyData.int)] ++
  if zqL u' v' w' then [] else [.tuple ((quoL [c, m, 1] [u, v, w] [u', v', w']).map PyData.int)]
theorem ds_sho (hE : Eb c m) (h : Nm u v w) (h' : Nm u' v' w') : Sho (.list (dsL c m u v w u' v' w')) := by
  unfold dsL
  cases e : zqL u' v' w' with
  | true =>
    refine sho_list (fun d hd => ?_) (by show 3 ≤ 10; decide)
    simp only [if_true, List.append_nil, List.mem_cons, List.not_mem_nil, or_false] at hd
    rcases hd with rfl | rfl | rfl
    · exact it_tot h h'
    · exact it_pro hE h h'
    · exact it_opp h
  | false =>
    refine sho_list (fun d hd => ?_) (by show 4 ≤ 10; decide)
    simp only [Bool.false_eq_true, if_false, List.cons_append, List.nil_append, List.mem_cons, List.not_mem_nil, or_false] at hd
    rcases hd with rfl | rfl | rfl | rfl
    · exact it_tot h h'
    · exact it_pro hE h h'
    · exact it_opp h
    · exact it_quo hE h h' (zq_ne h' e)
theorem tx_0 (xs : List Int) : Str.ofString "root 0" ++ (Str.ofString " of " ++ wordsL xs) = txL 0 xs := by
  refine TL.ext_tl ?_
  rw [tl_tx, TL.tl_append, TL.tl_append, tl_words, show TL.tl (Str.ofString "root 0") = [114, 111, 111, 116, 32] ++ [48] from rfl, show TL.tl (Str.ofString " of ") = [32, 111, 102, 32] from rfl, show TL.tl (W 0) = [48] from rfl]
  simp
theorem tx_1 (xs : List Int) : Str.ofString "root 1" ++ (Str.ofString " of " ++ wordsL xs) = txL 1 xs := by
  refine TL.ext_tl ?_
  rw [tl_tx, TL.tl_append, TL.tl_append, tl_words, show TL.tl (Str.ofString "root 1") = [114, 111, 111, 116, 32] ++ [49] from rfl, show TL.tl (Str.ofString " of ") = [32, 111, 102, 32] from rfl, show TL.tl (W 1) = [49] from rfl]
  simp
theorem Nm.pro (hE : Eb c m) (h : Nm u v w) (h' : Nm u' v' w') : okPro [c, m, 1] [u, v, w] [u', v', w'] = true := by
  have := h.pos
  have := h'.pos
  exact okPro_N (hE.sc (by decide)) (hE.sm (by decide)) (by omega) (by omega) (sm_le (s140 h.bu) (by decide)) (sm_le (s140 h.bv) (by decide)) (sm_le (s140 h.bw) (by decide)) (sm_le (s140 h'.bu) (by decide)) (sm_le (s140 h'.bv) (by decide)) (sm_le (s140 h'.bw) (by decide))
theorem Nm.quo (hE : Eb c m) (h : Nm u v w) (h' : Nm u' v' w') (nz : ¬ (v' = 0 ∧ w' = 0)) : trimI (([u', v', w'] : List Int).drop 1) ≠ [] ∧ okQuo [c, m, 1] [u, v, w] [u', v', w'] = true := by
  have := h.pos
  have := h'.pos
  have := hE.c1
  exact ⟨trim_ne nz, okQuo_N (by omega) (nrm_ne hE nz) (hE.sc (by decide)) (hE.sm (by decide)) (by omega) (by omega) (sm_le (s140 h.bu) (by decide)) (sm_le (s140 h.bv) (by decide)) (sm_le (s140 h.bw) (by decide)) (sm_le (s140 h'.bu) (by decide)) (sm_le (s140 h'.bv) (by decide)) (sm_le (s140 h'.bw) (by decide))⟩
/-- the mirror's sizes -/
theorem Nm.sv2 (hE : Eb c m) (h : Nm u v w) : Sm 141 (v - w * m) := sm_sub (a := 140) (sm_le (s140 h.bv) (by decide)) (sm_le (sm_mul (s140 h.bw) (hE.sm (Nat.le_refl _))) (by decide))
theorem Nm.sw2 (h : Nm u v w) : Sm 134 (0 - w) := sm_sub (a := 133) (Nat.two_pow_pos 133) (s140 h.bw)
theorem Nm.w150 (h : Nm u v w) : w.natAbs ≤ 2 ^ 150 := Nat.le_trans h.bw (by decide +kernel)
theorem Nm.w150' (h : Nm u v w) : (0 - w).natAbs ≤ 2 ^ 150 := by
  have : (0 - w).natAbs = w.natAbs := by omega
  rw [this]
  exact h.w150
theorem fd1 (l : List Int) : (l.map fun x => x.fdiv ((1 : Nat) : Int)) = l := by
  have : (fun x : Int => x.fdiv ((1 : Nat) : Int)) = id := funext fun x => Int.fdiv_one x
  rw [this, List.map_id]
end
end Xq

/-! _law_right. -/
namespace Xq
open PySem PySem.Spec PyProof.Rows L2 Xk
abbrev nRR : List Str := ["_law_rack_here", "_law_equation_here", "_law_stretch", "_law_text_here", "_law_low", "_law_high", "_law_turn", "_law_one", "_law_two", "_law_found", "_law_shape_here", "_law_told", "_law_other", "_law_common_here", "_law_times", "_law_term", "_law_part"]
theorem nRR_ : FnScope nRR ["_law_rack_here"] (defScope (top 89)) := (⟨rfl, rfl, rfl, by decide +kernel, rfl, by decide +kernel, by decide +kernel⟩)
def spRight : Sp := fun vs H Q _ => ∃ r, vs = [.ref r] ∧ RkI H r ∧ ∀ H', SameX r H H' → RkI H' r → Q (.bl true) H'
section
variable {P : Program} {w : World} {K : PySem.W.Frag} {mg : Str → Option Value} {base : Heap} {C : Addr}
structure Cs (P : Program) (w : World) (K : PySem.W.Frag) (mg : Str → Option Value) (base : Heap) (C : Addr) : Prop where
  B : Bl mg
  S : ShC K mg C
  pick : Cal P w K mg base 1 "_law_pick" ["_law_rack_here", "_law_many"] spPick
  com : Cal P w K mg base 1 "_law_common" ["_law_parts"] spCom
  two : Cal P w K mg base 2 "_law_two_roots" ["_law_rack_here"] spTwo
  nu : Cal P w K mg base 2 "_law_number" ["_law_rack_here", "_law_many"] spNu
  tu : Cal P w K mg base 1 "_law_turned" ["_law_equation_here", "_law_number_here"] spTu
  told : Cal P w K mg base 6 "told_by" ["text"] spToldG
  str : Cal P w K mg base 6 "stretch_of" ["equation", "rank"] spStrG
  total : Cal P w K mg base 5 "total" ["shape", "first", "second"] (spTotal C)
  product : Cal P w K mg base 5 "product" ["shape", "first", "second"] (spProd C)
  quotient : Cal P w K mg base 5 "quotient" ["shape", "first", "second"] (spQuot C)
  opp : Cal P w K mg base 5 "opposite" ["shape", "number"] (spOppG C)
  sign : Cal P w K mg base 6 "sign" ["shape", "number"] (spSign C)
  floor : Cal P w K mg base 6 "floor_of" ["shape", "number", "scale"] (spFloor C)
theorem c_right (D : Df K mg "_law_right" (top 89)) (U : Cs P w K mg base C) : CalG P w K mg base 10 "_law_right" ["_law_rack_here"] spRight := by
  refine mkG D nRR_ (fun _ _ _ _ _ _ us hl => match us, hl with | [_], _ => rfl) (fun vs H Q E h => ?_) (fun f cdv A outer s H vs Q E hr hG h => ?_)
  · obtain ⟨r, rfl, _⟩ := h
    rfl
  obtain ⟨r, rfl, hR, k⟩ := h
  have hG2 : (A.deeper (envOfC "_law_right" (defScope (top 89)) s.heap.objs.size f cdv)).guards = some [] := hG
  have hu : (A.deeper (envOfC "_law_right" (defScope (top 89)) s.heap.objs.size f cdv)).units + 21 < cLine := by have := hr.un; omega
  have hu2 : (A.deeper (envOfC "_law_right" (defScope (top 89)) s.heap.objs.size f cdv)).units + 64 < cLine := by have := hr.un; omega
  have r8 : Room (0 + 8) (A.deeper (envOfC "_law_right" (defScope (top 89)) s.heap.objs.size f cdv)) := hr.mono (by decide)
  refine ⟨_, pss_cons (ps_asg (pe_cl U.two hr (pa_cons (pv 0) pa_nil)) (pg_tup rfl (pgs_cons ((pg_name (i := 1) (FnScope.nd nRR_) rfl (Or.inl rfl))) (pgs_cons ((pg_name (i := 2) (FnScope.nd nRR_) rfl (Or.inl rfl))) pgs_nil))))
    (pss_cons ((ps_set (i := 3) (FnScope.nd nRR_) rfl (Or.inl rfl) (pe_op op_add_str pe_str (pe_bm PySem.F.plainAttrs_str PySem.F.slot_str_join PySem.F.type_str_join mt_join pe_str (pa_cons
      (pe_lc (own := [("_law_term", 15)]) (g := gName 15) (tt := tYes) (te := tCB (fun xs H Q => ∃ i, xs = [.int i] ∧ i.natAbs.log2 < 1920 ∧ Q (.str (toString i)) H) (tCons (tVar 15) tNil)) rfl nRR_.nd (pi_tup (pv 1))
        (blkOk_by (N := nRR) (sc := defScope (top 89)) (by decide +kernel)) (fun _ _ _ _ _ => (pg_name (i := 15) (FnScope.nd nRR_) rfl (Or.inl rfl))) (fun _ _ _ _ _ => pts_nil)
        (fun _ _ _ _ _ => pe_callTy call_str_int (by rfl) U.B.str_ PyProof.Rows.boot_str (pa_cons (pv 15) pa_nil))) pa_nil)))))
    (pss_cons (ps_par (i := 4) (j := 5) rfl nRR_.nd rfl rfl (by decide) rfl rfl (pa_cons (pe_mkG (j := 0) U.S U.told U.str (pe_op op_add_str pe_str (pv 3)) r8 (by rfl)) (pa_cons (pe_mkG (j := 0) U.S U.told U.str (pe_op op_add_str pe_str (pv 3)) r8 (by rfl)) pa_nil)) rfl)
    (pss_cons (ps_for PassesOwn.never rfl (pi_range1 (by rfl) U.B.range_ (pa_cons pe_int pa_nil)) ((pg_name (i := 6) (FnScope.nd nRR_) rfl (Or.inl rfl)))
      (pss_cons (ps_par (i := 7) (j := 8) rfl nRR_.nd rfl rfl (by decide) rfl rfl (pa_cons (pe_cl U.nu hr (pa_cons (pv 0) (pa_cons pe_int pa_nil))) (pa_cons (pe_cl U.nu hr (pa_cons (pv 0) (pa_cons pe_int pa_nil))) pa_nil)) rfl)
      (pss_cons ((ps_set (i := 9) (FnScope.nd nRR_) rfl (Or.inl rfl) (pe_lst pa_nil)))
      (pss_cons (ps_for PassesOwn.never rfl (pi_list (pe_lst (pa_cons (pv 4) (pa_cons (pv 5) pa_nil)))) ((pg_name (i := 10) (FnScope.nd nRR_) rfl (Or.inl rfl)))
        (pss_cons ((ps_set (i := 11) (FnScope.nd nRR_) rfl (Or.inl rfl) (pe_lst (pa_cons (pe_cl U.total hr (pa_cons (pv 10) (pa_cons (pv 7) (pa_cons (pv 8) pa_nil)))) (pa_cons (pe_cl U.product hr (pa_cons (pv 10) (pa_cons (pv 7) (pa_cons (pv 8) pa_nil)))) (pa_cons (pe_cl U.opp hr (pa_cons (pv 10) (pa_cons (pv 7) pa_nil))) pa_nil))))))
        (C8.pss_cut (ps_if (pt_cmpR (op_neD hu2) (pv 8) (pe_tup (pa_cons pe_int (pa_cons pe_int (pa_cons pe_int pa_nil)))) (nomark _)) (pss_one (ps_expr ((pe_bm PySem.F.plainAttrs_list PySem.F.slot_list_append PySem.F.type_list_append mt_append (pv 11) (pa_cons (pe_cl U.quotient hr (pa_cons (pv 10) (pa_cons (pv 7) (pa_cons (pv 8) pa_nil)))) pa_nil))))) pss_nil)
        (pss_one (ps_expr ((pe_bm PySem.F.plainAttrs_list PySem.F.slot_list_append PySem.F.type_list_append mt_append (pv 9) (pa_cons (pv 11) pa_nil))))))))
      (pss_cons (ps_if ((pt_cmpR op_ne (pe_callB (call_rep1 hG2 hu) (by rfl) U.B.repr_ PyProof.Rows.boot_repr (pa_cons ((pe_ix ix_list (pv 9) pe_int (fun _ _ => rfl))) pa_nil)) (pe_callB (call_rep1 hG2 hu) (by rfl) U.B.repr_ PyProof.Rows.boot_repr (pa_cons ((pe_ix ix_list (pv 9) pe_int (fun _ _ => rfl))) pa_nil)) (nomark _))) pss_nv pss_nil)
      (pss_cons ((ps_set (i := 12) (FnScope.nd nRR_) rfl (Or.inl rfl) (pe_cl U.tu hr (pa_cons (pv 1) (pa_cons (pv 7) pa_nil)))))
      (pss_cons (ps_set (i := 13) nRR_.nd rfl (Or.inr rfl) (pe_cl U.com hr (pa_cons (pv 12) pa_nil)))
      (pss_cons ((ps_set (i := 12) (FnScope.nd nRR_) rfl (Or.inl rfl) (pe_callTy call_tuple_of (by rfl) U.B.tuple_ PyProof.Rows.boot_tuple (pa_cons
        (pe_lc (own := [("_law_part", 16)]) (g := gName 16) (tt := tYes) (te := tOp (rI CDivX fun i j => .int (i.fdiv j)) (tVar 16) (tVar 13)) rfl nRR_.nd (pi_tup (pv 12))
          (blkOk_by (N := nRR) (sc := defScope (top 89)) (by decide +kernel)) (fun _ _ _ _ _ => (pg_name (i := 16) (FnScope.nd nRR_) rfl (Or.inl rfl))) (fun _ _ _ _ _ => pts_nil)
          (fun _ _ _ _ _ => pe_op op_fdivX (pv 16) (pv 13))) pa_nil))))
      (C8.pss_cut ((ps_set (i := 14) (FnScope.nd nRR_) rfl (Or.inl rfl) (pe_op op_add pe_int (pe_cl U.pick hr (pa_cons (pv 0) (pa_cons (pe_op op_pow pe_int pe_int) pa_nil))))))
      (pss_cons (ps_if (PW.pt (pw_or ((pt_cmpR op_ne (pe_cl U.sign hr (pa_cons (pv 4) (pa_cons (pv 7) pa_nil))) (pe_cl U.sign hr (pa_cons (pv 5) (pa_cons (pv 12) pa_nil))) (nomark _)))
          (pw_or1 ((pt_cmpR op_ne (pe_cl U.sign hr (pa_cons (pv 5) (pa_cons (pv 7) pa_nil))) (pe_cl U.sign hr (pa_cons (pv 4) (pa_cons (pv 12) pa_nil))) (nomark _)))))) pss_nv pss_nil)
      (pss_one (ps_if ((pt_cmpR op_ne (pe_cl U.floor hr (pa_cons (pv 4) (pa_cons (pv 7) (pa_cons (pv 14) pa_nil)))) (pe_cl U.floor hr (pa_cons (pv 5) (pa_cons (pv 12) (pa_cons (pv 14) pa_nil)))) (nomark _))) pss_nv pss_nil))))))))))))
    (pss_one (ps_ret pe_bl))))), ?_⟩
  have e0 : L2.start nRR [V.ref r] = [some (.ref r), none, none, none, none, none, none, none, none, none, none, none, none, none, none, none, none] := rfl
  rw [e0]
  have z2 : (2 : Nat) ≤ sizeLine := by decide
  have z3 : (3 : Nat) ≤ sizeLine := by decide
  have big : 600 ≤ sizeLine := by decide
  refine ⟨_, rfl, (), r, rfl, hR, trivial, ?_⟩
  rintro _ H1 x1 R1 ⟨pp, q, st, lo, hi, c, m, sx, sy, rfl, epp, tq, _, _, _, hE, _⟩
  refine ⟨pp, _, rfl, SqT.of epp, rfl, _, _, rfl, _, _, rfl, rfl, ?_⟩
  dsimp only
  have tq0 : H1 q = some (.tup ([c, m, 1].map V.int)) := tq
  have mm := hE.mm
  have hm1 := hE.m1
  have hm2 := hE.m2
  have hc1 := hE.c1
  have hc4 := hE.c4
  have hx6 : ∀ x ∈ [c, m, 1], x.natAbs ≤ 1000 := fun x hx => by
    simp only [List.mem_cons, List.not_mem_nil, or_false] at hx
    rcases hx with rfl | rfl | rfl <;> omega
  have wl := words_len (xs := [c, m, 1]) (by show 3 ≤ 6; decide) hx6
  have ws := words_sum (xs := [c, m, 1]) (by show 3 ≤ 6; decide) hx6
  have l10 : ∀ {i : Int}, i.natAbs ≤ 1000 → i.natAbs.log2 < 1920 := fun {i} hi => Nat.lt_of_lt_of_le (PySem.Flt.log2_lt_of (show 0 < 10 by decide) (show i.natAbs < 2 ^ 10 by omega)) (by decide)
  -- the text
  refine ⟨rfl, _, rfl, q, rfl, ⟨_, SqT.of tq0⟩, fun D hD => ?_⟩
  refine lc_tup (xs := [c, m, 1].map V.int) (fun i H' => Same H1 H' ∧ H' D = some (.lst ((([c, m, 1].take i).map W).map V.str))) ⟨same_new hD, upd_same⟩ (fun i H' _ e => SqT.of (e.1 _ _ tq0)) (fun i x H' hx e => ?_) (fun H2 e => ?_)
  · obtain ⟨s2, e2⟩ := e
    obtain ⟨z, hz, rfl⟩ := at_map hx
    have li : i < 3 := lt_of_at hz
    refine ⟨rfl, _, rfl, z, rfl, l10 (hx6 z (List.mem_of_getElem? hz)), _, e2, ?_, Same.put s2 hD, ?_⟩
    · rw [List.length_map, List.length_map, List.length_take]
      exact sz_lt (Nat.le_trans (Nat.min_le_left _ _) (by omega))
    · rw [upd_same, List.take_succ, hz, List.map_append, List.map_append]
      rfl
  obtain ⟨s2, e2⟩ := e
  rw [List.length_map, List.take_length] at e2
  have k1 : (Str.ofString " of ").length = 4 := by decide +kernel
  have k2 : (Str.ofString "root 0").length = 6 := by decide +kernel
  have k3 : (Str.ofString "root 1").length = 6 := by decide +kernel
  have k4 : (Str.ofString " ").length = 1 := by decide +kernel
  refine ⟨_, D, [c, m, 1].map W, rfl, rfl, .inl (SqL.of e2), ?_, _, _, rfl, rfl, ?_, ?_⟩
  · show (([c, m, 1].map W).map (·.length)).sum + 3 * (Str.ofString " ").length ≤ 16777216
    omega
  · show (Str.ofString " of ").length + (wordsL [c, m, 1]).length ≤ sizeLine
    omega
  have R2 := R1.same s2
  have x2 := x1.trans (SameX.of s2)
  have tq := TI.same s2 tq
  dsimp only
  -- both shapes
  obtain ⟨oS0, F0, hF0, hB0⟩ := hE.fl (r := 0) (.inl rfl)
  obtain ⟨oS1, F1, hF1, hB1⟩ := hE.fl (r := 1) (.inr rfl)
  have hsum : ∀ b, F0 b + F1 b + 1 + m * 2 ^ b = 0 := fun b => fb_sum (hB0 b) (hB1 b)
  have hsum' : ∀ b, F1 b + F0 b + 1 + m * 2 ^ b = 0 := fun b => by have := hsum b; omega
  have kt : (Str.ofString " of " ++ wordsL [c, m, 1]).length ≤ 50 := by
    rw [len_add]
    omega
  refine ⟨_, rfl, _, _, rfl, rfl, ?_, fun y0 dy0 hy0 hdy0 ne0 => ?_⟩
  · show (Str.ofString "root 0").length + (Str.ofString " of " ++ wordsL [c, m, 1]).length ≤ sizeLine
    omega
  have yd := same_new (o := .own y0) hdy0
  have yx := same_new (H := upd H2 dy0 (.own y0)) (p := y0) (o := .ins C dy0 []) (by rw [upd_ne (Ne.symm ne0)]; exact hy0)
  refine ⟨H2, y0, dy0, txL 0 [c, m, 1], 0, [c, m, 1], by rw [← tx_0]; rfl, yd.trans yx, hy0, upd_same, hE.txt (.inl rfl), oS0, fun H3 s3 hS0 => ⟨rfl, ?_⟩⟩
  have R3 := R2.same s3
  have x3 := x2.trans (SameX.of s3)
  have tq := TI.same s3 tq
  clear yd yx hy0 hdy0 ne0
  refine ⟨_, rfl, _, _, rfl, rfl, ?_, fun y1 dy1 hy1 hdy1 ne1 => ?_⟩
  · show (Str.ofString "root 1").length + (Str.ofString " of " ++ wordsL [c, m, 1]).length ≤ sizeLine
    omega
  have yd := same_new (o := .own y1) hdy1
  have yx := same_new (H := upd H3 dy1 (.own y1)) (p := y1) (o := .ins C dy1 []) (by rw [upd_ne (Ne.symm ne1)]; exact hy1)
  refine ⟨H3, y1, dy1, txL 1 [c, m, 1], 1, [c, m, 1], by rw [← tx_1]; rfl, yd.trans yx, hy1, upd_same, hE.txt (.inr rfl), oS1, fun H4 s4 hS1 => ⟨rfl, ?_⟩⟩
  have R4 := R3.same s4
  have x4 := x3.trans (SameX.of s4)
  have tq := TI.same s4 tq
  have hS0 := hS0.same s4
  clear yd yx hy1 hdy1 ne1 x1 x2 x3 R1 R2 R3 s2 s3 s4 e2 hD tq0 epp
  refine ⟨_, _, rfl, ?_⟩
  refine ⟨5, rfl, by decide, by decide, for_range (n := 5) (fun i σ H' => SameX r H4 H' ∧ RkI H' r ∧ ∃ z6 z7 z8 z9 z10 z11 z12 z13 z14 : Option V, σ = [some (.ref r), some (.ref q), some (.ref st), some (.str (Str.ofString " of " ++ wordsL [c, m, 1])), some (.ref y0), some (.ref y1), z6, z7, z8, z9, z10, z11, z12, z13, z14, none, none]) ⟨SameX.of (Same.refl _), R4, _, _, _, _, _, _, _, _, _, rfl⟩ ?_ ?_⟩
  · rintro i σ H5 hi ⟨x5, R5, z6, z7, z8, z9, z10, z11, z12, z13, z14, rfl⟩
    obtain ⟨w6, hw6⟩ : ∃ w6 : Option V, some (.int (0 + (i : Int))) = w6 := ⟨_, rfl⟩
    refine ⟨_, rfl, (2 : Nat), r, rfl, R5, ⟨by decide, by decide⟩, ?_⟩
    rintro _ H6 x6 R6 ⟨o1, ns, rfl, N1, b1⟩
    refine ⟨_, rfl, (2 : Nat), r, rfl, R6, ⟨by decide, by decide⟩, ?_⟩
    rintro _ H7 x7 R7 ⟨o2, ms, rfl, N2, b2⟩
    obtain ⟨u, v, w', rfl, A1⟩ := nm_of N1 b1
    obtain ⟨u', v', x', rfl, A2⟩ := nm_of N2 b2
    have t1 := TI.sameX R6 x7 N1.at_
    have t2 := N2.at_
    have x7 := x5.trans (x6.trans x7)
    refine ⟨_, _, rfl, Nat.zero_le _, fun p9 hp9 => ?_⟩
    dsimp only
    rw [show some (V.int (0 + (i : Int))) = w6 from hw6]
    have y8 := same_new (o := .lst []) hp9
    have p9r : p9 ≠ r := fun e => new_ne R7 hp9 e.symm
    have p94 : H4 p9 = none := none_of x7 R7 hp9
    have e98 : upd H7 p9 (.lst []) p9 = some (.lst []) := upd_same
    have x8 := x7.trans (SameX.of y8)
    have R8 := R7.same y8
    have t1 := TI.same y8 t1
    have t2 := TI.same y8 t2
    generalize upd H7 p9 (.lst []) = H8 at *
    have hq8 := TI.sameX R4 x8 tq
    have hS08 := ShpG.sameX R4 x8 hS0
    have hS18 := ShpG.sameX R4 x8 hS1
    clear x5 R5 x6 R6 x7 R7 y8 hp9 N1 N2 b1 b2
    -- both shapes tell
    refine ⟨_, rfl, _, rfl, z2, fun l hl => ⟨l, rfl, ⟨_, SqL.of upd_same⟩, ?_⟩⟩
    have y9 := same_new (o := .lst [.ref y0, .ref y1]) hl
    have el9 : upd H8 l (.lst [.ref y0, .ref y1]) l = some (.lst [.ref y0, .ref y1]) := upd_same
    have lp9 : l ≠ p9 := fun e => by rw [e, e98] at hl; cases hl
    have e99 := y9 _ _ e98
    have x9 := x8.trans (SameX.of y9)
    have R9 := R8.same y9
    have t1 := TI.same y9 t1
    have t2 := TI.same y9 t2
    have hq9 := TI.same y9 hq8
    have hS09 := hS08.same y9
    have hS19 := hS18.same y9
    generalize upd H8 l (.lst [.ref y0, .ref y1]) = H9 at *
    clear x8 R8 y9 e98 hq8 hS08 hS18 hl
    refine for_list (xs := [.ref y0, .ref y1]) (fun i σ H' => SameX p9 H9 H' ∧ (∃ Ls : List Addr, Ls.length = i ∧ H' p9 = some (.lst (Ls.map V.ref)) ∧ ∀ L ∈ Ls, L ≠ p9 ∧ ∃ vs, H' L = some (.lst vs) ∧ SA H' vs (dsL c m u v w' u' v' x')) ∧
      ∃ z10 z11 : Option V, σ = [some (.ref r), some (.ref q), some (.ref st), some (.str (Str.ofString " of " ++ wordsL [c, m, 1])), some (.ref y0), some (.ref y1), w6, some (.ref o1), some (.ref o2), some (.ref p9), z10, z11, z12, z13, z14, none, none]) ⟨SameX.of (Same.refl _), ⟨[], rfl, e99, fun L hL => by cases hL⟩, z10, z11, rfl⟩ (fun i σ H' _ e => SqL.of (e.1 _ _ lp9 el9)) ?_ ?_
    · rintro i x σ H' hx ⟨xa, ⟨Ls, lL, e9, hLs⟩, z10, z11, rfl⟩
      obtain ⟨yi, ri, hri, rfl, hSi⟩ : ∃ yi ri, (ri = 0 ∨ ri = 1) ∧ x = V.ref yi ∧ ShpG C H9 yi (txL ri [c, m, 1]) ri [c, m, 1] := by
        have li := (List.getElem?_eq_some_iff.mp hx).1
        rcases (show i = 0 ∨ i = 1 by simp at li; omega) with rfl | rfl
        · exact ⟨y0, 0, .inl rfl, (Option.some.inj hx).symm, hS09⟩
        · exact ⟨y1, 1, .inr rfl, (Option.some.inj hx).symm, hS19⟩
      have hSi := ShpG.sl e99 xa hSi
      have t1 := TI.sl e99 xa t1
      have t2 := TI.sl e99 xa t2
      have Ra : RkI H' r := by
        obtain ⟨i1, i2, i3, e⟩ := R9
        exact ⟨i1, i2, i3, xa _ _ (Ne.symm p9r) e⟩
      refine ⟨_, rfl, _, rfl, _, rfl, (yi, _, ri, [c, m, 1], o1, [u, v, w'], o2, [u', v', x']), rfl, ⟨hSi, A1.num t1, A2.num t2, A1.sm, A2.sm, by show 1 ≤ 3; decide, by show 3 ≤ 8; decide⟩, ?_⟩
      rintro _ Ha sa ⟨g1, rfl, hg1⟩
      have hg1 : TI Ha g1 (totL 3 [u, v, w'] [u', v', x']) := hg1
      refine ⟨_, rfl, _, rfl, _, rfl, (yi, _, ri, [c, m, 1], o1, [u, v, w'], o2, [u', v', x']), rfl, ⟨⟨hSi.same sa, A1.num (TI.same sa t1), A2.num (TI.same sa t2), A1.sm, A2.sm, by show 1 ≤ 3; decide, by show 3 ≤ 8; decide⟩, A1.pro hE A2⟩, ?_⟩
      rintro _ Hb sb ⟨g2, rfl, hg2⟩
      have hg2 : TI Hb g2 (proL [c, m, 1] [u, v, w'] [u', v', x']) := hg2
      have sab := sa.trans sb
      refine ⟨_, rfl, _, rfl, (yi, _, ri, [c, m, 1], o1, [u, v, w']), rfl, ⟨hSi.same sab, A1.num (TI.same sab t1), by show 2 ≤ 3; decide, by show 3 ≤ 100; decide⟩, ?_⟩
      rintro _ Hc sc ⟨g3, rfl, hg3⟩
      have hg3 : TI Hc g3 (oppL [u, v, w']) := hg3
      have sac := sab.trans sc
      refine ⟨z3, fun L hL => ?_⟩
      have yL := same_new (o := .lst [.ref g1, .ref g2, .ref g3]) hL
      have eL : upd Hc L (.lst [.ref g1, .ref g2, .ref g3]) L = some (.lst [.ref g1, .ref g2, .ref g3]) := upd_same
      have Lp9 : L ≠ p9 := fun e => by
        have := sac _ _ e9
        rw [e, this] at hL
        cases hL
      have nL : ∀ b o, H' b = some o → b ≠ L := fun b o e => ne_of_none (sac _ _ e) hL
      have sad := sac.trans yL
      have hg1 := TI.same (sb.trans (sc.trans yL)) hg1
      have hg2 := TI.same (sc.trans yL) hg2
      have hg3 := TI.same yL hg3
      have e9d := sad _ _ e9
      have t1 := TI.same sad t1
      have t2 := TI.same sad t2
      have hSd := hSi.same sad
      dsimp only
      generalize upd Hc L (.lst [.ref g1, .ref g2, .ref g3]) = Hd at *
      have A3 : SA Hd [.ref g1, .ref g2, .ref g3] [.tuple ((totL 3 [u, v, w'] [u', v', x']).map PyData.int), .tuple ((proL [c, m, 1] [u, v, w'] [u', v', x']).map PyData.int), .tuple ((oppL [u, v, w']).map PyData.int)] := .cons (.tup hg1) (.cons (.tup hg2) (.cons (.tup hg3) .nil))
      clear sab sac sa sb sc hL yL
      refine ⟨fun σ' H'' => SameX p9 H9 H'' ∧ H'' p9 = some (.lst (Ls.map V.ref)) ∧ (∀ L' ∈ Ls, L' ≠ p9 ∧ ∃ vs, H'' L' = some (.lst vs) ∧ SA H'' vs (dsL c m u v w' u' v' x')) ∧ (∃ vs, H'' L = some (.lst vs) ∧ SA H'' vs (dsL c m u v w' u' v' x')) ∧
        σ' = [some (.ref r), some (.ref q), some (.ref st), some (.str (Str.ofString " of " ++ wordsL [c, m, 1])), some (.ref y0), some (.ref y1), w6, some (.ref o1), some (.ref o2), some (.ref p9), some (.ref yi), some (.ref L), z12, z13, z14, none, none], ?_, ?_⟩
      · refine ⟨_, rfl, z3, fun t ht => ?_⟩
        have yt := same_new (o := .tup [.int 1, .int 0, .int 0]) ht
        refine ⟨dT [u', v', x'], dT [1, 0, 0], .tup (SqT.of (yt _ _ (show Hd o2 = some (.tup ([u', v', x'].map V.int)) from t2))) (dp_ints _), .tup (SqT.of (show upd Hd t (.tup [.int 1, .int 0, .int 0]) t = some (.tup (([1, 0, 0] : List Int).map V.int)) from upd_same)) (dp_ints _), sh_ints _, sh_ints _, _, rfl, ?_⟩
        show (if (!zqL u' v' x') = true then _ else _)
        have sae := sad.trans yt
        generalize upd Hd t (.tup [.int 1, .int 0, .int 0]) = He at *
        cases hz : zqL u' v' x' with
        | true =>
          refine iteF ⟨xa.trans (SameX.of sae), sae _ _ e9, fun L' hL' => ?_, ⟨_, yt _ _ eL, ?_⟩, rfl⟩
          · obtain ⟨n1, vs, ev, sv⟩ := hLs L' hL'
            exact ⟨n1, vs, sae _ _ ev, sv.same sae⟩
          · unfold dsL
            rw [hz]
            exact A3.same yt
        | false =>
          have nz := zq_ne A2 hz
          obtain ⟨c1, c2⟩ := A1.quo hE A2 nz
          refine iteT ⟨_, rfl, .inl ⟨rfl, _, SqL.of (yt _ _ eL)⟩, ?_⟩
          refine ⟨_, rfl, _, rfl, _, rfl, (yi, _, ri, [c, m, 1], o1, [u, v, w'], o2, [u', v', x']), rfl, ⟨⟨hSd.same yt, A1.num (TI.same yt t1), A2.num (TI.same yt t2), A1.sm, A2.sm, by show 1 ≤ 3; decide, by show 3 ≤ 8; decide⟩, c1, c2⟩, ?_⟩
          rintro _ Hq sq ⟨g4, rfl, hg4⟩
          have hg4 : TI Hq g4 (quoL [c, m, 1] [u, v, w'] [u', v', x']) := hg4
          have eLq := (yt.trans sq) _ _ eL
          have saq := sae.trans sq
          refine ⟨L, _, _, rfl, rfl, eLq, (by show 3 < sizeLine; omega), ?_⟩
          have yw : SameX L Hq (upd Hq L (.lst ([.ref g1, .ref g2, .ref g3] ++ [.ref g4]))) := SameX.put
          have lw : (upd Hq L (.lst ([.ref g1, .ref g2, .ref g3] ++ [.ref g4]))) L = some (.lst [.ref g1, .ref g2, .ref g3, .ref g4]) := upd_same
          dsimp only
          generalize upd Hq L (.lst ([.ref g1, .ref g2, .ref g3] ++ [.ref g4])) = Hw at *
          refine ⟨fun b o hb e => ?_, ?_, fun L' hL' => ?_, ⟨_, lw, ?_⟩, rfl⟩
          · have := xa _ _ hb e
            exact yw _ _ (nL _ _ this) (saq _ _ this)
          · exact yw _ _ (Ne.symm Lp9) (saq _ _ e9)
          · obtain ⟨n1, vs, ev, sv⟩ := hLs L' hL'
            exact ⟨n1, vs, yw _ _ (nL _ _ ev) (saq _ _ ev), SA.sl eLq yw (sv.same saq)⟩
          · unfold dsL
            rw [hz]
            obtain ⟨h1, h2, h3⟩ : S1 Hw (.ref g1) _ ∧ S1 Hw (.ref g2) _ ∧ S1 Hw (.ref g3) _ := ⟨(S1.tup (TI.same (yt.trans sq) hg1)).sl eLq yw, (S1.tup (TI.same (yt.trans sq) hg2)).sl eLq yw, (S1.tup (TI.same (yt.trans sq) hg3)).sl eLq yw⟩
            exact .cons h1 (.cons h2 (.cons h3 (.cons ((S1.tup hg4).sl eLq yw) .nil)))
      · rintro σ' H'' ⟨xb, e9b, hLs', ⟨vs, eLv, sLv⟩, rfl⟩
        refine ⟨_, rfl, .inl ⟨rfl, _, SqL.of e9b⟩, _, rfl, p9, _, _, rfl, rfl, e9b, ?_, ?_⟩
        · rw [List.length_map, lL]
          have := (List.getElem?_eq_some_iff.mp hx).1
          simp at this
          exact sz_lt (by omega)
        have yw : SameX p9 H'' (upd H'' p9 (.lst (Ls.map V.ref ++ [.ref L]))) := SameX.put
        refine ⟨xb.trans yw, ⟨Ls ++ [L], by rw [List.length_append, lL]; rfl, ?_, fun L' hL' => ?_⟩, _, _, rfl⟩
        · rw [upd_same, List.map_append]
          rfl
        · rcases List.mem_append.mp hL' with hL' | hL'
          · obtain ⟨n1, vs, ev, sv⟩ := hLs' L' hL'
            exact ⟨n1, vs, yw _ _ n1 ev, SA.sl e9b yw sv⟩
          · rw [List.mem_singleton.mp hL']
            exact ⟨Lp9, vs, yw _ _ Lp9 eLv, SA.sl e9b yw sLv⟩
    · rintro σ H' ⟨xa, ⟨Ls, lL, e9, hLs⟩, z10, z11, rfl⟩
      obtain ⟨L0, L1, rfl⟩ : ∃ L0 L1, Ls = [L0, L1] := by
        rcases Ls with _ | ⟨L0, _ | ⟨L1, _ | ⟨L2, l⟩⟩⟩
        · cases lL
        · cases lL
        · exact ⟨L0, L1, rfl⟩
        · simp at lL
      obtain ⟨_, vs0, ev0, sv0⟩ := hLs L0 (by simp)
      obtain ⟨_, vs1, ev1, sv1⟩ := hLs L1 (by simp)
      have e9 : H' p9 = some (.lst [.ref L0, .ref L1]) := e9
      have shoD := ds_sho hE A1 A2
      refine ⟨_, rfl, p9, _, _, .ref L0, rfl, rfl, SqL.of e9, atI_nat (j := 0) rfl, L0, vs0, _, rfl, ev0, sv0, shoD, ?_⟩
      refine ⟨_, rfl, p9, _, _, .ref L1, rfl, rfl, SqL.of e9, atI_nat (j := 1) rfl, L1, vs1, _, rfl, ev1, sv1, shoD, rfl, _, rfl, ?_⟩
      show (if (!decide (V.str (PyData.list (dsL c m u v w' u' v' x')).shown = V.str (PyData.list (dsL c m u v w' u' v' x')).shown)) = true then _ else _)
      rw [decide_eq_true rfl]
      refine iteF ?_
      -- the mirror
      have xF : SameX r H4 H' := fun b o hb e => xa _ _ (ne_of_none e p94) (x9 _ _ hb e)
      have Ra : RkI H' r := by
        obtain ⟨i1, i2, i3, e⟩ := R9
        exact ⟨i1, i2, i3, xa _ _ (Ne.symm p9r) e⟩
      have t1 := TI.sl e99 xa t1
      have hqa := TI.sl e99 xa hq9
      have hS0a := ShpG.sl e99 xa hS09
      have hS1a := ShpG.sl e99 xa hS19
      clear xa ev0 sv0 ev1 sv1 e9 hLs x9 R9 e99 hq9 hS09 hS19 t2 shoD
      refine ⟨_, rfl, _, rfl, (q, o1, (c, m), u, v, w'), rfl, ⟨hqa, t1, sm_le (s140 A1.bw) (by decide), hE.sm (by decide)⟩, ?_⟩
      rintro _ Ha sa ⟨tt, rfl, ht⟩
      have ht : TI Ha tt [u, v - w' * m, 0 - w'] := ht
      have ht0 : Ha tt = some (.tup ([u, v - w' * m, 0 - w'].map V.int)) := ht
      refine ⟨_, rfl, (tt, [u, v - w' * m, 0 - w']), rfl, ⟨.inr ht, by show 3 ≤ 100; decide, fun x hx => ?_⟩, ?_⟩
      · have hx : x ∈ [u, v - w' * m, 0 - w'] := hx
        simp only [List.mem_cons, List.not_mem_nil, or_false] at hx
        rcases hx with rfl | rfl | rfl
        · exact sm_le (s140 A1.bu) (by decide)
        · exact sm_le (A1.sv2 hE) (by decide)
        · exact sm_le A1.sw2 (by decide)
      rintro _ HX s2 ⟨rfl, eX⟩
      have eX : Ha = HX := (show HX = Ha from eX).symm
      subst eX
      have g1 := gcd_sym (m := m) A1.red
      rw [g1]
      refine ⟨_, rfl, tt, rfl, ⟨_, SqT.of ht0⟩, fun D hD => ?_⟩
      refine lc_tup (xs := [u, v - w' * m, 0 - w'].map V.int) (fun i H' => Same Ha H' ∧ H' D = some (.lst (((([u, v - w' * m, 0 - w']).take i).map fun x => x.fdiv ((1 : Nat) : Int)).map V.int))) ⟨same_new hD, upd_same⟩ (fun i H' _ e => SqT.of (e.1 _ _ ht0)) (fun i x H' hx e => ?_) (fun Hb e => ?_)
      · obtain ⟨s6, e6⟩ := e
        obtain ⟨z, hz, rfl⟩ := at_map hx
        have li : i < 3 := lt_of_at hz
        refine ⟨rfl, _, rfl, _, rfl, _, _, rfl, rfl, dv_lc (by decide) (Nat.one_lt_two_pow (by decide)), _, e6, ?_, Same.put s6 hD, ?_⟩
        · rw [List.length_map, List.length_map, List.length_take]
          exact sz_lt (Nat.le_trans (Nat.min_le_left _ _) (by omega))
        · rw [upd_same, List.take_succ, hz, List.map_append, List.map_append]
          rfl
      obtain ⟨s6, e6⟩ := e
      rw [List.length_map, List.take_length, fd1] at e6
      refine ⟨D, _, rfl, .inl ⟨SqL.of e6, fun o3 hq3 => ?_⟩⟩
      have y3 := same_new (o := .tup ([u, v - w' * m, 0 - w'].map V.int)) hq3
      have t3 : TI (upd Hb o3 (.tup ([u, v - w' * m, 0 - w'].map V.int))) o3 [u, v - w' * m, 0 - w'] := upd_same
      have sad := sa.trans (s6.trans y3)
      generalize upd Hb o3 (.tup ([u, v - w' * m, 0 - w'].map V.int)) = Hd at *
      have xd := xF.trans (SameX.of sad)
      have Rd := Ra.same sad
      have t1 := TI.same sad t1
      have hS0d := hS0a.same sad
      have hS1d := hS1a.same sad
      clear sa s6 y3 hq3 e6 hD ht ht0 xF Ra hqa hS0a hS1a s2
      dsimp only
      refine ⟨fun σ' H'' => ∃ k : Int, 1 ≤ k ∧ k ≤ 10 ^ 12 ∧ SameX r H4 H'' ∧ RkI H'' r ∧ TI H'' o1 [u, v, w'] ∧ TI H'' o3 [u, v - w' * m, 0 - w'] ∧ ShpG C H'' y0 (txL 0 [c, m, 1]) 0 [c, m, 1] ∧ ShpG C H'' y1 (txL 1 [c, m, 1]) 1 [c, m, 1] ∧
        ∃ z13, σ' = [some (.ref r), some (.ref q), some (.ref st), some (.str (Str.ofString " of " ++ wordsL [c, m, 1])), some (.ref y0), some (.ref y1), w6, some (.ref o1), some (.ref o2), some (.ref p9), z10, z11, some (.ref o3), z13, some (.int k), none, none], ?_, ?_⟩
      · refine ⟨_, rfl, 10, 12, rfl, rfl, ⟨by decide, by decide, by decide⟩, _, r, rfl, Rd, ⟨by decide, by decide +kernel⟩, ?_⟩
        rintro _ He xe Re ⟨tm, rfl, tm0, tm1⟩
        have tm1 : tm < 1000000000000 := tm1
        exact ⟨_, _, rfl, rfl, 1 + tm, by omega, by omega, xd.trans xe, Re, TI.sameX Rd xe t1, TI.sameX Rd xe t3, ShpG.sameX Rd xe hS0d, ShpG.sameX Rd xe hS1d, _, rfl⟩
      rintro σ' He ⟨tm, k1, k2, xe, Re, t1, t3, hS0e, hS1e, z13, rfl⟩
      clear xd Rd hS0d hS1d
      have B1 := A1.num t1
      have B3 : NumG He o3 3 [u, v - w' * m, 0 - w'] := ⟨t3, rfl, A1.pos, g1⟩
      have sv : Sm 300 v := sm_le (s140 A1.bv) (by decide)
      have sv2 : Sm 300 (v - w' * m) := sm_le (A1.sv2 hE) (by decide)
      have su : Sm 300 u := sm_le (s140 A1.bu) (by decide)
      have w200 : w'.natAbs ≤ 2 ^ 200 := Nat.le_trans A1.w150 (Nat.pow_le_pow_right (by decide) (by decide))
      have w200' : (0 - w').natAbs ≤ 2 ^ 200 := Nat.le_trans A1.w150' (Nat.pow_le_pow_right (by decide) (by decide))
      have ok1 := sg_ok (u := u) hE (.inl rfl) hB0 sv w200
      have ok2 := sg_ok (u := u) hE (.inr rfl) hB1 sv2 w200'
      have ok3 := sg_ok (u := u) hE (.inr rfl) hB1 sv w200
      have ok4 := sg_ok (u := u) hE (.inl rfl) hB0 sv2 w200'
      have l3 : ∀ {a b d : Int}, ([a, b, d] : List Int).length ≤ 1000 := fun {a b d} => (by show 3 ≤ 1000; decide)
      have l13 : ∀ {a b d : Int}, 1 ≤ ([a, b, d] : List Int).length := fun {a b d} => (by show 1 ≤ 3; decide)
      refine ⟨_, rfl, _, rfl, ((y0, _, 0, [c, m, 1], o1, [u, v, w']), F0), rfl, ⟨hS0e, B1, l3, l13, hF0, ok1⟩, ?_⟩
      rintro vA Hf sf eA
      have eA : vA = V.int (sgnF F0 [u, v, w']) := eA
      subst eA
      refine ⟨_, rfl, _, rfl, ((y1, _, 1, [c, m, 1], o3, [u, v - w' * m, 0 - w']), F1), rfl, ⟨hS1e.same sf, B3.same sf, l3, l13, hF1, ok2⟩, ?_⟩
      rintro vB Hg sg eB
      have eB : vB = V.int (sgnF F1 [u, v - w' * m, 0 - w']) := eB
      subst eB
      rw [sg_sym hsum]
      refine ⟨rfl, _, rfl, ?_⟩
      show (if (!decide (V.int (sgnF F0 [u, v, w']) = V.int (sgnF F0 [u, v, w']))) = true then _ else _)
      rw [decide_eq_true rfl]
      refine iteF ?_
      have sfg := sf.trans sg
      refine ⟨_, rfl, _, rfl, ((y1, _, 1, [c, m, 1], o1, [u, v, w']), F1), rfl, ⟨hS1e.same sfg, B1.same sfg, l3, l13, hF1, ok3⟩, ?_⟩
      rintro vA Hh sh eA
      have eA : vA = V.int (sgnF F1 [u, v, w']) := eA
      subst eA
      have sfh := sfg.trans sh
      refine ⟨_, rfl, _, rfl, ((y0, _, 0, [c, m, 1], o3, [u, v - w' * m, 0 - w']), F0), rfl, ⟨hS0e.same sfh, B3.same sfh, l3, l13, hF0, ok4⟩, ?_⟩
      rintro vB Hi si eB
      have eB : vB = V.int (sgnF F0 [u, v - w' * m, 0 - w']) := eB
      subst eB
      rw [sg_sym hsum']
      refine ⟨rfl, _, rfl, ?_⟩
      show (if (!decide (V.int (sgnF F1 [u, v, w']) = V.int (sgnF F1 [u, v, w']))) = true then _ else _)
      rw [decide_eq_true rfl]
      refine iteF ?_
      have sfi := sfh.trans si
      have k45 : tm ≤ 2 ^ 45 := Int.le_trans k2 (by decide)
      have k40 : tm ≤ 10 ^ 40 := Int.le_trans k2 (by decide)
      have f1 := fl_ok (sc := tm) hE (.inl rfl) hB0 A1.pos su sv A1.w150 k1 k45
      have f2 := fl_ok (sc := tm) hE (.inr rfl) hB1 A1.pos su sv2 A1.w150' k1 k45
      have sm1 : smB 3000 [u, v - w' * m, 0 - w'] = true := smB_3 (sm_le su (by decide)) (sm_le sv2 (by decide)) (sm_le A1.sw2 (by decide))
      have l2 : ∀ {a b d : Int}, 2 ≤ ([a, b, d] : List Int).length := fun {a b d} => (by show 2 ≤ 3; decide)
      have l7 : ∀ {a b d : Int}, ([a, b, d] : List Int).length ≤ 7 := fun {a b d} => (by show 3 ≤ 7; decide)
      refine ⟨_, rfl, _, rfl, _, rfl, ((y0, _, 0, [c, m, 1], o1, [u, v, w']), F0, tm), rfl, ⟨hS0e.same sfi, B1.same sfi, l2, l7, hF0, k1, k40, A1.sm, f1⟩, ?_⟩
      rintro vA Hj sj eA
      have eA : vA = V.int (floF F0 [u, v, w'] 3 tm) := eA
      subst eA
      have sfj := sfi.trans sj
      refine ⟨_, rfl, _, rfl, _, rfl, ((y1, _, 1, [c, m, 1], o3, [u, v - w' * m, 0 - w']), F1, tm), rfl, ⟨hS1e.same sfj, B3.same sfj, l2, l7, hF1, k1, k40, sm1, f2⟩, ?_⟩
      rintro vB Hk sk eB
      have eB : vB = V.int (floF F1 [u, v - w' * m, 0 - w'] 3 tm) := eB
      subst eB
      rw [fl_sym hsum]
      refine ⟨rfl, _, rfl, ?_⟩
      show (if (!decide (V.int (floF F0 [u, v, w'] 3 tm) = V.int (floF F0 [u, v, w'] 3 tm))) = true then _ else _)
      rw [decide_eq_true rfl]
      refine iteF ?_
      have sfk := sfj.trans sk
      exact ⟨xe.trans (SameX.of sfk), Re.same sfk, _, _, _, _, _, _, _, _, _, rfl⟩
  · rintro σ H5 ⟨x5, R5, z6, z7, z8, z9, z10, z11, z12, z13, z14, rfl⟩
    exact k _ (x4.trans x5) R5
end
end Xq

/-! law; all defs together. -/
namespace Xq
open PySem PySem.Spec PyProof.Rows L2 Xk
abbrev nLaw : List Str := ["_law_cells", "_law_at"]
theorem nLw : FnScope nLaw ["_law_cells"] (defScope (top 90)) := (⟨rfl, rfl, rfl, by decide +kernel, rfl, by decide +kernel, by decide +kernel⟩)
def spLaw (K : PySem.W.Frag) : Sp := fun vs H Q _ => ∃ (a : Addr) (ns : List Int), vs = [.ref a] ∧ SqL K H a (ns.map V.int) ∧ ns.length ≤ 63 ∧ ∀ H', Q (.bl true) H'
theorem all_true9 : ∀ n : Nat, (List.replicate n true).all id = true := fun n => by
  rw [List.all_eq_true]
  intro x hx
  exact (List.mem_replicate.mp hx).2
section
variable {P : Program} {w : World} {K : PySem.W.Frag} {mg : Str → Option Value} {base : Heap} {C : Addr}
theorem c_rack (D : Df K mg "_law_rack" (top 79)) (B : Bl mg) : Cal P w K mg base 1 "_law_rack" ["_law_cells", "_law_at"] (spRack K) := by
  obtain ⟨f, fd, F, m⟩ := D.ex
  have lk : ∃ oc od osl, K.lookup f = some ⟨oc, od, .func fd, osl⟩ := by
    obtain ⟨oc, od, kV, doc, pm, an, cdv, ct, osl, _, lk, _⟩ := F.ex
    exact ⟨oc, od, osl, lk⟩
  exact ⟨f, fd, ok_rack F B, F.binds (fun _ _ _ _ _ _ us hl => match us, hl with | [_, _], _ => rfl), m, F.kp, lk⟩
theorem c_law (D : Df K mg "law" (top 90)) (B : Bl mg) (CR : CalG P w K mg base 10 "_law_right" ["_law_rack_here"] spRight) (CK : Cal P w K mg base 1 "_law_rack" ["_law_cells", "_law_at"] (spRack K)) : CalG P w K mg base 11 "law" ["_law_cells"] (spLaw K) := by
  refine mkG D nLw (fun _ _ _ _ _ _ us hl => match us, hl with | [_], _ => rfl) (fun vs H Q E h => ?_) (fun f cdv A outer s H vs Q E hr hG h => ?_)
  · obtain ⟨a, ns, rfl, _⟩ := h
    rfl
  obtain ⟨a, ns, rfl, hS, hlen, k⟩ := h
  have hG2 : (A.deeper (envOfC "law" (defScope (top 90)) s.heap.objs.size f cdv)).guards = some [] := hG
  refine ⟨_, pss_one (ps_ret (pe_callB (cr_all rfl) (by rfl) B.all_ PyProof.Rows.boot_all (pa_cons
      (pe_lc (own := [("_law_at", 1)]) (g := gName 1) (tt := tYes) (te := tCall spRight [] E0 (tCons (tCall (spRack K) [] E0 (tCons (tVar 0) (tCons (tVar 1) tNil))) tNil)) rfl nLw.nd
        (pi_range1 (by rfl) B.range_ (pa_cons (pe_callB (call_max2 rfl) (by rfl) B.max_ PyProof.Rows.boot_max (pa_cons pe_int (pa_cons (pe_callB (call_min2 rfl) (by rfl) B.min_ PyProof.Rows.boot_min
          (pa_cons (pe_callB call_len_seq (by rfl) B.len_ PySem.boot_len (pa_cons (pv 0) pa_nil)) (pa_cons pe_int pa_nil))) pa_nil))) pa_nil))
        (blkOk_by (N := nLaw) (sc := defScope (top 90)) (by decide +kernel)) (fun _ _ _ _ _ => (pg_name (i := 1) (FnScope.nd nLw) rfl (Or.inl rfl))) (fun _ _ _ _ _ => pts_nil)
        (fun _ _ _ _ _ => pe_clG CR hr hG2 (pa_cons (pe_cl CK hr (pa_cons (pv 0) (pa_cons (pv 1) pa_nil))) pa_nil))) pa_nil))), ?_⟩
  have e0 : L2.start nLaw [V.ref a] = [some (.ref a), none] := rfl
  rw [e0]
  have mn : -(2 ^ 62) ≤ (if (if (5 : Int) < (((ns.map V.int).length : Nat) : Int) then 5 else (((ns.map V.int).length : Nat) : Int)) > 2 then (if (5 : Int) < (((ns.map V.int).length : Nat) : Int) then 5 else (((ns.map V.int).length : Nat) : Int)) else 2) ∧
      (if (if (5 : Int) < (((ns.map V.int).length : Nat) : Int) then 5 else (((ns.map V.int).length : Nat) : Int)) > 2 then (if (5 : Int) < (((ns.map V.int).length : Nat) : Int) then 5 else (((ns.map V.int).length : Nat) : Int)) else 2) < 2 ^ 62 ∧
      (if (if (5 : Int) < (((ns.map V.int).length : Nat) : Int) then 5 else (((ns.map V.int).length : Nat) : Int)) > 2 then (if (5 : Int) < (((ns.map V.int).length : Nat) : Int) then 5 else (((ns.map V.int).length : Nat) : Int)) else 2).toNat ≤ 5 := by
    rw [List.length_map]
    refine ⟨?_, ?_, ?_⟩ <;> (split <;> split <;> omega)
  refine ⟨_, rfl, a, _, rfl, .inl hS, _, _, rfl, _, _, rfl, _, rfl, mn.1, mn.2.1, fun D hD => ?_⟩
  refine lc_range (fun i H' => Same H H' ∧ H' D = some (.lst ((List.replicate i true).map V.bl))) ⟨same_new hD, upd_same⟩ (fun i H' hi e => ?_) (fun H' e => ?_)
  · obtain ⟨sT, hDl⟩ := e
    refine ⟨rfl, ?_⟩
    simp only [tYes, if_true]
    refine ⟨_, rfl, _, rfl, a, ns, i, (by rw [Int.zero_add]; rfl), sT.seq hS, hlen, fun p x y H2 k2 hp hr2 => ?_⟩
    refine ⟨p, rfl, ⟨x, y, 7, hr2⟩, fun H3 k3 _ => ?_⟩
    have k4 : Same H' H3 := fun b o e => k3 b o (fun z => by rw [z, hp] at e; cases e) (k2 b o e)
    refine ⟨_, k4 _ _ hDl, ?_, ?_, ?_⟩
    · rw [List.length_map, List.length_replicate]
      exact Nat.lt_of_lt_of_le hi (Nat.le_trans mn.2.2 (by decide))
    · refine fun b o e => ?_
      rw [upd_ne (ne_of_none e hD)]
      exact k4 _ _ (sT _ _ e)
    · rw [upd_same, List.replicate_succ', List.map_append]
      rfl
  · obtain ⟨sT, hDl⟩ := e
    refine ⟨D, _, rfl, SqL.of hDl, ?_⟩
    rw [all_true9]
    exact k _
/-- all defs where they stand -/
structure Ds (K : PySem.W.Frag) (mg : Str → Option Value) : Prop where
  d17 : Df K mg "is_integer" (top 17)
  d18 : Df K mg "are_integers" (top 18)
  d19 : Df K mg "is_fraction" (top 19)
  d20 : Df K mg "is_below" (top 20)
  d21 : Df K mg "is_term" (top 21)
  d22 : Df K mg "wrong_term" (top 22)
  d24 : Df K mg "trimmed" (top 24)
  d25 : Df K mg "common_divisor" (top 25)
  d26 : Df K mg "primitive" (top 26)
  d27 : Df K mg "negative" (top 27)
  d28 : Df K mg "derivative" (top 28)
  d29 : Df K mg "value_at" (top 29)
  d30 : Df K mg "multiplied" (top 30)
  d31 : Df K mg "combined" (top 31)
  d32 : Df K mg "remainder" (top 32)
  d33 : Df K mg "divided" (top 33)
  d36 : Df K mg "sturm_chain" (top 36)
  d37 : Df K mg "changes" (top 37)
  d38 : Df K mg "reach" (top 38)
  d39 : Df K mg "roots_up_to" (top 39)
  d40 : Df K mg "roots_in_all" (top 40)
  d41 : Df K mg "roots_within" (top 41)
  d42 : Df K mg "rank_of_last" (top 42)
  d43 : Df K mg "stretch_of" (top 43)
  d44 : Df K mg "lonely_stretch" (top 44)
  d45 : Df K mg "refined" (top 45)
  d46 : Df K mg "guessed" (top 46)
  d48 : Df K mg "is_least" (top 48)
  d49 : Df K mg "factors_of" (top 49)
  d50 : Df K mg "least_factor" (top 50)
  d51 : Df K mg "divisors" (top 51)
  d52 : Df K mg "linear_factor" (top 52)
  d53 : Df K mg "quadratic_factor" (top 53)
  d54 : Df K mg "middles" (top 54)
  d55 : Df K mg "whole_roots" (top 55)
  d58 : Df K mg "check_shape" (top 58)
  d59 : Df K mg "check_equation" (top 59)
  d60 : Df K mg "check_stretch" (top 60)
  d61 : Df K mg "factor_within" (top 61)
  d62 : Df K mg "told_by" (top 62)
  d63 : Df K mg "integer_of" (top 63)
  d64 : Df K mg "text_of" (top 64)
  d66 : Df K mg "total" (top 66)
  d67 : Df K mg "product" (top 67)
  d68 : Df K mg "quotient" (top 68)
  d69 : Df K mg "opposite" (top 69)
  d70 : Df K mg "sign" (top 70)
  d71 : Df K mg "floor_of" (top 71)
  d72 : Df K mg "is_number" (top 72)
  d73 : Df K mg "check_number" (top 73)
  d74 : Df K mg "lowest" (top 74)
  d75 : Df K mg "folded" (top 75)
  d76 : Df K mg "reciprocal" (top 76)
  d77 : Df K mg "ends" (top 77)
  d79 : Df K mg "_law_rack" (top 79)
  d80 : Df K mg "_law_pick" (top 80)
  d81 : Df K mg "_law_common" (top 81)
  d82 : Df K mg "_law_square" (top 82)
  d83 : Df K mg "_law_two_roots" (top 83)
  d87 : Df K mg "_law_number" (top 87)
  d88 : Df K mg "_law_turned" (top 88)
  d89 : Df K mg "_law_right" (top 89)
  d90 : Df K mg "law" (top 90)
theorem law_all (D : Ds K mg) (B : Bl mg) (S : ShC K mg C) (wl : mg "list" = none) (wa : mg "any" = none) (iq : mg "isqrt" = some (.builtin "math.isqrt")) (sc : ∃ t, mg "MOST_SCALE" = some (.int (10 ^ 40) t)) : CalG P w K mg base 11 "law" ["_law_cells"] (spLaw K) := by
  have isint := c_isint (P := P) (w := w) (base := base) D.d17 B
  have isterm := c_isterm D.d21 B isint
  have wrong := c_wrongG D.d22 B isterm
  have trim := c_trim (P := P) (w := w) (base := base) D.d24 B
  have gcd := c_gcd (P := P) (w := w) (base := base) D.d25 B
  have prim := c_primG D.d26 B gcd
  have neg := c_negG (P := P) (w := w) (base := base) D.d27 B
  have der := c_derG (P := P) (w := w) (base := base) D.d28 B
  have val := c_valG (P := P) (w := w) (base := base) D.d29
  have comb := c_combG D.d31 B trim
  have rem := c_remG D.d32 B comb prim
  have sturm := c_sturmG D.d36 B der rem neg
  have chg := c_chgG D.d37 B val
  have reach := c_reachG (P := P) (w := w) (base := base) D.d38 B
  have upto := c_upG D.d39 chg reach
  have inall := c_allG D.d40 upto reach
  have gue := c_gueG D.d46 val
  have refd := c_refG D.d45 B gue
  have lone := c_loneG D.d44 sturm reach chg upto
  have str := c_strG D.d43 B lone refd
  have div := c_divG (P := P) (w := w) (base := base) D.d51 B
  have lin := c_linG D.d52 B div val
  have wr := c_wrG (P := P) (w := w) (base := base) D.d55 B iq
  have dv := c_dvG (P := P) (w := w) (base := base) D.d33 B wl wa
  have mid := c_midG D.d54 B wr
  have qu := c_quG D.d53 B div mid dv
  have lf := c_lfG D.d50 B lin qu
  have least := c_leastG D.d48 gcd lf
  have intof := c_intof (P := P) (w := w) (base := base) D.d63 B
  have told := c_toldG D.d62 B intof wrong least sturm upto inall
  have chk := c_chkG (P := P) (w := w) (base := base) D.d58 B S
  have areints := c_areintsG D.d18 B isint
  have isnum := c_isnum D.d72 B S areints gcd
  have chkn := c_chkn D.d73 isnum
  have low := c_low D.d74 B S gcd
  have mul := c_mulG D.d30 B trim
  have fold := c_fold D.d75 B S low comb
  have rec_ := c_recG D.d76 B comb gcd
  have total := c_total D.d66 chk chkn low comb
  have prod := c_prod D.d67 chk chkn fold mul
  have quot := c_quot D.d68 S chk chkn fold mul trim rec_
  have vall := c_valL (P := P) (w := w) (base := base) D.d29
  have ends := c_ends D.d77 B vall
  have sign := c_sign D.d70 B S chk chkn trim ends refd
  have floor := c_floor D.d71 B S sc chk chkn isint ends refd
  have opp := c_oppG D.d69 chk chkn neg
  have rack := c_rack (P := P) (w := w) (base := base) D.d79 B
  have pick := c_pick (P := P) (w := w) (base := base) D.d80 B
  have com := c_com (P := P) (w := w) (base := base) D.d81 B
  have sq := c_sq (P := P) (w := w) (base := base) D.d82 B
  have two := c_two D.d83 B pick sq
  have nu := c_nu D.d87 B pick com
  have tu := c_tu (P := P) (w := w) (base := base) D.d88
  have U : Cs P w K mg base C := ⟨B, S, pick, com, two, nu, tu, told, str, total, prod, quot, opp, sign, floor⟩
  exact c_law D.d90 B (c_right D.d89 U) rack
end
end Xq

/-! Where all stands behind the top of k29. -/
namespace Wq
open PySem PySem.Spec PyProof.Rows L2 Xk Xq
noncomputable abbrev HK (p : Params) : PySem.W.Frag := Hd.K p
theorem topQ (i : Nat) : top i = Hd.hT i := congrArg (fun p : Program => p.main.body.getD i (.Pass ⟨0, 0, 0, 0⟩)) Hd.pT
section
variable {p : Params} {mg : Str → Option Value} {h : Heap}
theorem fd17 (p : Params) : ∃ fd, Fun (HK p) "is_integer" "is_integer" (top 17) 246 fd := by
  rw [topQ]
  refine ⟨?fd, ⟨⟨?a1, ?a2, ?a3, ?a4, ?a5, ?a6, ?a7, ?a8, ?a9, ?e1, ?e2, ?e3⟩, ?e4⟩⟩
  case e1 => exact rfl
  case e2 => exact rfl
  case e3 => kernel_rfl
  case e4 => kernel_rfl
theorem df17 (X : (HK p).In h) (G : h.Ns mainGlobals mg) : Df (HK p) mg "is_integer" (top 17) := by
  obtain ⟨fd, F⟩ := fd17 p
  exact ⟨246, fd, F, PySem.W.mg_of X G (by kernel_rfl)⟩
theorem fd18 (p : Params) : ∃ fd, Fun (HK p) "are_integers" "are_integers" (top 18) 251 fd := by
  rw [topQ]
  refine ⟨?fd, ⟨⟨?a1, ?a2, ?a3, ?a4, ?a5, ?a6, ?a7, ?a8, ?a9, ?e1, ?e2, ?e3⟩, ?e4⟩⟩
  case e1 => exact rfl
  case e2 => exact rfl
  case e3 => kernel_rfl
  case e4 => kernel_rfl
theorem df18 (X : (HK p).In h) (G : h.Ns mainGlobals mg) : Df (HK p) mg "are_integers" (top 18) := by
  obtain ⟨fd, F⟩ := fd18 p
  exact ⟨251, fd, F, PySem.W.mg_of X G (by kernel_rfl)⟩
theorem fd19 (p : Params) : ∃ fd, Fun (HK p) "is_fraction" "is_fraction" (top 19) 258 fd := by
  rw [topQ]
  refine ⟨?fd, ⟨⟨?a1, ?a2, ?a3, ?a4, ?a5, ?a6, ?a7, ?a8, ?a9, ?e1, ?e2, ?e3⟩, ?e4⟩⟩
  case e1 => exact rfl
  case e2 => exact rfl
  case e3 => kernel_rfl
  case e4 => kernel_rfl
theorem df19 (X : (HK p).In h) (G : h.Ns mainGlobals mg) : Df (HK p) mg "is_fraction" (top 19) := by
  obtain ⟨fd, F⟩ := fd19 p
  exact ⟨258, fd, F, PySem.W.mg_of X G (by kernel_rfl)⟩
theorem fd20 (p : Params) : ∃ fd, Fun (HK p) "is_below" "is_below" (top 20) 265 fd := by
  rw [topQ]
  refine ⟨?fd, ⟨⟨?a1, ?a2, ?a3, ?a4, ?a5, ?a6, ?a7, ?a8, ?a9, ?e1, ?e2, ?e3⟩, ?e4⟩⟩
  case e1 => exact rfl
  case e2 => exact rfl
  case e3 => kernel_rfl
  case e4 => kernel_rfl
theorem df20 (X : (HK p).In h) (G : h.Ns mainGlobals mg) : Df (HK p) mg "is_below" (top 20) := by
  obtain ⟨fd, F⟩ := fd20 p
  exact ⟨265, fd, F, PySem.W.mg_of X G (by kernel_rfl)⟩
theorem fd21 (p : Params) : ∃ fd, Fun (HK p) "is_term" "is_term" (top 21) 272 fd := by
  rw [topQ]
  refine ⟨?fd, ⟨⟨?a1, ?a2, ?a3, ?a4, ?a5, ?a6, ?a7, ?a8, ?a9, ?e1, ?e2, ?e3⟩, ?e4⟩⟩
  case e1 => exact rfl
  case e2 => exact rfl
  case e3 => kernel_rfl
  case e4 => kernel_rfl
theorem df21 (X : (HK p).In h) (G : h.Ns mainGlobals mg) : Df (HK p) mg "is_term" (top 21) := by
  obtain ⟨fd, F⟩ := fd21 p
  exact ⟨272, fd, F, PySem.W.mg_of X G (by kernel_rfl)⟩
theorem fd22 (p : Params) : ∃ fd, Fun (HK p) "wrong_term" "wrong_term" (top 22) 279 fd := by
  rw [topQ]
  refine ⟨?fd, ⟨⟨?a1, ?a2, ?a3, ?a4, ?a5, ?a6, ?a7, ?a8, ?a9, ?e1, ?e2, ?e3⟩, ?e4⟩⟩
  case e1 => exact rfl
  case e2 => exact rfl
  case e3 => kernel_rfl
  case e4 => kernel_rfl
theorem df22 (X : (HK p).In h) (G : h.Ns mainGlobals mg) : Df (HK p) mg "wrong_term" (top 22) := by
  obtain ⟨fd, F⟩ := fd22 p
  exact ⟨279, fd, F, PySem.W.mg_of X G (by kernel_rfl)⟩
theorem fd24 (p : Params) : ∃ fd, Fun (HK p) "trimmed" "trimmed" (top 24) 286 fd := by
  rw [topQ]
  refine ⟨?fd, ⟨⟨?a1, ?a2, ?a3, ?a4, ?a5, ?a6, ?a7, ?a8, ?a9, ?e1, ?e2, ?e3⟩, ?e4⟩⟩
  case e1 => exact rfl
  case e2 => exact rfl
  case e3 => kernel_rfl
  case e4 => kernel_rfl
theorem df24 (X : (HK p).In h) (G : h.Ns mainGlobals mg) : Df (HK p) mg "trimmed" (top 24) := by
  obtain ⟨fd, F⟩ := fd24 p
  exact ⟨286, fd, F, PySem.W.mg_of X G (by kernel_rfl)⟩
theorem fd25 (p : Params) : ∃ fd, Fun (HK p) "common_divisor" "common_divisor" (top 25) 293 fd := by
  rw [topQ]
  refine ⟨?fd, ⟨⟨?a1, ?a2, ?a3, ?a4, ?a5, ?a6, ?a7, ?a8, ?a9, ?e1, ?e2, ?e3⟩, ?e4⟩⟩
  case e1 => exact rfl
  case e2 => exact rfl
  case e3 => kernel_rfl
  case e4 => kernel_rfl
theorem df25 (X : (HK p).In h) (G : h.Ns mainGlobals mg) : Df (HK p) mg "common_divisor" (top 25) := by
  obtain ⟨fd, F⟩ := fd25 p
  exact ⟨293, fd, F, PySem.W.mg_of X G (by kernel_rfl)⟩
theorem fd26 (p : Params) : ∃ fd, Fun (HK p) "primitive" "primitive" (top 26) 298 fd := by
  rw [topQ]
  refine ⟨?fd, ⟨⟨?a1, ?a2, ?a3, ?a4, ?a5, ?a6, ?a7, ?a8, ?a9, ?e1, ?e2, ?e3⟩, ?e4⟩⟩
  case e1 => exact rfl
  case e2 => exact rfl
  case e3 => kernel_rfl
  case e4 => kernel_rfl
theorem df26 (X : (HK p).In h) (G : h.Ns mainGlobals mg) : Df (HK p) mg "primitive" (top 26) := by
  obtain ⟨fd, F⟩ := fd26 p
  exact ⟨298, fd, F, PySem.W.mg_of X G (by kernel_rfl)⟩
theorem fd27 (p : Params) : ∃ fd, Fun (HK p) "negative" "negative" (top 27) 303 fd := by
  rw [topQ]
  refine ⟨?fd, ⟨⟨?a1, ?a2, ?a3, ?a4, ?a5, ?a6, ?a7, ?a8, ?a9, ?e1, ?e2, ?e3⟩, ?e4⟩⟩
  case e1 => exact rfl
  case e2 => exact rfl
  case e3 => kernel_rfl
  case e4 => kernel_rfl
theorem df27 (X : (HK p).In h) (G : h.Ns mainGlobals mg) : Df (HK p) mg "negative" (top 27) := by
  obtain ⟨fd, F⟩ := fd27 p
  exact ⟨303, fd, F, PySem.W.mg_of X G (by kernel_rfl)⟩
theorem fd28 (p : Params) : ∃ fd, Fun (HK p) "derivative" "derivative" (top 28) 308 fd := by
  rw [topQ]
  refine ⟨?fd, ⟨⟨?a1, ?a2, ?a3, ?a4, ?a5, ?a6, ?a7, ?a8, ?a9, ?e1, ?e2, ?e3⟩, ?e4⟩⟩
  case e1 => exact rfl
  case e2 => exact rfl
  case e3 => kernel_rfl
  case e4 => kernel_rfl
theorem df28 (X : (HK p).In h) (G : h.Ns mainGlobals mg) : Df (HK p) mg "derivative" (top 28) := by
  obtain ⟨fd, F⟩ := fd28 p
  exact ⟨308, fd, F, PySem.W.mg_of X G (by kernel_rfl)⟩
theorem fd29 (p : Params) : ∃ fd, Fun (HK p) "value_at" "value_at" (top 29) 315 fd := by
  rw [topQ]
  refine ⟨?fd, ⟨⟨?a1, ?a2, ?a3, ?a4, ?a5, ?a6, ?a7, ?a8, ?a9, ?e1, ?e2, ?e3⟩, ?e4⟩⟩
  case e1 => exact rfl
  case e2 => exact rfl
  case e3 => kernel_rfl
  case e4 => kernel_rfl
theorem df29 (X : (HK p).In h) (G : h.Ns mainGlobals mg) : Df (HK p) mg "value_at" (top 29) := by
  obtain ⟨fd, F⟩ := fd29 p
  exact ⟨315, fd, F, PySem.W.mg_of X G (by kernel_rfl)⟩
theorem fd30 (p : Params) : ∃ fd, Fun (HK p) "multiplied" "multiplied" (top 30) 322 fd := by
  rw [topQ]
  refine ⟨?fd, ⟨⟨?a1, ?a2, ?a3, ?a4, ?a5, ?a6, ?a7, ?a8, ?a9, ?e1, ?e2, ?e3⟩, ?e4⟩⟩
  case e1 => exact rfl
  case e2 => exact rfl
  case e3 => kernel_rfl
  case e4 => kernel_rfl
theorem df30 (X : (HK p).In h) (G : h.Ns mainGlobals mg) : Df (HK p) mg "multiplied" (top 30) := by
  obtain ⟨fd, F⟩ := fd30 p
  exact ⟨322, fd, F, PySem.W.mg_of X G (by kernel_rfl)⟩
theorem fd31 (p : Params) : ∃ fd, Fun (HK p) "combined" "combined" (top 31) 329 fd := by
  rw [topQ]
  refine ⟨?fd, ⟨⟨?a1, ?a2, ?a3, ?a4, ?a5, ?a6, ?a7, ?a8, ?a9, ?e1, ?e2, ?e3⟩, ?e4⟩⟩
  case e1 => exact rfl
  case e2 => exact rfl
  case e3 => kernel_rfl
  case e4 => kernel_rfl
theorem df31 (X : (HK p).In h) (G : h.Ns mainGlobals mg) : Df (HK p) mg "combined" (top 31) := by
  obtain ⟨fd, F⟩ := fd31 p
  exact ⟨329, fd, F, PySem.W.mg_of X G (by kernel_rfl)⟩
theorem fd32 (p : Params) : ∃ fd, Fun (HK p) "remainder" "remainder" (top 32) 336 fd := by
  rw [topQ]
  refine ⟨?fd, ⟨⟨?a1, ?a2, ?a3, ?a4, ?a5, ?a6, ?a7, ?a8, ?a9, ?e1, ?e2, ?e3⟩, ?e4⟩⟩
  case e1 => exact rfl
  case e2 => exact rfl
  case e3 => kernel_rfl
  case e4 => kernel_rfl
theorem df32 (X : (HK p).In h) (G : h.Ns mainGlobals mg) : Df (HK p) mg "remainder" (top 32) := by
  obtain ⟨fd, F⟩ := fd32 p
  exact ⟨336, fd, F, PySem.W.mg_of X G (by kernel_rfl)⟩
theorem fd33 (p : Params) : ∃ fd, Fun (HK p) "divided" "divided" (top 33) 343 fd := by
  rw [topQ]
  refine ⟨?fd, ⟨⟨?a1, ?a2, ?a3, ?a4, ?a5, ?a6, ?a7, ?a8, ?a9, ?e1, ?e2, ?e3⟩, ?e4⟩⟩
  case e1 => exact rfl
  case e2 => exact rfl
  case e3 => kernel_rfl
  case e4 => kernel_rfl
theorem df33 (X : (HK p).In h) (G : h.Ns mainGlobals mg) : Df (HK p) mg "divided" (top 33) := by
  obtain ⟨fd, F⟩ := fd33 p
  exact ⟨343, fd, F, PySem.W.mg_of X G (by kernel_rfl)⟩
theorem fd36 (p : Params) : ∃ fd, Fun (HK p) "sturm_chain" "sturm_chain" (top 36) 350 fd := by
  rw [topQ]
  refine ⟨?fd, ⟨⟨?a1, ?a2, ?a3, ?a4, ?a5, ?a6, ?a7, ?a8, ?a9, ?e1, ?e2, ?e3⟩, ?e4⟩⟩
  case e1 => exact rfl
  case e2 => exact rfl
  case e3 => kernel_rfl
  case e4 => kernel_rfl
theorem df36 (X : (HK p).In h) (G : h.Ns mainGlobals mg) : Df (HK p) mg "sturm_chain" (top 36) := by
  obtain ⟨fd, F⟩ := fd36 p
  exact ⟨350, fd, F, PySem.W.mg_of X G (by kernel_rfl)⟩
theorem fd37 (p : Params) : ∃ fd, Fun (HK p) "changes" "changes" (top 37) 355 fd := by
  rw [topQ]
  refine ⟨?fd, ⟨⟨?a1, ?a2, ?a3, ?a4, ?a5, ?a6, ?a7, ?a8, ?a9, ?e1, ?e2, ?e3⟩, ?e4⟩⟩
  case e1 => exact rfl
  case e2 => exact rfl
  case e3 => kernel_rfl
  case e4 => kernel_rfl
theorem df37 (X : (HK p).In h) (G : h.Ns mainGlobals mg) : Df (HK p) mg "changes" (top 37) := by
  obtain ⟨fd, F⟩ := fd37 p
  exact ⟨355, fd, F, PySem.W.mg_of X G (by kernel_rfl)⟩
theorem fd38 (p : Params) : ∃ fd, Fun (HK p) "reach" "reach" (top 38) 360 fd := by
  rw [topQ]
  refine ⟨?fd, ⟨⟨?a1, ?a2, ?a3, ?a4, ?a5, ?a6, ?a7, ?a8, ?a9, ?e1, ?e2, ?e3⟩, ?e4⟩⟩
  case e1 => exact rfl
  case e2 => exact rfl
  case e3 => kernel_rfl
  case e4 => kernel_rfl
theorem df38 (X : (HK p).In h) (G : h.Ns mainGlobals mg) : Df (HK p) mg "reach" (top 38) := by
  obtain ⟨fd, F⟩ := fd38 p
  exact ⟨360, fd, F, PySem.W.mg_of X G (by kernel_rfl)⟩
theorem fd39 (p : Params) : ∃ fd, Fun (HK p) "roots_up_to" "roots_up_to" (top 39) 367 fd := by
  rw [topQ]
  refine ⟨?fd, ⟨⟨?a1, ?a2, ?a3, ?a4, ?a5, ?a6, ?a7, ?a8, ?a9, ?e1, ?e2, ?e3⟩, ?e4⟩⟩
  case e1 => exact rfl
  case e2 => exact rfl
  case e3 => kernel_rfl
  case e4 => kernel_rfl
theorem df39 (X : (HK p).In h) (G : h.Ns mainGlobals mg) : Df (HK p) mg "roots_up_to" (top 39) := by
  obtain ⟨fd, F⟩ := fd39 p
  exact ⟨367, fd, F, PySem.W.mg_of X G (by kernel_rfl)⟩
theorem fd40 (p : Params) : ∃ fd, Fun (HK p) "roots_in_all" "roots_in_all" (top 40) 374 fd := by
  rw [topQ]
  refine ⟨?fd, ⟨⟨?a1, ?a2, ?a3, ?a4, ?a5, ?a6, ?a7, ?a8, ?a9, ?e1, ?e2, ?e3⟩, ?e4⟩⟩
  case e1 => exact rfl
  case e2 => exact rfl
  case e3 => kernel_rfl
  case e4 => kernel_rfl
theorem df40 (X : (HK p).In h) (G : h.Ns mainGlobals mg) : Df (HK p) mg "roots_in_all" (top 40) := by
  obtain ⟨fd, F⟩ := fd40 p
  exact ⟨374, fd, F, PySem.W.mg_of X G (by kernel_rfl)⟩
theorem fd41 (p : Params) : ∃ fd, Fun (HK p) "roots_within" "roots_within" (top 41) 381 fd := by
  rw [topQ]
  refine ⟨?fd, ⟨⟨?a1, ?a2, ?a3, ?a4, ?a5, ?a6, ?a7, ?a8, ?a9, ?e1, ?e2, ?e3⟩, ?e4⟩⟩
  case e1 => exact rfl
  case e2 => exact rfl
  case e3 => kernel_rfl
  case e4 => kernel_rfl
theorem df41 (X : (HK p).In h) (G : h.Ns mainGlobals mg) : Df (HK p) mg "roots_within" (top 41) := by
  obtain ⟨fd, F⟩ := fd41 p
  exact ⟨381, fd, F, PySem.W.mg_of X G (by kernel_rfl)⟩
theorem fd42 (p : Params) : ∃ fd, Fun (HK p) "rank_of_last" "rank_of_last" (top 42) 388 fd := by
  rw [topQ]
  refine ⟨?fd, ⟨⟨?a1, ?a2, ?a3, ?a4, ?a5, ?a6, ?a7, ?a8, ?a9, ?e1, ?e2, ?e3⟩, ?e4⟩⟩
  case e1 => exact rfl
  case e2 => exact rfl
  case e3 => kernel_rfl
  case e4 => kernel_rfl
theorem df42 (X : (HK p).In h) (G : h.Ns mainGlobals mg) : Df (HK p) mg "rank_of_last" (top 42) := by
  obtain ⟨fd, F⟩ := fd42 p
  exact ⟨388, fd, F, PySem.W.mg_of X G (by kernel_rfl)⟩
theorem fd43 (p : Params) : ∃ fd, Fun (HK p) "stretch_of" "stretch_of" (top 43) 395 fd := by
  rw [topQ]
  refine ⟨?fd, ⟨⟨?a1, ?a2, ?a3, ?a4, ?a5, ?a6, ?a7, ?a8, ?a9, ?e1, ?e2, ?e3⟩, ?e4⟩⟩
  case e1 => exact rfl
  case e2 => exact rfl
  case e3 => kernel_rfl
  case e4 => kernel_rfl
theorem df43 (X : (HK p).In h) (G : h.Ns mainGlobals mg) : Df (HK p) mg "stretch_of" (top 43) := by
  obtain ⟨fd, F⟩ := fd43 p
  exact ⟨395, fd, F, PySem.W.mg_of X G (by kernel_rfl)⟩
theorem fd44 (p : Params) : ∃ fd, Fun (HK p) "lonely_stretch" "lonely_stretch" (top 44) 402 fd := by
  rw [topQ]
  refine ⟨?fd, ⟨⟨?a1, ?a2, ?a3, ?a4, ?a5, ?a6, ?a7, ?a8, ?a9, ?e1, ?e2, ?e3⟩, ?e4⟩⟩
  case e1 => exact rfl
  case e2 => exact rfl
  case e3 => kernel_rfl
  case e4 => kernel_rfl
theorem df44 (X : (HK p).In h) (G : h.Ns mainGlobals mg) : Df (HK p) mg "lonely_stretch" (top 44) := by
  obtain ⟨fd, F⟩ := fd44 p
  exact ⟨402, fd, F, PySem.W.mg_of X G (by kernel_rfl)⟩
theorem fd45 (p : Params) : ∃ fd, Fun (HK p) "refined" "refined" (top 45) 409 fd := by
  rw [topQ]
  refine ⟨?fd, ⟨⟨?a1, ?a2, ?a3, ?a4, ?a5, ?a6, ?a7, ?a8, ?a9, ?e1, ?e2, ?e3⟩, ?e4⟩⟩
  case e1 => exact rfl
  case e2 => exact rfl
  case e3 => kernel_rfl
  case e4 => kernel_rfl
theorem df45 (X : (HK p).In h) (G : h.Ns mainGlobals mg) : Df (HK p) mg "refined" (top 45) := by
  obtain ⟨fd, F⟩ := fd45 p
  exact ⟨409, fd, F, PySem.W.mg_of X G (by kernel_rfl)⟩
theorem fd46 (p : Params) : ∃ fd, Fun (HK p) "guessed" "guessed" (top 46) 416 fd := by
  rw [topQ]
  refine ⟨?fd, ⟨⟨?a1, ?a2, ?a3, ?a4, ?a5, ?a6, ?a7, ?a8, ?a9, ?e1, ?e2, ?e3⟩, ?e4⟩⟩
  case e1 => exact rfl
  case e2 => exact rfl
  case e3 => kernel_rfl
  case e4 => kernel_rfl
theorem df46 (X : (HK p).In h) (G : h.Ns mainGlobals mg) : Df (HK p) mg "guessed" (top 46) := by
  obtain ⟨fd, F⟩ := fd46 p
  exact ⟨416, fd, F, PySem.W.mg_of X G (by kernel_rfl)⟩
theorem fd48 (p : Params) : ∃ fd, Fun (HK p) "is_least" "is_least" (top 48) 423 fd := by
  rw [topQ]
  refine ⟨?fd, ⟨⟨?a1, ?a2, ?a3, ?a4, ?a5, ?a6, ?a7, ?a8, ?a9, ?e1, ?e2, ?e3⟩, ?e4⟩⟩
  case e1 => exact rfl
  case e2 => exact rfl
  case e3 => kernel_rfl
  case e4 => kernel_rfl
theorem df48 (X : (HK p).In h) (G : h.Ns mainGlobals mg) : Df (HK p) mg "is_least" (top 48) := by
  obtain ⟨fd, F⟩ := fd48 p
  exact ⟨423, fd, F, PySem.W.mg_of X G (by kernel_rfl)⟩
theorem fd49 (p : Params) : ∃ fd, Fun (HK p) "factors_of" "factors_of" (top 49) 430 fd := by
  rw [topQ]
  refine ⟨?fd, ⟨⟨?a1, ?a2, ?a3, ?a4, ?a5, ?a6, ?a7, ?a8, ?a9, ?e1, ?e2, ?e3⟩, ?e4⟩⟩
  case e1 => exact rfl
  case e2 => exact rfl
  case e3 => kernel_rfl
  case e4 => kernel_rfl
theorem df49 (X : (HK p).In h) (G : h.Ns mainGlobals mg) : Df (HK p) mg "factors_of" (top 49) := by
  obtain ⟨fd, F⟩ := fd49 p
  exact ⟨430, fd, F, PySem.W.mg_of X G (by kernel_rfl)⟩
theorem fd50 (p : Params) : ∃ fd, Fun (HK p) "least_factor" "least_factor" (top 50) 437 fd := by
  rw [topQ]
  refine ⟨?fd, ⟨⟨?a1, ?a2, ?a3, ?a4, ?a5, ?a6, ?a7, ?a8, ?a9, ?e1, ?e2, ?e3⟩, ?e4⟩⟩
  case e1 => exact rfl
  case e2 => exact rfl
  case e3 => kernel_rfl
  case e4 => kernel_rfl
theorem df50 (X : (HK p).In h) (G : h.Ns mainGlobals mg) : Df (HK p) mg "least_factor" (top 50) := by
  obtain ⟨fd, F⟩ := fd50 p
  exact ⟨437, fd, F, PySem.W.mg_of X G (by kernel_rfl)⟩
theorem fd51 (p : Params) : ∃ fd, Fun (HK p) "divisors" "divisors" (top 51) 442 fd := by
  rw [topQ]
  refine ⟨?fd, ⟨⟨?a1, ?a2, ?a3, ?a4, ?a5, ?a6, ?a7, ?a8, ?a9, ?e1, ?e2, ?e3⟩, ?e4⟩⟩
  case e1 => exact rfl
  case e2 => exact rfl
  case e3 => kernel_rfl
  case e4 => kernel_rfl
theorem df51 (X : (HK p).In h) (G : h.Ns mainGlobals mg) : Df (HK p) mg "divisors" (top 51) := by
  obtain ⟨fd, F⟩ := fd51 p
  exact ⟨442, fd, F, PySem.W.mg_of X G (by kernel_rfl)⟩
theorem fd52 (p : Params) : ∃ fd, Fun (HK p) "linear_factor" "linear_factor" (top 52) 449 fd := by
  rw [topQ]
  refine ⟨?fd, ⟨⟨?a1, ?a2, ?a3, ?a4, ?a5, ?a6, ?a7, ?a8, ?a9, ?e1, ?e2, ?e3⟩, ?e4⟩⟩
  case e1 => exact rfl
  case e2 => exact rfl
  case e3 => kernel_rfl
  case e4 => kernel_rfl
theorem df52 (X : (HK p).In h) (G : h.Ns mainGlobals mg) : Df (HK p) mg "linear_factor" (top 52) := by
  obtain ⟨fd, F⟩ := fd52 p
  exact ⟨449, fd, F, PySem.W.mg_of X G (by kernel_rfl)⟩
theorem fd53 (p : Params) : ∃ fd, Fun (HK p) "quadratic_factor" "quadratic_factor" (top 53) 456 fd := by
  rw [topQ]
  refine ⟨?fd, ⟨⟨?a1, ?a2, ?a3, ?a4, ?a5, ?a6, ?a7, ?a8, ?a9, ?e1, ?e2, ?e3⟩, ?e4⟩⟩
  case e1 => exact rfl
  case e2 => exact rfl
  case e3 => kernel_rfl
  case e4 => kernel_rfl
theorem df53 (X : (HK p).In h) (G : h.Ns mainGlobals mg) : Df (HK p) mg "quadratic_factor" (top 53) := by
  obtain ⟨fd, F⟩ := fd53 p
  exact ⟨456, fd, F, PySem.W.mg_of X G (by kernel_rfl)⟩
theorem fd54 (p : Params) : ∃ fd, Fun (HK p) "middles" "middles" (top 54) 463 fd := by
  rw [topQ]
  refine ⟨?fd, ⟨⟨?a1, ?a2, ?a3, ?a4, ?a5, ?a6, ?a7, ?a8, ?a9, ?e1, ?e2, ?e3⟩, ?e4⟩⟩
  case e1 => exact rfl
  case e2 => exact rfl
  case e3 => kernel_rfl
  case e4 => kernel_rfl
theorem df54 (X : (HK p).In h) (G : h.Ns mainGlobals mg) : Df (HK p) mg "middles" (top 54) := by
  obtain ⟨fd, F⟩ := fd54 p
  exact ⟨463, fd, F, PySem.W.mg_of X G (by kernel_rfl)⟩
theorem fd55 (p : Params) : ∃ fd, Fun (HK p) "whole_roots" "whole_roots" (top 55) 468 fd := by
  rw [topQ]
  refine ⟨?fd, ⟨⟨?a1, ?a2, ?a3, ?a4, ?a5, ?a6, ?a7, ?a8, ?a9, ?e1, ?e2, ?e3⟩, ?e4⟩⟩
  case e1 => exact rfl
  case e2 => exact rfl
  case e3 => kernel_rfl
  case e4 => kernel_rfl
theorem df55 (X : (HK p).In h) (G : h.Ns mainGlobals mg) : Df (HK p) mg "whole_roots" (top 55) := by
  obtain ⟨fd, F⟩ := fd55 p
  exact ⟨468, fd, F, PySem.W.mg_of X G (by kernel_rfl)⟩
theorem fd58 (p : Params) : ∃ fd, Fun (HK p) "check_shape" "check_shape" (top 58) 557 fd := by
  rw [topQ]
  refine ⟨?fd, ⟨⟨?a1, ?a2, ?a3, ?a4, ?a5, ?a6, ?a7, ?a8, ?a9, ?e1, ?e2, ?e3⟩, ?e4⟩⟩
  case e1 => exact rfl
  case e2 => exact rfl
  case e3 => kernel_rfl
  case e4 => kernel_rfl
theorem df58 (X : (HK p).In h) (G : h.Ns mainGlobals mg) : Df (HK p) mg "check_shape" (top 58) := by
  obtain ⟨fd, F⟩ := fd58 p
  exact ⟨557, fd, F, PySem.W.mg_of X G (by kernel_rfl)⟩
theorem fd59 (p : Params) : ∃ fd, Fun (HK p) "check_equation" "check_equation" (top 59) 564 fd := by
  rw [topQ]
  refine ⟨?fd, ⟨⟨?a1, ?a2, ?a3, ?a4, ?a5, ?a6, ?a7, ?a8, ?a9, ?e1, ?e2, ?e3⟩, ?e4⟩⟩
  case e1 => exact rfl
  case e2 => exact rfl
  case e3 => kernel_rfl
  case e4 => kernel_rfl
theorem df59 (X : (HK p).In h) (G : h.Ns mainGlobals mg) : Df (HK p) mg "check_equation" (top 59) := by
  obtain ⟨fd, F⟩ := fd59 p
  exact ⟨564, fd, F, PySem.W.mg_of X G (by kernel_rfl)⟩
theorem fd60 (p : Params) : ∃ fd, Fun (HK p) "check_stretch" "check_stretch" (top 60) 571 fd := by
  rw [topQ]
  refine ⟨?fd, ⟨⟨?a1, ?a2, ?a3, ?a4, ?a5, ?a6, ?a7, ?a8, ?a9, ?e1, ?e2, ?e3⟩, ?e4⟩⟩
  case e1 => exact rfl
  case e2 => exact rfl
  case e3 => kernel_rfl
  case e4 => kernel_rfl
theorem df60 (X : (HK p).In h) (G : h.Ns mainGlobals mg) : Df (HK p) mg "check_stretch" (top 60) := by
  obtain ⟨fd, F⟩ := fd60 p
  exact ⟨571, fd, F, PySem.W.mg_of X G (by kernel_rfl)⟩
theorem fd61 (p : Params) : ∃ fd, Fun (HK p) "factor_within" "factor_within" (top 61) 578 fd := by
  rw [topQ]
  refine ⟨?fd, ⟨⟨?a1, ?a2, ?a3, ?a4, ?a5, ?a6, ?a7, ?a8, ?a9, ?e1, ?e2, ?e3⟩, ?e4⟩⟩
  case e1 => exact rfl
  case e2 => exact rfl
  case e3 => kernel_rfl
  case e4 => kernel_rfl
theorem df61 (X : (HK p).In h) (G : h.Ns mainGlobals mg) : Df (HK p) mg "factor_within" (top 61) := by
  obtain ⟨fd, F⟩ := fd61 p
  exact ⟨578, fd, F, PySem.W.mg_of X G (by kernel_rfl)⟩
theorem fd62 (p : Params) : ∃ fd, Fun (HK p) "told_by" "told_by" (top 62) 583 fd := by
  rw [topQ]
  refine ⟨?fd, ⟨⟨?a1, ?a2, ?a3, ?a4, ?a5, ?a6, ?a7, ?a8, ?a9, ?e1, ?e2, ?e3⟩, ?e4⟩⟩
  case e1 => exact rfl
  case e2 => exact rfl
  case e3 => kernel_rfl
  case e4 => kernel_rfl
theorem df62 (X : (HK p).In h) (G : h.Ns mainGlobals mg) : Df (HK p) mg "told_by" (top 62) := by
  obtain ⟨fd, F⟩ := fd62 p
  exact ⟨583, fd, F, PySem.W.mg_of X G (by kernel_rfl)⟩
theorem fd63 (p : Params) : ∃ fd, Fun (HK p) "integer_of" "integer_of" (top 63) 590 fd := by
  rw [topQ]
  refine ⟨?fd, ⟨⟨?a1, ?a2, ?a3, ?a4, ?a5, ?a6, ?a7, ?a8, ?a9, ?e1, ?e2, ?e3⟩, ?e4⟩⟩
  case e1 => exact rfl
  case e2 => exact rfl
  case e3 => kernel_rfl
  case e4 => kernel_rfl
theorem df63 (X : (HK p).In h) (G : h.Ns mainGlobals mg) : Df (HK p) mg "integer_of" (top 63) := by
  obtain ⟨fd, F⟩ := fd63 p
  exact ⟨590, fd, F, PySem.W.mg_of X G (by kernel_rfl)⟩
theorem fd64 (p : Params) : ∃ fd, Fun (HK p) "text_of" "text_of" (top 64) 595 fd := by
  rw [topQ]
  refine ⟨?fd, ⟨⟨?a1, ?a2, ?a3, ?a4, ?a5, ?a6, ?a7, ?a8, ?a9, ?e1, ?e2, ?e3⟩, ?e4⟩⟩
  case e1 => exact rfl
  case e2 => exact rfl
  case e3 => kernel_rfl
  case e4 => kernel_rfl
theorem df64 (X : (HK p).In h) (G : h.Ns mainGlobals mg) : Df (HK p) mg "text_of" (top 64) := by
  obtain ⟨fd, F⟩ := fd64 p
  exact ⟨595, fd, F, PySem.W.mg_of X G (by kernel_rfl)⟩
theorem fd66 (p : Params) : ∃ fd, Fun (HK p) "total" "total" (top 66) 602 fd := by
  rw [topQ]
  refine ⟨?fd, ⟨⟨?a1, ?a2, ?a3, ?a4, ?a5, ?a6, ?a7, ?a8, ?a9, ?e1, ?e2, ?e3⟩, ?e4⟩⟩
  case e1 => exact rfl
  case e2 => exact rfl
  case e3 => kernel_rfl
  case e4 => kernel_rfl
theorem df66 (X : (HK p).In h) (G : h.Ns mainGlobals mg) : Df (HK p) mg "total" (top 66) := by
  obtain ⟨fd, F⟩ := fd66 p
  exact ⟨602, fd, F, PySem.W.mg_of X G (by kernel_rfl)⟩
theorem fd67 (p : Params) : ∃ fd, Fun (HK p) "product" "product" (top 67) 609 fd := by
  rw [topQ]
  refine ⟨?fd, ⟨⟨?a1, ?a2, ?a3, ?a4, ?a5, ?a6, ?a7, ?a8, ?a9, ?e1, ?e2, ?e3⟩, ?e4⟩⟩
  case e1 => exact rfl
  case e2 => exact rfl
  case e3 => kernel_rfl
  case e4 => kernel_rfl
theorem df67 (X : (HK p).In h) (G : h.Ns mainGlobals mg) : Df (HK p) mg "product" (top 67) := by
  obtain ⟨fd, F⟩ := fd67 p
  exact ⟨609, fd, F, PySem.W.mg_of X G (by kernel_rfl)⟩
theorem fd68 (p : Params) : ∃ fd, Fun (HK p) "quotient" "quotient" (top 68) 616 fd := by
  rw [topQ]
  refine ⟨?fd, ⟨⟨?a1, ?a2, ?a3, ?a4, ?a5, ?a6, ?a7, ?a8, ?a9, ?e1, ?e2, ?e3⟩, ?e4⟩⟩
  case e1 => exact rfl
  case e2 => exact rfl
  case e3 => kernel_rfl
  case e4 => kernel_rfl
theorem df68 (X : (HK p).In h) (G : h.Ns mainGlobals mg) : Df (HK p) mg "quotient" (top 68) := by
  obtain ⟨fd, F⟩ := fd68 p
  exact ⟨616, fd, F, PySem.W.mg_of X G (by kernel_rfl)⟩
theorem fd69 (p : Params) : ∃ fd, Fun (HK p) "opposite" "opposite" (top 69) 623 fd := by
  rw [topQ]
  refine ⟨?fd, ⟨⟨?a1, ?a2, ?a3, ?a4, ?a5, ?a6, ?a7, ?a8, ?a9, ?e1, ?e2, ?e3⟩, ?e4⟩⟩
  case e1 => exact rfl
  case e2 => exact rfl
  case e3 => kernel_rfl
  case e4 => kernel_rfl
theorem df69 (X : (HK p).In h) (G : h.Ns mainGlobals mg) : Df (HK p) mg "opposite" (top 69) := by
  obtain ⟨fd, F⟩ := fd69 p
  exact ⟨623, fd, F, PySem.W.mg_of X G (by kernel_rfl)⟩
theorem fd70 (p : Params) : ∃ fd, Fun (HK p) "sign" "sign" (top 70) 630 fd := by
  rw [topQ]
  refine ⟨?fd, ⟨⟨?a1, ?a2, ?a3, ?a4, ?a5, ?a6, ?a7, ?a8, ?a9, ?e1, ?e2, ?e3⟩, ?e4⟩⟩
  case e1 => exact rfl
  case e2 => exact rfl
  case e3 => kernel_rfl
  case e4 => kernel_rfl
theorem df70 (X : (HK p).In h) (G : h.Ns mainGlobals mg) : Df (HK p) mg "sign" (top 70) := by
  obtain ⟨fd, F⟩ := fd70 p
  exact ⟨630, fd, F, PySem.W.mg_of X G (by kernel_rfl)⟩
theorem fd71 (p : Params) : ∃ fd, Fun (HK p) "floor_of" "floor_of" (top 71) 637 fd := by
  rw [topQ]
  refine ⟨?fd, ⟨⟨?a1, ?a2, ?a3, ?a4, ?a5, ?a6, ?a7, ?a8, ?a9, ?e1, ?e2, ?e3⟩, ?e4⟩⟩
  case e1 => exact rfl
  case e2 => exact rfl
  case e3 => kernel_rfl
  case e4 => kernel_rfl
theorem df71 (X : (HK p).In h) (G : h.Ns mainGlobals mg) : Df (HK p) mg "floor_of" (top 71) := by
  obtain ⟨fd, F⟩ := fd71 p
  exact ⟨637, fd, F, PySem.W.mg_of X G (by kernel_rfl)⟩
theorem fd72 (p : Params) : ∃ fd, Fun (HK p) "is_number" "is_number" (top 72) 644 fd := by
  rw [topQ]
  refine ⟨?fd, ⟨⟨?a1, ?a2, ?a3, ?a4, ?a5, ?a6, ?a7, ?a8, ?a9, ?e1, ?e2, ?e3⟩, ?e4⟩⟩
  case e1 => exact rfl
  case e2 => exact rfl
  case e3 => kernel_rfl
  case e4 => kernel_rfl
theorem df72 (X : (HK p).In h) (G : h.Ns mainGlobals mg) : Df (HK p) mg "is_number" (top 72) := by
  obtain ⟨fd, F⟩ := fd72 p
  exact ⟨644, fd, F, PySem.W.mg_of X G (by kernel_rfl)⟩
theorem fd73 (p : Params) : ∃ fd, Fun (HK p) "check_number" "check_number" (top 73) 651 fd := by
  rw [topQ]
  refine ⟨?fd, ⟨⟨?a1, ?a2, ?a3, ?a4, ?a5, ?a6, ?a7, ?a8, ?a9, ?e1, ?e2, ?e3⟩, ?e4⟩⟩
  case e1 => exact rfl
  case e2 => exact rfl
  case e3 => kernel_rfl
  case e4 => kernel_rfl
theorem df73 (X : (HK p).In h) (G : h.Ns mainGlobals mg) : Df (HK p) mg "check_number" (top 73) := by
  obtain ⟨fd, F⟩ := fd73 p
  exact ⟨651, fd, F, PySem.W.mg_of X G (by kernel_rfl)⟩
theorem fd74 (p : Params) : ∃ fd, Fun (HK p) "lowest" "lowest" (top 74) 656 fd := by
  rw [topQ]
  refine ⟨?fd, ⟨⟨?a1, ?a2, ?a3, ?a4, ?a5, ?a6, ?a7, ?a8, ?a9, ?e1, ?e2, ?e3⟩, ?e4⟩⟩
  case e1 => exact rfl
  case e2 => exact rfl
  case e3 => kernel_rfl
  case e4 => kernel_rfl
theorem df74 (X : (HK p).In h) (G : h.Ns mainGlobals mg) : Df (HK p) mg "lowest" (top 74) := by
  obtain ⟨fd, F⟩ := fd74 p
  exact ⟨656, fd, F, PySem.W.mg_of X G (by kernel_rfl)⟩
theorem fd75 (p : Params) : ∃ fd, Fun (HK p) "folded" "folded" (top 75) 663 fd := by
  rw [topQ]
  refine ⟨?fd, ⟨⟨?a1, ?a2, ?a3, ?a4, ?a5, ?a6, ?a7, ?a8, ?a9, ?e1, ?e2, ?e3⟩, ?e4⟩⟩
  case e1 => exact rfl
  case e2 => exact rfl
  case e3 => kernel_rfl
  case e4 => kernel_rfl
theorem df75 (X : (HK p).In h) (G : h.Ns mainGlobals mg) : Df (HK p) mg "folded" (top 75) := by
  obtain ⟨fd, F⟩ := fd75 p
  exact ⟨663, fd, F, PySem.W.mg_of X G (by kernel_rfl)⟩
theorem fd76 (p : Params) : ∃ fd, Fun (HK p) "reciprocal" "reciprocal" (top 76) 668 fd := by
  rw [topQ]
  refine ⟨?fd, ⟨⟨?a1, ?a2, ?a3, ?a4, ?a5, ?a6, ?a7, ?a8, ?a9, ?e1, ?e2, ?e3⟩, ?e4⟩⟩
  case e1 => exact rfl
  case e2 => exact rfl
  case e3 => kernel_rfl
  case e4 => kernel_rfl
theorem df76 (X : (HK p).In h) (G : h.Ns mainGlobals mg) : Df (HK p) mg "reciprocal" (top 76) := by
  obtain ⟨fd, F⟩ := fd76 p
  exact ⟨668, fd, F, PySem.W.mg_of X G (by kernel_rfl)⟩
theorem fd77 (p : Params) : ∃ fd, Fun (HK p) "ends" "ends" (top 77) 673 fd := by
  rw [topQ]
  refine ⟨?fd, ⟨⟨?a1, ?a2, ?a3, ?a4, ?a5, ?a6, ?a7, ?a8, ?a9, ?e1, ?e2, ?e3⟩, ?e4⟩⟩
  case e1 => exact rfl
  case e2 => exact rfl
  case e3 => kernel_rfl
  case e4 => kernel_rfl
theorem df77 (X : (HK p).In h) (G : h.Ns mainGlobals mg) : Df (HK p) mg "ends" (top 77) := by
  obtain ⟨fd, F⟩ := fd77 p
  exact ⟨673, fd, F, PySem.W.mg_of X G (by kernel_rfl)⟩
theorem fd79 (p : Params) : ∃ fd, Fun (HK p) "_law_rack" "_law_rack" (top 79) 680 fd := by
  rw [topQ]
  refine ⟨?fd, ⟨⟨?a1, ?a2, ?a3, ?a4, ?a5, ?a6, ?a7, ?a8, ?a9, ?e1, ?e2, ?e3⟩, ?e4⟩⟩
  case e1 => exact rfl
  case e2 => exact rfl
  case e3 => kernel_rfl
  case e4 => kernel_rfl
theorem df79 (X : (HK p).In h) (G : h.Ns mainGlobals mg) : Df (HK p) mg "_law_rack" (top 79) := by
  obtain ⟨fd, F⟩ := fd79 p
  exact ⟨680, fd, F, PySem.W.mg_of X G (by kernel_rfl)⟩
theorem fd80 (p : Params) : ∃ fd, Fun (HK p) "_law_pick" "_law_pick" (top 80) 687 fd := by
  rw [topQ]
  refine ⟨?fd, ⟨⟨?a1, ?a2, ?a3, ?a4, ?a5, ?a6, ?a7, ?a8, ?a9, ?e1, ?e2, ?e3⟩, ?e4⟩⟩
  case e1 => exact rfl
  case e2 => exact rfl
  case e3 => kernel_rfl
  case e4 => kernel_rfl
theorem df80 (X : (HK p).In h) (G : h.Ns mainGlobals mg) : Df (HK p) mg "_law_pick" (top 80) := by
  obtain ⟨fd, F⟩ := fd80 p
  exact ⟨687, fd, F, PySem.W.mg_of X G (by kernel_rfl)⟩
theorem fd81 (p : Params) : ∃ fd, Fun (HK p) "_law_common" "_law_common" (top 81) 694 fd := by
  rw [topQ]
  refine ⟨?fd, ⟨⟨?a1, ?a2, ?a3, ?a4, ?a5, ?a6, ?a7, ?a8, ?a9, ?e1, ?e2, ?e3⟩, ?e4⟩⟩
  case e1 => exact rfl
  case e2 => exact rfl
  case e3 => kernel_rfl
  case e4 => kernel_rfl
theorem df81 (X : (HK p).In h) (G : h.Ns mainGlobals mg) : Df (HK p) mg "_law_common" (top 81) := by
  obtain ⟨fd, F⟩ := fd81 p
  exact ⟨694, fd, F, PySem.W.mg_of X G (by kernel_rfl)⟩
theorem fd82 (p : Params) : ∃ fd, Fun (HK p) "_law_square" "_law_square" (top 82) 701 fd := by
  rw [topQ]
  refine ⟨?fd, ⟨⟨?a1, ?a2, ?a3, ?a4, ?a5, ?a6, ?a7, ?a8, ?a9, ?e1, ?e2, ?e3⟩, ?e4⟩⟩
  case e1 => exact rfl
  case e2 => exact rfl
  case e3 => kernel_rfl
  case e4 => kernel_rfl
theorem df82 (X : (HK p).In h) (G : h.Ns mainGlobals mg) : Df (HK p) mg "_law_square" (top 82) := by
  obtain ⟨fd, F⟩ := fd82 p
  exact ⟨701, fd, F, PySem.W.mg_of X G (by kernel_rfl)⟩
theorem fd83 (p : Params) : ∃ fd, Fun (HK p) "_law_two_roots" "_law_two_roots" (top 83) 706 fd := by
  rw [topQ]
  refine ⟨?fd, ⟨⟨?a1, ?a2, ?a3, ?a4, ?a5, ?a6, ?a7, ?a8, ?a9, ?e1, ?e2, ?e3⟩, ?e4⟩⟩
  case e1 => exact rfl
  case e2 => exact rfl
  case e3 => kernel_rfl
  case e4 => kernel_rfl
theorem df83 (X : (HK p).In h) (G : h.Ns mainGlobals mg) : Df (HK p) mg "_law_two_roots" (top 83) := by
  obtain ⟨fd, F⟩ := fd83 p
  exact ⟨706, fd, F, PySem.W.mg_of X G (by kernel_rfl)⟩
theorem fd87 (p : Params) : ∃ fd, Fun (HK p) "_law_number" "_law_number" (top 87) 730 fd := by
  rw [topQ]
  refine ⟨?fd, ⟨⟨?a1, ?a2, ?a3, ?a4, ?a5, ?a6, ?a7, ?a8, ?a9, ?e1, ?e2, ?e3⟩, ?e4⟩⟩
  case e1 => exact rfl
  case e2 => exact rfl
  case e3 => kernel_rfl
  case e4 => kernel_rfl
theorem df87 (X : (HK p).In h) (G : h.Ns mainGlobals mg) : Df (HK p) mg "_law_number" (top 87) := by
  obtain ⟨fd, F⟩ := fd87 p
  exact ⟨730, fd, F, PySem.W.mg_of X G (by kernel_rfl)⟩
theorem fd88 (p : Params) : ∃ fd, Fun (HK p) "_law_turned" "_law_turned" (top 88) 737 fd := by
  rw [topQ]
  refine ⟨?fd, ⟨⟨?a1, ?a2, ?a3, ?a4, ?a5, ?a6, ?a7, ?a8, ?a9, ?e1, ?e2, ?e3⟩, ?e4⟩⟩
  case e1 => exact rfl
  case e2 => exact rfl
  case e3 => kernel_rfl
  case e4 => kernel_rfl
theorem df88 (X : (HK p).In h) (G : h.Ns mainGlobals mg) : Df (HK p) mg "_law_turned" (top 88) := by
  obtain ⟨fd, F⟩ := fd88 p
  exact ⟨737, fd, F, PySem.W.mg_of X G (by kernel_rfl)⟩
theorem fd89 (p : Params) : ∃ fd, Fun (HK p) "_law_right" "_law_right" (top 89) 742 fd := by
  rw [topQ]
  refine ⟨?fd, ⟨⟨?a1, ?a2, ?a3, ?a4, ?a5, ?a6, ?a7, ?a8, ?a9, ?e1, ?e2, ?e3⟩, ?e4⟩⟩
  case e1 => exact rfl
  case e2 => exact rfl
  case e3 => kernel_rfl
  case e4 => kernel_rfl
theorem df89 (X : (HK p).In h) (G : h.Ns mainGlobals mg) : Df (HK p) mg "_law_right" (top 89) := by
  obtain ⟨fd, F⟩ := fd89 p
  exact ⟨742, fd, F, PySem.W.mg_of X G (by kernel_rfl)⟩
theorem fd90 (p : Params) : ∃ fd, Fun (HK p) "law" "law" (top 90) 747 fd := by
  rw [topQ]
  refine ⟨?fd, ⟨⟨?a1, ?a2, ?a3, ?a4, ?a5, ?a6, ?a7, ?a8, ?a9, ?e1, ?e2, ?e3⟩, ?e4⟩⟩
  case e1 => exact rfl
  case e2 => exact rfl
  case e3 => kernel_rfl
  case e4 => kernel_rfl
theorem df90 (X : (HK p).In h) (G : h.Ns mainGlobals mg) : Df (HK p) mg "law" (top 90) := by
  obtain ⟨fd, F⟩ := fd90 p
  exact ⟨747, fd, F, PySem.W.mg_of X G (by kernel_rfl)⟩
theorem ds_of (X : (HK p).In h) (G : h.Ns mainGlobals mg) : Ds (HK p) mg where
  d17 := df17 X G
  d18 := df18 X G
  d19 := df19 X G
  d20 := df20 X G
  d21 := df21 X G
  d22 := df22 X G
  d24 := df24 X G
  d25 := df25 X G
  d26 := df26 X G
  d27 := df27 X G
  d28 := df28 X G
  d29 := df29 X G
  d30 := df30 X G
  d31 := df31 X G
  d32 := df32 X G
  d33 := df33 X G
  d36 := df36 X G
  d37 := df37 X G
  d38 := df38 X G
  d39 := df39 X G
  d40 := df40 X G
  d41 := df41 X G
  d42 := df42 X G
  d43 := df43 X G
  d44 := df44 X G
  d45 := df45 X G
  d46 := df46 X G
  d48 := df48 X G
  d49 := df49 X G
  d50 := df50 X G
  d51 := df51 X G
  d52 := df52 X G
  d53 := df53 X G
  d54 := df54 X G
  d55 := df55 X G
  d58 := df58 X G
  d59 := df59 X G
  d60 := df60 X G
  d61 := df61 X G
  d62 := df62 X G
  d63 := df63 X G
  d64 := df64 X G
  d66 := df66 X G
  d67 := df67 X G
  d68 := df68 X G
  d69 := df69 X G
  d70 := df70 X G
  d71 := df71 X G
  d72 := df72 X G
  d73 := df73 X G
  d74 := df74 X G
  d75 := df75 X G
  d76 := df76 X G
  d77 := df77 X G
  d79 := df79 X G
  d80 := df80 X G
  d81 := df81 X G
  d82 := df82 X G
  d83 := df83 X G
  d87 := df87 X G
  d88 := df88 X G
  d89 := df89 X G
  d90 := df90 X G
theorem bl_of (X : (HK p).In h) (G : h.Ns mainGlobals mg) : Bl mg where
  isinstance_ := PySem.W.mg_none_of X G (by kernel_rfl)
  int_ := PySem.W.mg_none_of X G (by kernel_rfl)
  bool_ := PySem.W.mg_none_of X G (by kernel_rfl)
  tuple_ := PySem.W.mg_none_of X G (by kernel_rfl)
  str_ := PySem.W.mg_none_of X G (by kernel_rfl)
  len_ := PySem.W.mg_none_of X G (by kernel_rfl)
  all_ := PySem.W.mg_none_of X G (by kernel_rfl)
  range_ := PySem.W.mg_none_of X G (by kernel_rfl)
  max_ := PySem.W.mg_none_of X G (by kernel_rfl)
  min_ := PySem.W.mg_none_of X G (by kernel_rfl)
  abs_ := PySem.W.mg_none_of X G (by kernel_rfl)
  enumerate_ := PySem.W.mg_none_of X G (by kernel_rfl)
  zip_ := PySem.W.mg_none_of X G (by kernel_rfl)
  divmod_ := PySem.W.mg_none_of X G (by kernel_rfl)
  repr_ := PySem.W.mg_none_of X G (by kernel_rfl)
  gcd_ := PySem.W.mg_of X G (by kernel_rfl)
  deg_ := ⟨_, PySem.W.mg_of X G rfl⟩
  term_ := ⟨_, PySem.W.mg_of X G rfl⟩
  bits_ := ⟨_, PySem.W.mg_of X G rfl⟩
theorem sc_of (X : (HK p).In h) (G : h.Ns mainGlobals mg) : ∃ t, mg "MOST_SCALE" = some (.int (10 ^ 40) t) := ⟨647, PySem.W.mg_of X G (by kernel_rfl)⟩
theorem list_of (X : (HK p).In h) (G : h.Ns mainGlobals mg) : mg "list" = none := PySem.W.mg_none_of X G (by kernel_rfl)
theorem any_of (X : (HK p).In h) (G : h.Ns mainGlobals mg) : mg "any" = none := PySem.W.mg_none_of X G (by kernel_rfl)
theorem isq_of (X : (HK p).In h) (G : h.Ns mainGlobals mg) : mg "isqrt" = some (.builtin "math.isqrt") := PySem.W.mg_of X G (by kernel_rfl)
theorem sh_cl (p : Params) : Cls (HK p) 546 := ⟨by kernel_rfl, by kernel_rfl, by kernel_rfl, by kernel_rfl⟩
theorem sh_init (p : Params) : ∃ f fd, Mk (HK p) 546 f ∧ Fun (HK p) "__init__" "Shape.__init__" (inClass (top 57) 0) f fd := by
  rw [topQ]
  refine ⟨482, ?fd, ⟨?m1, ?m2, ?m3, ?m4⟩, ⟨⟨?a1, ?a2, ?a3, ?a4, ?a5, ?a6, ?a7, ?a8, ?a9, ?e1, ?e2, ?e3⟩, ?e4⟩⟩
  case m1 => kernel_rfl
  case m2 => kernel_rfl
  case m3 => kernel_rfl
  case m4 => kernel_rfl
  case e1 => exact rfl
  case e2 => exact rfl
  case e3 => kernel_rfl
  case e4 => kernel_rfl
theorem sh_text (p : Params) : ∃ q f fd, PropOf (HK p) 546 "text" q f ∧ Fun (HK p) "text" "Shape.text" (inClass (top 57) 2) f fd := by
  rw [topQ]
  refine ⟨498, ?f, ?fd, ⟨?m1, ?m2, ?m3, ⟨?rest, ?m4⟩⟩, ⟨⟨?a1, ?a2, ?a3, ?a4, ?a5, ?a6, ?a7, ?a8, ?a9, ?e1, ?e2, ?e3⟩, ?e4⟩⟩
  case m1 => kernel_rfl
  case m4 => exact rfl
  case m2 => kernel_rfl
  case m3 => kernel_rfl
  case e1 => exact rfl
  case e2 => exact rfl
  case e3 => kernel_rfl
  case e4 => kernel_rfl
theorem sh_equation (p : Params) : ∃ q f fd, PropOf (HK p) 546 "equation" q f ∧ Fun (HK p) "equation" "Shape.equation" (inClass (top 57) 3) f fd := by
  rw [topQ]
  refine ⟨506, ?f, ?fd, ⟨?m1, ?m2, ?m3, ⟨?rest, ?m4⟩⟩, ⟨⟨?a1, ?a2, ?a3, ?a4, ?a5, ?a6, ?a7, ?a8, ?a9, ?e1, ?e2, ?e3⟩, ?e4⟩⟩
  case m1 => kernel_rfl
  case m4 => exact rfl
  case m2 => kernel_rfl
  case m3 => kernel_rfl
  case e1 => exact rfl
  case e2 => exact rfl
  case e3 => kernel_rfl
  case e4 => kernel_rfl
theorem sh_degree (p : Params) : ∃ q f fd, PropOf (HK p) 546 "degree" q f ∧ Fun (HK p) "degree" "Shape.degree" (inClass (top 57) 4) f fd := by
  rw [topQ]
  refine ⟨514, ?f, ?fd, ⟨?m1, ?m2, ?m3, ⟨?rest, ?m4⟩⟩, ⟨⟨?a1, ?a2, ?a3, ?a4, ?a5, ?a6, ?a7, ?a8, ?a9, ?e1, ?e2, ?e3⟩, ?e4⟩⟩
  case m1 => kernel_rfl
  case m4 => exact rfl
  case m2 => kernel_rfl
  case m3 => kernel_rfl
  case e1 => exact rfl
  case e2 => exact rfl
  case e3 => kernel_rfl
  case e4 => kernel_rfl
theorem sh_rank (p : Params) : ∃ q f fd, PropOf (HK p) 546 "rank" q f ∧ Fun (HK p) "rank" "Shape.rank" (inClass (top 57) 5) f fd := by
  rw [topQ]
  refine ⟨522, ?f, ?fd, ⟨?m1, ?m2, ?m3, ⟨?rest, ?m4⟩⟩, ⟨⟨?a1, ?a2, ?a3, ?a4, ?a5, ?a6, ?a7, ?a8, ?a9, ?e1, ?e2, ?e3⟩, ?e4⟩⟩
  case m1 => kernel_rfl
  case m4 => exact rfl
  case m2 => kernel_rfl
  case m3 => kernel_rfl
  case e1 => exact rfl
  case e2 => exact rfl
  case e3 => kernel_rfl
  case e4 => kernel_rfl
theorem sh_flo (p : Params) : ∃ f fd, Meth (HK p) 546 "floor_at" f ∧ Fun (HK p) "floor_at" "Shape.floor_at" (inClass (top 57) 6) f fd := by
  rw [topQ]
  refine ⟨529, ?fd, ⟨?m1, ?m2, ?m3⟩, ⟨⟨?a1, ?a2, ?a3, ?a4, ?a5, ?a6, ?a7, ?a8, ?a9, ?e1, ?e2, ?e3⟩, ?e4⟩⟩
  case m1 => kernel_rfl
  case m2 => kernel_rfl
  case m3 => kernel_rfl
  case e1 => exact rfl
  case e2 => exact rfl
  case e3 => kernel_rfl
  case e4 => kernel_rfl
theorem sh_of (X : (HK p).In h) (G : h.Ns mainGlobals mg) : ShC (HK p) mg 546 where
  cl := sh_cl p
  n1 := by show PySem.W.findIn _ _ _ = _; kernel_rfl
  n2 := by show PySem.W.findIn _ _ _ = _; kernel_rfl
  n3 := by show PySem.W.findIn _ _ _ = _; kernel_rfl
  n4 := by show PySem.W.findIn _ _ _ = _; kernel_rfl
  n5 := by show PySem.W.findIn _ _ _ = _; kernel_rfl
  mgC := PySem.W.mg_of X G (by kernel_rfl)
  mkS := sh_init p
  txt := sh_text p
  eqn := sh_equation p
  deg := sh_degree p
  rnk := sh_rank p
  flo := sh_flo p
  c1 := by kernel_rfl
  c2 := by kernel_rfl
  c3 := by kernel_rfl
  c4 := by kernel_rfl
  kit := by kernel_rfl
end
end Wq

/-! The end of k29. -/
namespace Xq
open PySem PySem.Spec PyProof.Rows L2 Xk
/-- the law's call, where no repr is under way -/
theorem call_g2 {P : Program} {w : World} {K : PySem.W.Frag} {mg mb : Str → Option Value} {k : Nat} {fa a : Addr} {x x' : Str} {sp : Sp} {s₁ : Shared} {vs : List Value} {ns : List Int}
    (KX : K.In s₁.heap) (hns : s₁.heap.Ns mainGlobals mg) (hb : s₁.heap.Ns builtinsNs mb) (hbb : ∀ x : Str, x ≠ "__name__" → mb x = bootBuiltins x)
    (hlim : s₁.heap.NoLimit) (hg : s₁.gens = #[]) (ha : s₁.heap.get? a = some { cls := .type "list", data := .seq vs.toArray })
    (hi : IntsAre vs ns) (hl : ns.length ≤ sizeLine) (hr : Room k callerA)
    (F : ∀ base : Heap, CalG P w K mg base k x [x'] sp) (hmx : mg x = some (.ref fa))
    (hsp : ∀ H : Hp, SqL K H a (ns.map V.int) → sp [.ref a] H (fun v _ => v = .bl true) E0) :
    codeAny (model P w) callerA (.call (.ref fa) ⟨[.ref a], []⟩)
      (fun r s' => r = .ok (.ret (.bool true)) ∧ PySem.OldK s₁.heap s'.heap ∧ s'.os = s₁.os ∧ AllBare s'.gens) s₁ := by
  have rv := vals_ints hi
  have lenV := hi.length
  have core : ∀ H : Hp, Only H → SqL K H a (ns.map V.int) → HOk P w H s₁.heap → (∀ b, H b ≠ none → b = a) → (H a ≠ none → K.lookup a = none) →
      codeAny (model P w) callerA (.call (.ref fa) ⟨[.ref a], []⟩)
        (fun r s' => r = .ok (.ret (.bool true)) ∧ PySem.OldK s₁.heap s'.heap ∧ s'.os = s₁.os ∧ AllBare s'.gens) s₁ := by
    intro H hO hS hok hA hK
    have base_of : ∀ {b : Addr} {o : Obj}, s₁.heap.get? b = some o → H b = none → (hidT s₁.heap H).get? b = some o := fun e n => hidT_get e n
    have noA : ∀ {b : Addr} {o : Obj} {es : Array DictEntry} {ep : Nat}, s₁.heap.get? b = some o → o.data = .dict es ep → H b = none := fun {b o es ep} e d => by
      cases q : H b with
      | none => rfl
      | some u =>
        obtain rfl : b = a := hA b (by rw [q]; simp)
        rw [ha] at e
        cases e
        cases (show Data.seq vs.toArray _ = Data.dict es ep from d)
    have nsK : ∀ {b : Addr} {m : Str → Option Value}, s₁.heap.Ns b m → (hidT s₁.heap H).Ns b m := fun {b m} z => by
      obtain ⟨o, es, ep, e, d, r⟩ := z
      exact ⟨o, es, ep, base_of e (noA e d), d, r⟩
    have hKb : K.In (hidT s₁.heap H) := fun b o e => by
      refine base_of (KX b o e) ?_
      cases q : H b with
      | none => rfl
      | some u =>
        obtain rfl : b = a := hA b (by rw [q]; simp)
        rw [hK (by rw [q]; simp)] at e
        cases e
    have hM : Mod K mg (hidT s₁.heap H) := by
      obtain ⟨mc, h1, h2⟩ := hlim
      exact ⟨hKb, nsK hns, ⟨mb, nsK hb, hbb⟩, ⟨mc, nsK h1, h2⟩⟩
    have en : Env0 P w K mg (hidT s₁.heap H) callerA [] s₁ H :=
      ⟨rfl, hM, fun b o e => of_hidT e, Nat.le_of_eq (hidT_size _ _), trivial, fun b hb => absurd (show b ∈ ([] : List Addr) from hb) (by simp), hok, .of_eq hg⟩
    obtain ⟨f', fd, FF, bnd, m', kp⟩ := (F (hidT s₁.heap H)).ex
    rw [hmx] at m'
    cases m'
    have bd := bnd s₁ [.ref a] KX rfl
    rw [List.append_nil] at bd
    refine codeAny_mono (FF.run callerA [] s₁ H ⟨[.ref a], []⟩ [.ref a] [.ref a] _ _ hr rfl en bd (.cons rfl .nil) (hsp H hS)) fun r s' h => ?_
    cases r with
    | error e => exact (show False from h).elim
    | ok fl =>
      cases fl with
      | next => exact False.elim h
      | brk => exact False.elim h
      | cont => exact False.elim h
      | ret u =>
        obtain ⟨v, H', os, bare, un, hok', r', q⟩ := h
        obtain rfl : v = .bl true := q
        obtain rfl : u = Value.bool true := r'
        refine ⟨rfl, PySem.OldK.of_keep fun b o e => ?_, os, bare⟩
        cases q : H b with
        | none =>
          refine un.keep b o e q ?_ (by simp)
          intro z
          exact absurd (show b ∈ ([] : List Addr) from z) (by simp)
        | some u =>
          rcases hO b with z | ⟨ob, xs, z⟩
          · rw [q] at z
            cases z
          · obtain ⟨e1, _⟩ := hok b _ z
            obtain ⟨e2, _⟩ := hok' b _ (un.frzs b ob _ z)
            rw [e] at e1
            cases e1
            exact e2
  cases hk : K.lookup a with
  | some o =>
    have e := KX a o hk
    rw [ha] at e
    cases e
    refine core (fun _ => none) (fun _ => .inl rfl) (.inr ⟨_, vs.toArray, _, hk, rfl, rfl, rfl, ?_, by simpa using rv⟩) ?_ (fun b z => absurd rfl z) fun z => absurd rfl z
    · rw [List.size_toArray, lenV]
      exact hl
    · intro b u z
      cases (show (none : Option HO) = some u from z)
  | none =>
    refine core (fun b => if b = a then some (.frz { cls := .type "list", data := .seq vs.toArray } (.lst (ns.map V.int))) else none) (fun b => ?_)
      (.inl (.inr ⟨{ cls := .type "list", data := .seq vs.toArray }, if_pos rfl⟩)) (fun b u z => ?_) (fun b z => ?_) fun _ => hk
    · by_cases hb : b = a
      · exact .inr ⟨_, _, if_pos hb⟩
      · exact .inl (if_neg hb)
    · by_cases hb : b = a
      · cases ((if_pos hb).symm.trans z)
        subst hb
        exact ⟨ha, by rw [List.length_map]; exact hl, vs, _, rv, ha⟩
      · cases ((if_neg hb).symm.trans z)
    · by_cases hb : b = a
      · exact hb
      · exact absurd (if_neg hb) z
theorem room11 : Room 11 callerA := ⟨rfl, by decide, by decide⟩
theorem walk_29 {l : PySem.W.OpenLaw} {q : Program} {loose : List Str} {XP : (Str → Option Value) → Heap → Prop} {YP : World → Heap → Prop} {d : DefRec}
    (hn : l.most = some 63) (hdf : d.params.defaults = []) (hnm : d.name = "law")
    (hY : ∀ (w : World) (h : Heap), YP w h → (Wq.HK w.params).In h) :
    PySem.W.WalkO q loose XP YP l.row.toRowW d [] (fun f vs => PySem.call f vs) := by
  refine Att.attach_call hn hdf fun w s₀ s₁ mg mb fa o pm cd doc a vs ns G Y ho hd hcd hmg hobj hints hlen hg => ?_
  have KX := hY w _ Y
  rw [hnm] at hmg
  exact call_g2 KX G.T.g G.T.b G.T.builtins G.T.nolimit hg hobj hints (Nat.le_trans hlen (by decide)) room11
    (fun base => law_all (P := l.prog) (w := w) (base := base) (Wq.ds_of KX G.T.g) (Wq.bl_of KX G.T.g) (Wq.sh_of KX G.T.g) (Wq.list_of KX G.T.g) (Wq.any_of KX G.T.g) (Wq.isq_of KX G.T.g) (Wq.sc_of KX G.T.g)) hmg fun H hS => ⟨a, ns, rfl, hS, hlen, fun _ => rfl⟩
end Xq
open PySem PySem.W PyProof.Rows in
theorem PySem.Challenge.cw_likepanes_k29_whole_numbers_of_both_root_holds : PySem.Challenge.rw_likepanes_k29_whole_numbers_of_both_root.Holds := by
  w_on; o_law
  refine Hd.hd (by assumption) ?hw ?hc
  case hw =>
    show (OpenRow.toRowW (OpenLaw.row PySem.Challenge.rw_likepanes_k29_whole_numbers_of_both_root)).promised
    w_witness2
  case hc => exact Xq.walk_29 (l := PySem.Challenge.rw_likepanes_k29_whole_numbers_of_both_root) rfl (by kernel_rfl) (by kernel_rfl) (fun w h Y => PySem.W.kIn_of Y)
#print axioms PySem.Challenge.cw_likepanes_k29_whole_numbers_of_both_root_holds
