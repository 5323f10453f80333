import PyProof.Rows.All
import Wide.All
import OpenK.AllK
import Wide.FinOn
import HandS.AnyAll
import HandS.Base
import HandS.Call
import HandS.ClsMeth
import HandS.Codes
import HandS.Deep
import HandS.EndTab
import HandS.FStr
import HandS.Flow
import HandS.ForMost
import HandS.Gcd
import HandS.HeadHook3
import HandS.IsInst
import HandS.Lambda
import HandS.List
import HandS.NoneIn
import HandS.OwnEq
import HandS.Property
import HandS.Rev
import HandS.Star
import HandS.StrMore
import HandS.Style
import HandS.TupAny
import HandS.Walk
import HandS.Wide
import HandS.WideBits
import HandS.Words
import HandS.Zip
import KE.HD3
import KE.KMathG
import PyProof.Draws
import PyProof.ReprRoads
import PySem.Challenge.RW_likepanes_k12_known_shapes
set_option Elab.async false
set_option linter.all false
set_option maxRecDepth 100000
set_option maxHeartbeats 0
set_option exponentiation.threshold 20000
/-! The top in segments, each the kernel's run from a written state to the next one. -/
namespace Hs
open PySem PySem.W PySem.Calls PyProof.Rows
/-! the library's twins by their names -/
noncomputable def execsQ : List Stmt → Env → Sem Flow := PySem.W.Fast.tw12563942051412417395
theorem execsQ_eq : @PySem.execs = execsQ := PySem.W.Fast.te12563942051412417395
noncomputable def blockQ : List Stmt → Env → Sem Unit := PySem.W.Fast.tw1066825118222455980
theorem blockQ_eq : @blockStart = blockQ := PySem.W.Fast.te1066825118222455980
noncomputable def okQ : Nat → Option Value → Thread → Bool := PySem.W.Fast.tw6613529449190102663
theorem okQ_eq : @stepOk = okQ := PySem.W.Fast.te6613529449190102663
noncomputable abbrev stQ (p : Program) (w : World) : SharedT → Thread → Option (SharedT × Thread) := HeadRun.stepQ (HeadRun.denQ HeadRun.tabQ) p w
theorem stQ_eq (p : Program) (w : World) : stepT (denote treeTable) p w = stQ p w := by rw [HeadRun.stepQ_eq, HeadRun.denQ_eq, HeadRun.tabQ_eq]
section
variable (st : SharedT → Thread → Option (SharedT × Thread)) (ok : Thread → Bool)
/-- a segment of the top, to its end -/
noncomputable def segF : Nat → SharedT → Thread → Option (Flow × SharedT × Code × Pos)
  | 0, _, _ => none
  | m + 1, s, t => match endAt 1 t with
    | some f => some (f, s, t.code, t.pos)
    | none => match ok t with
      | false => none
      | true => match st s t with
        | some (s', t') => HeadRun.frS s' fun s' => segF m s' t'
        | none => none
/-- so many steps of the top -/
noncomputable def goK : Nat → SharedT → Thread → Option (SharedT × Thread)
  | 0, s, t => some (s, t)
  | m + 1, s, t => match through t with
    | true => none
    | false => match ok t with
      | false => none
      | true => match st s t with
        | some (s', t') => HeadRun.frS s' fun s' => goK m s' t'
        | none => none
end
section
variable {tb : String → Option Builtin} {p : Program} {w : World} {n₀ : Nat} {ann : Option Value}
theorem segF_ok : ∀ {m : Nat} {s s' : SharedT} {t : Thread} {f : Flow} {c : Code} {q : Pos}, segF (stepT (denote tb) p w) (stepOk n₀ ann) m s t = some (f, s', c, q) → segRun tb p w n₀ ann 1 m s.abs t = some (f, s'.abs, c, q)
  | 0, _, _, _, _, _, _, h => by cases h
  | m + 1, s, s', t, f, c, q, h => by
    have h1 : (match endAt 1 t with
      | some f => some (f, s, t.code, t.pos)
      | none => match stepOk n₀ ann t with
        | false => none
        | true => match stepT (denote tb) p w s t with
          | some (s', t') => HeadRun.frS s' fun s' => segF (stepT (denote tb) p w) (stepOk n₀ ann) m s' t'
          | none => none) = some (f, s', c, q) := h
    unfold segRun
    cases he : endAt 1 t with
    | some x => rw [he] at h1; cases h1; rfl
    | none =>
      rw [he] at h1
      cases hk : stepOk n₀ ann t with
      | false => rw [hk] at h1; cases h1
      | true =>
        rw [hk] at h1
        cases hs : stepT (denote tb) p w s t with
        | none => rw [hs] at h1; cases h1
        | some r =>
          obtain ⟨s₂, t₂⟩ := r
          rw [hs] at h1
          have h2 : (HeadRun.frS s₂ fun s' => segF (stepT (denote tb) p w) (stepOk n₀ ann) m s' t₂) = some (f, s', c, q) := h1
          rw [HeadRun.frS_eq] at h2
          rw [stepT_spec hs]
          exact segF_ok h2
theorem goK_ok : ∀ {m : Nat} {s s' : SharedT} {t t' : Thread}, goK (stepT (denote tb) p w) (stepOk n₀ ann) m s t = some (s', t') → topGo tb p w n₀ ann m s.abs t = some (s'.abs, t')
  | 0, _, _, _, _, h => by
    cases h
    rfl
  | m + 1, s, s', t, t', h => by
    have h1 : (match through t with
      | true => none
      | false => match stepOk n₀ ann t with
        | false => none
        | true => match stepT (denote tb) p w s t with
          | some (s', t') => HeadRun.frS s' fun s' => goK (stepT (denote tb) p w) (stepOk n₀ ann) m s' t'
          | none => none) = some (s', t') := h
    unfold topGo
    cases he : through t with
    | true => rw [he] at h1; cases h1
    | false =>
      rw [he] at h1
      cases hk : stepOk n₀ ann t with
      | false => rw [hk] at h1; cases h1
      | true =>
        rw [hk] at h1
        cases hs : stepT (denote tb) p w s t with
        | none => rw [hs] at h1; cases h1
        | some r =>
          obtain ⟨s₂, t₂⟩ := r
          rw [hs] at h1
          have h2 : (HeadRun.frS s₂ fun s' => goK (stepT (denote tb) p w) (stepOk n₀ ann) m s' t₂) = some (s', t') := h1
          rw [HeadRun.frS_eq] at h2
          show (match step (denote tb) p w s.abs t with
            | .go s' t' => topGo tb p w n₀ ann m s' t'
            | .halt _ _ => none) = some (s'.abs, t')
          rw [stepT_spec hs]
          exact goK_ok h2
end
/-! the run's parts, by the twins -/
section
variable {p : Program} {w : World} {n₀ : Nat} {ann : Option Value} {env : Env} {q : Pos} {N : Nat} {r : Shared}
/-- ahead of the text's body -/
theorem pre_ok {m : Nat} {s s' : SharedT} {b : List Stmt} {pos : Pos} (h : goK (stQ p w) (okQ n₀ ann) m s (topStub p) = some (s', ⟨HeadRun.denQ HeadRun.tabQ (.body b env), .body b env, pos, [topFrame q]⟩))
    (k : topRun treeTable p w n₀ ann N s'.abs ⟨denote treeTable (.body b env), .body b env, pos, [topFrame q]⟩ = some r) : topRun treeTable p w n₀ ann (m + N) s.abs (topStub p) = some r := by
  rw [← stQ_eq, ← okQ_eq, ← HeadRun.denQ_eq, ← HeadRun.tabQ_eq] at h
  exact go_top (goK_ok h) k
/-- the body's own start -/
theorem block_ok {m : Nat} {s s' : SharedT} {b : List Stmt} {c : Code} {pos p' : Pos} (h : segF (stQ p w) (okQ n₀ ann) m s ⟨(blockQ b env).wrap (fun _ => doneF .next) deadEnd id id, c, pos, [topFrame q]⟩ = some (.next, s', c, p'))
    (k : topRun treeTable p w n₀ ann N s'.abs (restOf b env c p' [topFrame q]) = some r) : topRun treeTable p w n₀ ann (m + N) s.abs ⟨denote treeTable (.body b env), c, pos, [topFrame q]⟩ = some r := by
  rw [← stQ_eq, ← okQ_eq, ← blockQ_eq] at h
  exact piece_block (segF_ok h) k
/-- some of its statements -/
theorem some_ok {m : Nat} {s s' : SharedT} {l rest : List Stmt} {c : Code} {pos p' : Pos} (h : segF (stQ p w) (okQ n₀ ann) m s ⟨(execsQ l env).wrap doneF deadEnd id id, c, pos, [topFrame q]⟩ = some (.next, s', c, p'))
    (k : topRun treeTable p w n₀ ann N s'.abs (restOf rest env c p' [topFrame q]) = some r) : topRun treeTable p w n₀ ann (m + N) s.abs (restOf (l ++ rest) env c pos [topFrame q]) = some r := by
  rw [← stQ_eq, ← okQ_eq, ← execsQ_eq] at h
  exact piece_app (segF_ok h) k
/-- behind the last -/
theorem fin_ok {m : Nat} {s s' : SharedT} {c : Code} {pos : Pos} (h : HeadRun.goF (stQ p w) n₀ ann m s ⟨doneF .next, c, pos, [topFrame q]⟩ = some s') : topRun treeTable p w n₀ ann m s.abs (restOf [] env c pos [topFrame q]) = some s'.abs := by
  rw [← stQ_eq] at h
  exact HeadRun.goF_ok h
end
/-- the boot, the imports, the fences -/
theorem open_ok {M : Nat} {p : Program} {w : World} {A X : SharedT} {YA Y : Shared} (h1 : HeadRun.impF (stQ (opening p) w) M (HeadRun.startT (opening p)) (start (opening p)).2 = some A) (hA : A.abs = YA) (h2 : HeadRun.fenceQ p YA = some Y)
    (hX : X.abs = Y) : fencedOpening treeTable p w M = some Y ∧ Y.heap.objs.size = X.n := by
  rw [← stQ_eq] at h1
  have a1 := HeadRun.impF_ok h1
  rw [HeadRun.startT_eq, hA] at a1
  refine ⟨?_, ?_⟩
  · unfold fencedOpening
    rw [a1]
    show fenceModules? p YA = some Y
    rw [HeadRun.fenceQ_eq]
    exact h2
  · rw [← hX]
    exact absHeap_size _ _ _
theorem imp_mono {st : SharedT → Thread → Option (SharedT × Thread)} (k : Nat) : ∀ (m : Nat) (s : SharedT) (t : Thread) (r : SharedT), HeadRun.impF st m s t = some r → HeadRun.impF st (m + k) s t = some r
  | 0, _, _, _, h => by cases h
  | m + 1, s, t, r, h => by
    have h1 : (match t.atExitBegin with
      | some l => (match l with
        | [] => some s
        | _ :: _ => none)
      | none => match st s t with
        | some (s', t') => HeadRun.frS s' fun s' => HeadRun.impF st m s' t'
        | none => none) = some r := h
    rw [show m + 1 + k = m + k + 1 by omega]
    show (match t.atExitBegin with
      | some l => (match l with
        | [] => some s
        | _ :: _ => none)
      | none => match st s t with
        | some (s', t') => HeadRun.frS s' fun s' => HeadRun.impF st (m + k) s' t'
        | none => none) = some r
    cases ht : t.atExitBegin with
    | some l =>
      rw [ht] at h1
      exact h1
    | none =>
      rw [ht] at h1
      cases hs : st s t with
      | none =>
        rw [hs] at h1
        cases h1
      | some x =>
        obtain ⟨s2, t2⟩ := x
        rw [hs] at h1
        have h2 : (HeadRun.frS s2 fun s' => HeadRun.impF st m s' t2) = some r := h1
        show (HeadRun.frS s2 fun s' => HeadRun.impF st (m + k) s' t2) = some r
        rw [HeadRun.frS_eq] at h2 ⊢
        exact imp_mono k m _ _ _ h2
lay_quick PySem.W.openGood PySem.W.staticsOk PySem.W.namesBound PySem.W.laidKept
noncomputable def staticsQ : List PySem.Str → Heap → Heap → Bool := PySem.W.Fast.tw13471830651028734593
theorem staticsQ_eq : @staticsOk = staticsQ := PySem.W.Fast.te13471830651028734593
noncomputable def namesQ : Program → Heap → Bool := PySem.W.Fast.tw4683006035507612052
theorem namesQ_eq : @namesBound = namesQ := PySem.W.Fast.te4683006035507612052
noncomputable def laidQ : Heap → Heap → Bool := PySem.W.Fast.tw16898566250750103049
theorem laidQ_eq : @laidKept = laidQ := PySem.W.Fast.te16898566250750103049
theorem left_cut {p q : Program} {loose : List PySem.Str} {Xt : Shared → Bool} {α : Type} {Yf : Shared → α} {Ya : World → α} {N : Nat}
    (run : ∀ w : World, ∃ (x : SharedT) (s0 s1 : Shared) (ann : Option Value), (fencedOpening treeTable p w N = some s0 ∧ s0.heap.objs.size = x.n) ∧ x.abs = s0 ∧ (s0.heap.isNs mainGlobals && s0.gens.size == 0) = true ∧ s0.heap.nsMap mainGlobals "__annotations__" = ann ∧ topRun treeTable p w x.n ann N x.abs (topStub p) = some s1 ∧
      staticsQ (importedModules p.main.body) s0.heap s1.heap = true ∧ namesQ p s1.heap = true ∧ gensDone s1 = true ∧ laidQ s0.heap s1.heap = true ∧ openSeen q loose (importedModules p.main.body) Xt true s1 = openGood q loose ∧ Yf s1 = Ya w) :
    LeftO p q loose Xt Yf Ya N true := fun w => by
  obtain ⟨x, s0, s1, ann, ⟨a, en⟩, hx, b, ha, h1, k1, k2, k3, k4, l2, l3⟩ := run w
  rw [← staticsQ_eq] at k1
  rw [← namesQ_eq] at k2
  rw [← laidQ_eq] at k4
  rw [hx] at h1
  have l1' : (staticsOk (importedModules p.main.body) s0.heap s1.heap && namesBound p s1.heap && gensDone s1 && laidKept s0.heap s1.heap) = true := by
    rw [k1, k2, k3, k4]
    rfl
  have t : topFrom treeTable p w N s0 = some s1 := by
    unfold topFrom
    rw [b]
    show (topRun treeTable p w s0.heap.objs.size (s0.heap.nsMap mainGlobals "__annotations__") N s0 (topStub p)).bind _ = _
    rw [en, ha, h1]
    show (match staticsOk (importedModules p.main.body) s0.heap s1.heap && namesBound p s1.heap && gensDone s1 && laidKept s0.heap s1.heap with | true => some s1 | false => none) = _
    rw [l1']
  unfold openEnds
  rw [a]
  show (topFrom treeTable p w N s0).map _ = _
  rw [t]
  exact congrArg some (Prod.ext l2 l3)
theorem seen_ok {q : Program} {loose mods : List PySem.Str} {Xt : Shared → Bool} {s : Shared} (h1 : seen ((recsOf q).map (·.name)) (ownsOf q) [] { s with gens := #[] } = expectedOf q) (h2 : s.heap.bltView = bltViewBooted)
    (h3 : s.heap.keysOk (looseW q loose) ((recsOf q).map (·.name)) ((litsOf q).map (·.1)) ((clssOf q (looseW q loose)).map (·.name)) = true) (h4 : s.heap.accountedOkI mods = true) (h5 : tablesOk q s.heap = true) (h6 : Xt s = true) (h7 : tabsOk q s = true)
    (h8 : pinSeenD q (drecsOf q) s = pinGoodD (drecsOf q)) (h9 : plainSeenE q (looseW q loose) s = plainGoodE q (looseW q loose)) (h10 : plainSeenD q loose s = plainGoodD q loose) (h11 : wideSeen q s = wideGood q) (h12 : clsSeenW q loose s = clsGoodW q loose)
    (h13 : (s.heap.isNs mainGlobals && s.heap.isNs builtinsNs) = true) (h14 : s.gens = #[]) : openSeen q loose mods Xt true s = openGood q loose := by
  obtain ⟨h13a, h13b⟩ := Bool.and_eq_true_iff.mp h13
  unfold openSeen openGood
  rw [h1, h2, h3, h4, h5, h6, h7, h8, h9, h10, h11, h12, h13a, h13b, h14]
  rfl
end Hs

lay_quick PySem.Challenge.pw_likepanes_k12_known_shapes
/-! The head: the top in segments, each the kernel's run from a written state to the next one. -/
namespace Hd
open PySem PySem.W PySem.Calls PyProof.Rows Hs
noncomputable abbrev R : OpenRow := OpenLaw.row PySem.Challenge.rw_likepanes_k12_known_shapes
noncomputable abbrev T : Program := PySem.W.Fast.tw11805407084254471670
theorem pT : R.prog = T := PySem.W.Fast.te11805407084254471670
noncomputable def hT (i : Nat) : Stmt := T.main.body.getD i (.Pass ⟨0, 0, 0, 0⟩)
noncomputable abbrev s (x : String) : PySem.Str := PySem.Str.ofString x
noncomputable abbrev u (l : List Nat) : PySem.Str := ⟨⟨l⟩⟩
noncomputable def k (P : Params) (x : String) (t : Nat) (v : Value) : DictEntry := ⟨PyData.keyHash P (s x), .str (s x) t, v⟩
noncomputable def ku (P : Params) (x : PySem.Str) (t : Nat) (v : Value) : DictEntry := ⟨PyData.keyHash P x, .str x t, v⟩
noncomputable def fn (st : Stmt) (name qual : PySem.Str) (g : Addr) (cl : List (PySem.Str × Addr)) (d kd doc pm : Value) (an : Option Addr) (co ct : Value) (b : Addr) : FuncData := ⟨name, qual, L2.defArgs st, .stmts (L2.defBody st), L2.defScope st, g, cl, d, kd, doc, pm, an, co, ct, b⟩
noncomputable abbrev n (o : Obj) (a b : BT) : BT := .node o a b
noncomputable abbrev z : BT := .nil
/-! ### the states: the objects, the trees -/
noncomputable def o0 (P : Params) : Obj := ⟨(.type "dict"), none, (.dict #[k P "__name__" 1 (.str (s "builtins") 160), k P "__doc__" 2 (.builtin "builtins.__doc__:str#opaque"), k P "__package__" 3 (.builtin "builtins.__package__:str#opaque"), k P "__loader__" 4 (.builtin "builtins.__loader__:shared#opaque"), k P "__spec__" 5 (.builtin "builtins.__spec__#opaque"), k P "__build_class__" 6 (.builtin "__build_class__"), k P "__import__" 7 (.builtin "__import__"), k P "abs" 8 (.builtin "abs"), k P "all" 9 (.builtin "all"), k P "any" 10 (.builtin "any"), k P "ascii" 11 (.builtin "ascii"), k P "bin" 12 (.builtin "bin"), k P "breakpoint" 13 (.builtin "breakpoint"), k P "callable" 14 (.builtin "callable"), k P "chr" 15 (.builtin "chr"), k P "compile" 16 (.builtin "compile"), k P "delattr" 17 (.builtin "delattr"), k P "dir" 18 (.builtin "dir"), k P "divmod" 19 (.builtin "divmod"), k P "eval" 20 (.builtin "eval"), k P "exec" 21 (.builtin "exec"), k P "format" 22 (.builtin "format"), k P "getattr" 23 (.builtin "getattr"), k P "globals" 24 (.builtin "globals"), k P "hasattr" 25 (.builtin "hasattr"), k P "hash" 26 (.builtin "hash"), k P "hex" 27 (.builtin "hex"), k P "id" 28 (.builtin "id"), k P "input" 29 (.builtin "input"), k P "isinstance" 30 (.builtin "isinstance"), k P "issubclass" 31 (.builtin "issubclass"), k P "iter" 32 (.builtin "iter"), k P "aiter" 33 (.builtin "aiter"), k P "len" 34 (.builtin "len"), k P "locals" 35 (.builtin "locals"), k P "max" 36 (.builtin "max"), k P "min" 37 (.builtin "min"), k P "next" 38 (.builtin "next"), k P "anext" 39 (.builtin "anext"), k P "oct" 40 (.builtin "oct"), k P "ord" 41 (.builtin "ord"), k P "pow" 42 (.builtin "pow"), k P "print" 43 (.builtin "print"), k P "repr" 44 (.builtin "repr"), k P "round" 45 (.builtin "round"), k P "setattr" 46 (.builtin "setattr"), k P "sorted" 47 (.builtin "sorted"), k P "sum" 48 (.builtin "sum"), k P "vars" 49 (.builtin "vars"), k P "None" 50 .none, k P "Ellipsis" 51 .ellipsis, k P "NotImplemented" 52 .notImplemented, k P "False" 53 (.bool false), k P "True" 54 (.bool true), k P "bool" 55 (.type "bool"), k P "memoryview" 56 (.type "memoryview"), k P "bytearray" 57 (.type "bytearray"), k P "bytes" 58 (.type "bytes"), k P "classmethod" 59 (.type "classmethod"), k P "complex" 60 (.type "complex"), k P "dict" 61 (.type "dict"), k P "enumerate" 62 (.type "enumerate"), k P "filter" 63 (.type "filter"), k P "float" 64 (.type "float"), k P "frozenset" 65 (.type "frozenset"), k P "property" 66 (.type "property"), k P "int" 67 (.type "int"), k P "list" 68 (.type "list"), k P "map" 69 (.type "map"), k P "object" 70 (.type "object"), k P "range" 71 (.type "range"), k P "reversed" 72 (.type "reversed"), k P "set" 73 (.type "set"), k P "slice" 74 (.type "slice"), k P "staticmethod" 75 (.type "staticmethod"), k P "str" 76 (.type "str"), k P "super" 77 (.type "super"), k P "tuple" 78 (.type "tuple"), k P "type" 79 (.type "type"), k P "zip" 80 (.type "zip"), k P "__debug__" 81 (.bool true), k P "BaseException" 82 (.type "BaseException"), k P "BaseExceptionGroup" 83 (.type "BaseExceptionGroup"), k P "Exception" 84 (.type "Exception"), k P "GeneratorExit" 85 (.type "GeneratorExit"), k P "KeyboardInterrupt" 86 (.type "KeyboardInterrupt"), k P "SystemExit" 87 (.type "SystemExit"), k P "ArithmeticError" 88 (.type "ArithmeticError"), k P "AssertionError" 89 (.type "AssertionError"), k P "AttributeError" 90 (.type "AttributeError"), k P "BufferError" 91 (.type "BufferError"), k P "EOFError" 92 (.type "EOFError"), k P "ImportError" 93 (.type "ImportError"), k P "LookupError" 94 (.type "LookupError"), k P "MemoryError" 95 (.type "MemoryError"), k P "NameError" 96 (.type "NameError"), k P "OSError" 97 (.type "OSError"), k P "ReferenceError" 98 (.type "ReferenceError"), k P "RuntimeError" 99 (.type "RuntimeError"), k P "StopAsyncIteration" 100 (.type "StopAsyncIteration"), k P "StopIteration" 101 (.type "StopIteration"), k P "SyntaxError" 102 (.type "SyntaxError"), k P "SystemError" 103 (.type "SystemError"), k P "TypeError" 104 (.type "TypeError"), k P "ValueError" 105 (.type "ValueError"), k P "Warning" 106 (.type "Warning"), k P "FloatingPointError" 107 (.type "FloatingPointError"), k P "OverflowError" 108 (.type "OverflowError"), k P "ZeroDivisionError" 109 (.type "ZeroDivisionError"), k P "BytesWarning" 110 (.type "BytesWarning"), k P "DeprecationWarning" 111 (.type "DeprecationWarning"), k P "EncodingWarning" 112 (.type "EncodingWarning"), k P "FutureWarning" 113 (.type "FutureWarning"), k P "ImportWarning" 114 (.type "ImportWarning"), k P "PendingDeprecationWarning" 115 (.type "PendingDeprecationWarning"), k P "ResourceWarning" 116 (.type "ResourceWarning"), k P "RuntimeWarning" 117 (.type "RuntimeWarning"), k P "SyntaxWarning" 118 (.type "SyntaxWarning"), k P "UnicodeWarning" 119 (.type "UnicodeWarning"), k P "UserWarning" 120 (.type "UserWarning"), k P "BlockingIOError" 121 (.type "BlockingIOError"), k P "ChildProcessError" 122 (.type "ChildProcessError"), k P "ConnectionError" 123 (.type "ConnectionError"), k P "FileExistsError" 124 (.type "FileExistsError"), k P "FileNotFoundError" 125 (.type "FileNotFoundError"), k P "InterruptedError" 126 (.type "InterruptedError"), k P "IsADirectoryError" 127 (.type "IsADirectoryError"), k P "NotADirectoryError" 128 (.type "NotADirectoryError"), k P "PermissionError" 129 (.type "PermissionError"), k P "ProcessLookupError" 130 (.type "ProcessLookupError"), k P "TimeoutError" 131 (.type "TimeoutError"), k P "IndentationError" 132 (.type "IndentationError"), k P "_IncompleteInputError" 133 (.type "_IncompleteInputError"), k P "IndexError" 134 (.type "IndexError"), k P "KeyError" 135 (.type "KeyError"), k P "ModuleNotFoundError" 136 (.type "ModuleNotFoundError"), k P "NotImplementedError" 137 (.type "NotImplementedError"), k P "PythonFinalizationError" 138 (.type "PythonFinalizationError"), k P "RecursionError" 139 (.type "RecursionError"), k P "UnboundLocalError" 140 (.type "UnboundLocalError"), k P "UnicodeError" 141 (.type "UnicodeError"), k P "BrokenPipeError" 142 (.type "BrokenPipeError"), k P "ConnectionAbortedError" 143 (.type "ConnectionAbortedError"), k P "ConnectionRefusedError" 144 (.type "ConnectionRefusedError"), k P "ConnectionResetError" 145 (.type "ConnectionResetError"), k P "TabError" 146 (.type "TabError"), k P "UnicodeDecodeError" 147 (.type "UnicodeDecodeError"), k P "UnicodeEncodeError" 148 (.type "UnicodeEncodeError"), k P "UnicodeTranslateError" 149 (.type "UnicodeTranslateError"), k P "ExceptionGroup" 150 (.type "ExceptionGroup"), k P "EnvironmentError" 151 (.type "OSError"), k P "IOError" 152 (.type "OSError"), k P "open" 153 (.builtin "open"), k P "quit" 154 (.builtin "builtins.quit#opaque"), k P "exit" 155 (.builtin "builtins.exit#opaque"), k P "copyright" 156 (.builtin "builtins.copyright#opaque"), k P "credits" 157 (.builtin "builtins.credits#opaque"), k P "license" 158 (.builtin "builtins.license#opaque"), k P "help" 159 (.builtin "builtins.help#opaque")] 159), #[]⟩
noncomputable def o1 (P : Params) : Obj := ⟨(.type "dict"), none, (.dict #[k P "builtins" 162 (.ref 4), k P "__main__" 163 (.ref 5), k P "math" 285 (.ref 13)] 3), #[]⟩
noncomputable def o2 (P : Params) : Obj := ⟨.none, none, (.dict #[ku P (u [105, 109, 112, 111, 114, 116, 46, 108, 111, 97, 100, 101, 100, 46, 109, 97, 116, 104]) 186 (.bool true), k P "class._frozen_importlib_external._LoaderBasics" 191 (.ref 16), ku P (u [119, 97, 116, 99, 104, 101, 100, 46, 105, 109, 112, 111, 114, 116]) 207 (.ref 20), k P "class._frozen_importlib_external.FileLoader" 208 (.ref 22), k P "class._frozen_importlib_external.ExtensionFileLoader" 229 (.ref 27), k P "class._frozen_importlib.ModuleSpec" 257 (.ref 33), k P "sys.modules.booked-epoch" 286 (.int (3) 0), ku P (u [105, 109, 112, 111, 114, 116, 46, 108, 97, 116, 101, 114, 45, 108, 97, 105, 100, 46, 109, 97, 116, 104]) 362 (.bool true), k P "watched.library" 364 (.ref 38), k P "watched.library-objects" 0 (.str (u [13]) 0)] 10), #[]⟩
noncomputable def o3 (P : Params) : Obj := ⟨(.type "dict"), none, (.dict #[k P "__name__" 165 (.str (s "__main__") 164), k P "__doc__" 166 .none, k P "__package__" 167 .none, k P "__loader__" 168 (.builtin "__main__.__loader__#opaque"), k P "__spec__" 169 .none, k P "__annotations__" 170 (.ref 6), k P "__builtins__" 171 (.ref 4), k P "__file__" 173 (.str (s "/claim/cut.py") 172), k P "__cached__" 174 .none, k P "gcd" 370 (.builtin "math.gcd"), k P "isqrt" 373 (.builtin "math.isqrt")] 11), #[]⟩
noncomputable def o4 (P : Params) : Obj := ⟨(.type "module"), (some 0), .plain, #[]⟩
noncomputable def o5 (P : Params) : Obj := ⟨(.type "module"), (some 3), .plain, #[]⟩
noncomputable def o6 (P : Params) : Obj := ⟨(.type "dict"), none, (.dict #[] 0), #[]⟩
noncomputable def o7 (P : Params) : Obj := ⟨(.type "tuple"), none, (.seq #[] 0), #[]⟩
noncomputable def o8 (P : Params) : Obj := ⟨.none, none, (.fields #[]), #[]⟩
noncomputable def o9 (P : Params) : Obj := ⟨(.type "code"), none, (.fields #[(.str (s "<module>") 176), (.str (s "<module>") 177), (.str (s "/claim/cut.py") 178), (.int (1) 0), (.int (0) 0), (.int (0) 0), (.int (0) 0), (.int (0) 0), (.ref 7), (.bool false), (.int (175) 0), (.ref 8), .none, .none, .none, .none, (.int (179) 0), (.int (1) 0), (.str (s "/claim/cut.py") 180)]), #[]⟩
noncomputable def o10 (P : Params) : Obj := ⟨(.type "frame"), none, .plain, #[(some (.ref 9)), (some (.ref 3)), (some (.ref 3)), none, (some (.str (s "__main__") 164)), none, (some (.ref 0))]⟩
noncomputable def o11 (P : Params) : Obj := ⟨(.type "tuple"), none, (.seq #[(.str (s "gcd") 182), (.str (s "isqrt") 183)] 0), #[]⟩
noncomputable def o12 (P : Params) : Obj := ⟨(.type "dict"), none, (.dict #[k P "__name__" 288 (.str (s "math") 287), k P "__doc__" 289 (.builtin "math.__doc__:str#opaque"), k P "__package__" 291 (.str (s "") 290), k P "__loader__" 292 (.ref 29), k P "__spec__" 293 (.ref 37), k P "acos" 294 (.builtin "math.acos"), k P "acosh" 295 (.builtin "math.acosh"), k P "asin" 296 (.builtin "math.asin"), k P "asinh" 297 (.builtin "math.asinh"), k P "atan" 298 (.builtin "math.atan"), k P "atan2" 299 (.builtin "math.atan2"), k P "atanh" 300 (.builtin "math.atanh"), k P "cbrt" 301 (.builtin "math.cbrt"), k P "ceil" 302 (.builtin "math.ceil"), k P "copysign" 303 (.builtin "math.copysign"), k P "cos" 304 (.builtin "math.cos"), k P "cosh" 305 (.builtin "math.cosh"), k P "degrees" 306 (.builtin "math.degrees"), k P "dist" 307 (.builtin "math.dist"), k P "erf" 308 (.builtin "math.erf"), k P "erfc" 309 (.builtin "math.erfc"), k P "exp" 310 (.builtin "math.exp"), k P "exp2" 311 (.builtin "math.exp2"), k P "expm1" 312 (.builtin "math.expm1"), k P "fabs" 313 (.builtin "math.fabs"), k P "factorial" 314 (.builtin "math.factorial"), k P "floor" 315 (.builtin "math.floor"), k P "fma" 316 (.builtin "math.fma"), k P "fmod" 317 (.builtin "math.fmod"), k P "frexp" 318 (.builtin "math.frexp"), k P "fsum" 319 (.builtin "math.fsum"), k P "gamma" 320 (.builtin "math.gamma"), k P "gcd" 321 (.builtin "math.gcd"), k P "hypot" 322 (.builtin "math.hypot"), k P "isclose" 323 (.builtin "math.isclose"), k P "isfinite" 324 (.builtin "math.isfinite"), k P "isinf" 325 (.builtin "math.isinf"), k P "isnan" 326 (.builtin "math.isnan"), k P "isqrt" 327 (.builtin "math.isqrt"), k P "lcm" 328 (.builtin "math.lcm"), k P "ldexp" 329 (.builtin "math.ldexp"), k P "lgamma" 330 (.builtin "math.lgamma"), k P "log" 331 (.builtin "math.log"), k P "log1p" 332 (.builtin "math.log1p"), k P "log10" 333 (.builtin "math.log10"), k P "log2" 334 (.builtin "math.log2"), k P "modf" 335 (.builtin "math.modf"), k P "pow" 336 (.builtin "math.pow"), k P "radians" 337 (.builtin "math.radians"), k P "remainder" 338 (.builtin "math.remainder"), k P "sin" 339 (.builtin "math.sin"), k P "sinh" 340 (.builtin "math.sinh"), k P "sqrt" 341 (.builtin "math.sqrt"), k P "tan" 342 (.builtin "math.tan"), k P "tanh" 343 (.builtin "math.tanh"), k P "sumprod" 344 (.builtin "math.sumprod"), k P "trunc" 345 (.builtin "math.trunc"), k P "prod" 346 (.builtin "math.prod"), k P "perm" 347 (.builtin "math.perm"), k P "comb" 348 (.builtin "math.comb"), k P "nextafter" 349 (.builtin "math.nextafter"), k P "ulp" 350 (.builtin "math.ulp"), k P "__file__" 351 (.str (u [47, 110, 105, 120, 47, 115, 116, 111, 114, 101, 47, 119, 106, 49, 102, 53, 54, 113, 107, 121, 52, 112, 109, 106, 99, 55, 108, 48, 114, 54, 98, 54, 108, 55, 119, 104, 110, 110, 119, 55, 104, 112, 54, 45, 112, 121, 116, 104, 111, 110, 51, 45, 51, 46, 49, 51, 46, 49, 53, 47, 108, 105, 98, 47, 112, 121, 116, 104, 111, 110, 51, 46, 49, 51, 47, 108, 105, 98, 45, 100, 121, 110, 108, 111, 97, 100, 47, 109, 97, 116, 104, 46, 99, 112, 121, 116, 104, 111, 110, 45, 51, 49, 51, 45, 120, 56, 54, 95, 54, 52, 45, 108, 105, 110, 117, 120, 45, 103, 110, 117, 46, 115, 111]) 187), k P "pi" 353 (.float 4614256656552045848 352), k P "e" 355 (.float 4613303445314885481 354), k P "tau" 357 (.float 4618760256179416344 356), k P "inf" 359 (.float 9218868437227405312 358), k P "nan" 361 (.float 9221120237041090560 360)] 68), #[]⟩
noncomputable def o13 (P : Params) : Obj := ⟨(.type "module"), (some 12), .plain, #[]⟩
noncomputable def o14 (P : Params) : Obj := ⟨(.type "dict"), none, (.dict #[k P "name" 189 (.str (s "math") 188), k P "path" 190 (.str (u [47, 110, 105, 120, 47, 115, 116, 111, 114, 101, 47, 119, 106, 49, 102, 53, 54, 113, 107, 121, 52, 112, 109, 106, 99, 55, 108, 48, 114, 54, 98, 54, 108, 55, 119, 104, 110, 110, 119, 55, 104, 112, 54, 45, 112, 121, 116, 104, 111, 110, 51, 45, 51, 46, 49, 51, 46, 49, 53, 47, 108, 105, 98, 47, 112, 121, 116, 104, 111, 110, 51, 46, 49, 51, 47, 108, 105, 98, 45, 100, 121, 110, 108, 111, 97, 100, 47, 109, 97, 116, 104, 46, 99, 112, 121, 116, 104, 111, 110, 45, 51, 49, 51, 45, 120, 56, 54, 95, 54, 52, 45, 108, 105, 110, 117, 120, 45, 103, 110, 117, 46, 115, 111]) 187)] 2), #[]⟩
noncomputable def o15 (P : Params) : Obj := ⟨(.type "dict"), none, (.dict #[k P "__module__" 194 (.str (s "_frozen_importlib_external") 192), k P "__firstlineno__" 195 (.int (1001) 193), k P "__doc__" 196 (.builtin "_frozen_importlib_external._LoaderBasics.__doc__:str#opaque"), k P "is_package" 197 (.builtin "_frozen_importlib_external._LoaderBasics.is_package#opaque"), k P "create_module" 198 (.builtin "_frozen_importlib_external._LoaderBasics.create_module#opaque"), k P "exec_module" 199 (.builtin "_frozen_importlib_external._LoaderBasics.exec_module#opaque"), k P "load_module" 200 (.builtin "_frozen_importlib_external._LoaderBasics.load_module#opaque"), k P "__static_attributes__" 201 (.ref 17), k P "__dict__" 203 (.ref 18), k P "__weakref__" 205 (.ref 19)] 10), #[]⟩
noncomputable def o16 (P : Params) : Obj := ⟨(.type "type"), none, (.cls ⟨(s "_LoaderBasics"), [(.type "object")], [(.ref 16), (.type "object")], 15, (s "_LoaderBasics"), true, [], [(.ref 27)], false, none, false⟩), #[]⟩
noncomputable def o17 (P : Params) : Obj := ⟨(.type "tuple"), none, (.seq #[] 0), #[]⟩
noncomputable def o18 (P : Params) : Obj := ⟨(.type "getset_descriptor"), none, (.fields #[(.str (s "__dict__") 202), (.ref 16), (.builtin "function.__dict__"), (.builtin "function.__dict__#set")]), #[]⟩
noncomputable def o19 (P : Params) : Obj := ⟨(.type "getset_descriptor"), none, (.fields #[(.str (s "__weakref__") 204), (.ref 16), (.builtin "ExceptionGroup.__weakref__"), .none]), #[]⟩
noncomputable def o20 (P : Params) : Obj := ⟨.none, none, (.seq #[(.int (15) 0), (.str (u [6, 194, 10, 95, 95, 109, 111, 100, 117, 108, 101, 95, 95, 6, 192, 26, 95, 102, 114, 111, 122, 101, 110, 95, 105, 109, 112, 111, 114, 116, 108, 105, 98, 95, 101, 120, 116, 101, 114, 110, 97, 108, 6, 195, 15, 95, 95, 102, 105, 114, 115, 116, 108, 105, 110, 101, 110, 111, 95, 95, 4, 193, 0, 1001, 6, 196, 7, 95, 95, 100, 111, 99, 95, 95, 9, 59, 95, 102, 114, 111, 122, 101, 110, 95, 105, 109, 112, 111, 114, 116, 108, 105, 98, 95, 101, 120, 116, 101, 114, 110, 97, 108, 46, 95, 76, 111, 97, 100, 101, 114, 66, 97, 115, 105, 99, 115, 46, 95, 95, 100, 111, 99, 95, 95, 58, 115, 116, 114, 35, 111, 112, 97, 113, 117, 101, 6, 197, 10, 105, 115, 95, 112, 97, 99, 107, 97, 103, 101, 9, 58, 95, 102, 114, 111, 122, 101, 110, 95, 105, 109, 112, 111, 114, 116, 108, 105, 98, 95, 101, 120, 116, 101, 114, 110, 97, 108, 46, 95, 76, 111, 97, 100, 101, 114, 66, 97, 115, 105, 99, 115, 46, 105, 115, 95, 112, 97, 99, 107, 97, 103, 101, 35, 111, 112, 97, 113, 117, 101, 6, 198, 13, 99, 114, 101, 97, 116, 101, 95, 109, 111, 100, 117, 108, 101, 9, 61, 95, 102, 114, 111, 122, 101, 110, 95, 105, 109, 112, 111, 114, 116, 108, 105, 98, 95, 101, 120, 116, 101, 114, 110, 97, 108, 46, 95, 76, 111, 97, 100, 101, 114, 66, 97, 115, 105, 99, 115, 46, 99, 114, 101, 97, 116, 101, 95, 109, 111, 100, 117, 108, 101, 35, 111, 112, 97, 113, 117, 101, 6, 199, 11, 101, 120, 101, 99, 95, 109, 111, 100, 117, 108, 101, 9, 59, 95, 102, 114, 111, 122, 101, 110, 95, 105, 109, 112, 111, 114, 116, 108, 105, 98, 95, 101, 120, 116, 101, 114, 110, 97, 108, 46, 95, 76, 111, 97, 100, 101, 114, 66, 97, 115, 105, 99, 115, 46, 101, 120, 101, 99, 95, 109, 111, 100, 117, 108, 101, 35, 111, 112, 97, 113, 117, 101, 6, 200, 11, 108, 111, 97, 100, 95, 109, 111, 100, 117, 108, 101, 9, 59, 95, 102, 114, 111, 122, 101, 110, 95, 105, 109, 112, 111, 114, 116, 108, 105, 98, 95, 101, 120, 116, 101, 114, 110, 97, 108, 46, 95, 76, 111, 97, 100, 101, 114, 66, 97, 115, 105, 99, 115, 46, 108, 111, 97, 100, 95, 109, 111, 100, 117, 108, 101, 35, 111, 112, 97, 113, 117, 101, 6, 201, 21, 95, 95, 115, 116, 97, 116, 105, 99, 95, 97, 116, 116, 114, 105, 98, 117, 116, 101, 115, 95, 95, 4, 0, 0, 17, 6, 203, 8, 95, 95, 100, 105, 99, 116, 95, 95, 4, 0, 0, 18, 6, 205, 11, 95, 95, 119, 101, 97, 107, 114, 101, 102, 95, 95, 4, 0, 0, 19]) 0), (.bool true), (.bool true), (.str (s "") 206), (.int (21) 0), (.str (u [6, 213, 10, 95, 95, 109, 111, 100, 117, 108, 101, 95, 95, 6, 209, 26, 95, 102, 114, 111, 122, 101, 110, 95, 105, 109, 112, 111, 114, 116, 108, 105, 98, 95, 101, 120, 116, 101, 114, 110, 97, 108, 6, 214, 15, 95, 95, 102, 105, 114, 115, 116, 108, 105, 110, 101, 110, 111, 95, 95, 4, 210, 0, 1176, 6, 215, 7, 95, 95, 100, 111, 99, 95, 95, 9, 56, 95, 102, 114, 111, 122, 101, 110, 95, 105, 109, 112, 111, 114, 116, 108, 105, 98, 95, 101, 120, 116, 101, 114, 110, 97, 108, 46, 70, 105, 108, 101, 76, 111, 97, 100, 101, 114, 46, 95, 95, 100, 111, 99, 95, 95, 58, 115, 116, 114, 35, 111, 112, 97, 113, 117, 101, 6, 216, 8, 95, 95, 105, 110, 105, 116, 95, 95, 9, 53, 95, 102, 114, 111, 122, 101, 110, 95, 105, 109, 112, 111, 114, 116, 108, 105, 98, 95, 101, 120, 116, 101, 114, 110, 97, 108, 46, 70, 105, 108, 101, 76, 111, 97, 100, 101, 114, 46, 95, 95, 105, 110, 105, 116, 95, 95, 35, 111, 112, 97, 113, 117, 101, 6, 217, 6, 95, 95, 101, 113, 95, 95, 9, 51, 95, 102, 114, 111, 122, 101, 110, 95, 105, 109, 112, 111, 114, 116, 108, 105, 98, 95, 101, 120, 116, 101, 114, 110, 97, 108, 46, 70, 105, 108, 101, 76, 111, 97, 100, 101, 114, 46, 95, 95, 101, 113, 95, 95, 35, 111, 112, 97, 113, 117, 101, 6, 218, 8, 95, 95, 104, 97, 115, 104, 95, 95, 9, 53, 95, 102, 114, 111, 122, 101, 110, 95, 105, 109, 112, 111, 114, 116, 108, 105, 98, 95, 101, 120, 116, 101, 114, 110, 97, 108, 46, 70, 105, 108, 101, 76, 111, 97, 100, 101, 114, 46, 95, 95, 104, 97, 115, 104, 95, 95, 35, 111, 112, 97, 113, 117, 101, 6, 219, 11, 108, 111, 97, 100, 95, 109, 111, 100, 117, 108, 101, 9, 56, 95, 102, 114, 111, 122, 101, 110, 95, 105, 109, 112, 111, 114, 116, 108, 105, 98, 95, 101, 120, 116, 101, 114, 110, 97, 108, 46, 70, 105, 108, 101, 76, 111, 97, 100, 101, 114, 46, 108, 111, 97, 100, 95, 109, 111, 100, 117, 108, 101, 35, 111, 112, 97, 113, 117, 101, 6, 220, 12, 103, 101, 116, 95, 102, 105, 108, 101, 110, 97, 109, 101, 9, 57, 95, 102, 114, 111, 122, 101, 110, 95, 105, 109, 112, 111, 114, 116, 108, 105, 98, 95, 101, 120, 116, 101, 114, 110, 97, 108, 46, 70, 105, 108, 101, 76, 111, 97, 100, 101, 114, 46, 103, 101, 116, 95, 102, 105, 108, 101, 110, 97, 109, 101, 35, 111, 112, 97, 113, 117, 101, 6, 221, 8, 103, 101, 116, 95, 100, 97, 116, 97, 9, 53, 95, 102, 114, 111, 122, 101, 110, 95, 105, 109, 112, 111, 114, 116, 108, 105, 98, 95, 101, 120, 116, 101, 114, 110, 97, 108, 46, 70, 105, 108, 101, 76, 111, 97, 100, 101, 114, 46, 103, 101, 116, 95, 100, 97, 116, 97, 35, 111, 112, 97, 113, 117, 101, 6, 222, 19, 103, 101, 116, 95, 114, 101, 115, 111, 117, 114, 99, 101, 95, 114, 101, 97, 100, 101, 114, 9, 64, 95, 102, 114, 111, 122, 101, 110, 95, 105, 109, 112, 111, 114, 116, 108, 105, 98, 95, 101, 120, 116, 101, 114, 110, 97, 108, 46, 70, 105, 108, 101, 76, 111, 97, 100, 101, 114, 46, 103, 101, 116, 95, 114, 101, 115, 111, 117, 114, 99, 101, 95, 114, 101, 97, 100, 101, 114, 35, 111, 112, 97, 113, 117, 101, 6, 223, 21, 95, 95, 115, 116, 97, 116, 105, 99, 95, 97, 116, 116, 114, 105, 98, 117, 116, 101, 115, 95, 95, 4, 0, 0, 23, 6, 225, 8, 95, 95, 100, 105, 99, 116, 95, 95, 4, 0, 0, 24, 6, 227, 11, 95, 95, 119, 101, 97, 107, 114, 101, 102, 95, 95, 4, 0, 0, 25]) 0), (.bool true), (.bool true), (.str (s "") 228), (.int (26) 0), (.str (u [6, 234, 10, 95, 95, 109, 111, 100, 117, 108, 101, 95, 95, 6, 230, 26, 95, 102, 114, 111, 122, 101, 110, 95, 105, 109, 112, 111, 114, 116, 108, 105, 98, 95, 101, 120, 116, 101, 114, 110, 97, 108, 6, 235, 15, 95, 95, 102, 105, 114, 115, 116, 108, 105, 110, 101, 110, 111, 95, 95, 4, 231, 0, 1296, 6, 236, 7, 95, 95, 100, 111, 99, 95, 95, 9, 65, 95, 102, 114, 111, 122, 101, 110, 95, 105, 109, 112, 111, 114, 116, 108, 105, 98, 95, 101, 120, 116, 101, 114, 110, 97, 108, 46, 69, 120, 116, 101, 110, 115, 105, 111, 110, 70, 105, 108, 101, 76, 111, 97, 100, 101, 114, 46, 95, 95, 100, 111, 99, 95, 95, 58, 115, 116, 114, 35, 111, 112, 97, 113, 117, 101, 6, 237, 8, 95, 95, 105, 110, 105, 116, 95, 95, 9, 62, 95, 102, 114, 111, 122, 101, 110, 95, 105, 109, 112, 111, 114, 116, 108, 105, 98, 95, 101, 120, 116, 101, 114, 110, 97, 108, 46, 69, 120, 116, 101, 110, 115, 105, 111, 110, 70, 105, 108, 101, 76, 111, 97, 100, 101, 114, 46, 95, 95, 105, 110, 105, 116, 95, 95, 35, 111, 112, 97, 113, 117, 101, 6, 238, 6, 95, 95, 101, 113, 95, 95, 9, 60, 95, 102, 114, 111, 122, 101, 110, 95, 105, 109, 112, 111, 114, 116, 108, 105, 98, 95, 101, 120, 116, 101, 114, 110, 97, 108, 46, 69, 120, 116, 101, 110, 115, 105, 111, 110, 70, 105, 108, 101, 76, 111, 97, 100, 101, 114, 46, 95, 95, 101, 113, 95, 95, 35, 111, 112, 97, 113, 117, 101, 6, 239, 8, 95, 95, 104, 97, 115, 104, 95, 95, 9, 62, 95, 102, 114, 111, 122, 101, 110, 95, 105, 109, 112, 111, 114, 116, 108, 105, 98, 95, 101, 120, 116, 101, 114, 110, 97, 108, 46, 69, 120, 116, 101, 110, 115, 105, 111, 110, 70, 105, 108, 101, 76, 111, 97, 100, 101, 114, 46, 95, 95, 104, 97, 115, 104, 95, 95, 35, 111, 112, 97, 113, 117, 101, 6, 240, 13, 99, 114, 101, 97, 116, 101, 95, 109, 111, 100, 117, 108, 101, 9, 67, 95, 102, 114, 111, 122, 101, 110, 95, 105, 109, 112, 111, 114, 116, 108, 105, 98, 95, 101, 120, 116, 101, 114, 110, 97, 108, 46, 69, 120, 116, 101, 110, 115, 105, 111, 110, 70, 105, 108, 101, 76, 111, 97, 100, 101, 114, 46, 99, 114, 101, 97, 116, 101, 95, 109, 111, 100, 117, 108, 101, 35, 111, 112, 97, 113, 117, 101, 6, 241, 11, 101, 120, 101, 99, 95, 109, 111, 100, 117, 108, 101, 9, 65, 95, 102, 114, 111, 122, 101, 110, 95, 105, 109, 112, 111, 114, 116, 108, 105, 98, 95, 101, 120, 116, 101, 114, 110, 97, 108, 46, 69, 120, 116, 101, 110, 115, 105, 111, 110, 70, 105, 108, 101, 76, 111, 97, 100, 101, 114, 46, 101, 120, 101, 99, 95, 109, 111, 100, 117, 108, 101, 35, 111, 112, 97, 113, 117, 101, 6, 242, 10, 105, 115, 95, 112, 97, 99, 107, 97, 103, 101, 9, 64, 95, 102, 114, 111, 122, 101, 110, 95, 105, 109, 112, 111, 114, 116, 108, 105, 98, 95, 101, 120, 116, 101, 114, 110, 97, 108, 46, 69, 120, 116, 101, 110, 115, 105, 111, 110, 70, 105, 108, 101, 76, 111, 97, 100, 101, 114, 46, 105, 115, 95, 112, 97, 99, 107, 97, 103, 101, 35, 111, 112, 97, 113, 117, 101, 6, 243, 8, 103, 101, 116, 95, 99, 111, 100, 101, 9, 62, 95, 102, 114, 111, 122, 101, 110, 95, 105, 109, 112, 111, 114, 116, 108, 105, 98, 95, 101, 120, 116, 101, 114, 110, 97, 108, 46, 69, 120, 116, 101, 110, 115, 105, 111, 110, 70, 105, 108, 101, 76, 111, 97, 100, 101, 114, 46, 103, 101, 116, 95, 99, 111, 100, 101, 35, 111, 112, 97, 113, 117, 101, 6, 244, 10, 103, 101, 116, 95, 115, 111, 117, 114, 99, 101, 9, 64, 95, 102, 114, 111, 122, 101, 110, 95, 105, 109, 112, 111, 114, 116, 108, 105, 98, 95, 101, 120, 116, 101, 114, 110, 97, 108, 46, 69, 120, 116, 101, 110, 115, 105, 111, 110, 70, 105, 108, 101, 76, 111, 97, 100, 101, 114, 46, 103, 101, 116, 95, 115, 111, 117, 114, 99, 101, 35, 111, 112, 97, 113, 117, 101, 6, 245, 12, 103, 101, 116, 95, 102, 105, 108, 101, 110, 97, 109, 101, 9, 66, 95, 102, 114, 111, 122, 101, 110, 95, 105, 109, 112, 111, 114, 116, 108, 105, 98, 95, 101, 120, 116, 101, 114, 110, 97, 108, 46, 69, 120, 116, 101, 110, 115, 105, 111, 110, 70, 105, 108, 101, 76, 111, 97, 100, 101, 114, 46, 103, 101, 116, 95, 102, 105, 108, 101, 110, 97, 109, 101, 35, 111, 112, 97, 113, 117, 101, 6, 246, 21, 95, 95, 115, 116, 97, 116, 105, 99, 95, 97, 116, 116, 114, 105, 98, 117, 116, 101, 115, 95, 95, 4, 0, 0, 28]) 0), (.bool true), (.bool true), (.str (s "") 247), (.int (32) 0), (.str (u [6, 268, 10, 95, 95, 109, 111, 100, 117, 108, 101, 95, 95, 6, 258, 17, 95, 102, 114, 111, 122, 101, 110, 95, 105, 109, 112, 111, 114, 116, 108, 105, 98, 6, 269, 15, 95, 95, 102, 105, 114, 115, 116, 108, 105, 110, 101, 110, 111, 95, 95, 4, 259, 0, 562, 6, 270, 7, 95, 95, 100, 111, 99, 95, 95, 9, 47, 95, 102, 114, 111, 122, 101, 110, 95, 105, 109, 112, 111, 114, 116, 108, 105, 98, 46, 77, 111, 100, 117, 108, 101, 83, 112, 101, 99, 46, 95, 95, 100, 111, 99, 95, 95, 58, 115, 116, 114, 35, 111, 112, 97, 113, 117, 101, 6, 271, 8, 95, 95, 105, 110, 105, 116, 95, 95, 9, 44, 95, 102, 114, 111, 122, 101, 110, 95, 105, 109, 112, 111, 114, 116, 108, 105, 98, 46, 77, 111, 100, 117, 108, 101, 83, 112, 101, 99, 46, 95, 95, 105, 110, 105, 116, 95, 95, 35, 111, 112, 97, 113, 117, 101, 6, 272, 8, 95, 95, 114, 101, 112, 114, 95, 95, 9, 44, 95, 102, 114, 111, 122, 101, 110, 95, 105, 109, 112, 111, 114, 116, 108, 105, 98, 46, 77, 111, 100, 117, 108, 101, 83, 112, 101, 99, 46, 95, 95, 114, 101, 112, 114, 95, 95, 35, 111, 112, 97, 113, 117, 101, 6, 273, 6, 95, 95, 101, 113, 95, 95, 9, 42, 95, 102, 114, 111, 122, 101, 110, 95, 105, 109, 112, 111, 114, 116, 108, 105, 98, 46, 77, 111, 100, 117, 108, 101, 83, 112, 101, 99, 46, 95, 95, 101, 113, 95, 95, 35, 111, 112, 97, 113, 117, 101, 6, 274, 6, 99, 97, 99, 104, 101, 100, 9, 42, 95, 102, 114, 111, 122, 101, 110, 95, 105, 109, 112, 111, 114, 116, 108, 105, 98, 46, 77, 111, 100, 117, 108, 101, 83, 112, 101, 99, 46, 99, 97, 99, 104, 101, 100, 35, 111, 112, 97, 113, 117, 101, 6, 275, 6, 112, 97, 114, 101, 110, 116, 9, 42, 95, 102, 114, 111, 122, 101, 110, 95, 105, 109, 112, 111, 114, 116, 108, 105, 98, 46, 77, 111, 100, 117, 108, 101, 83, 112, 101, 99, 46, 112, 97, 114, 101, 110, 116, 35, 111, 112, 97, 113, 117, 101, 6, 276, 12, 104, 97, 115, 95, 108, 111, 99, 97, 116, 105, 111, 110, 9, 48, 95, 102, 114, 111, 122, 101, 110, 95, 105, 109, 112, 111, 114, 116, 108, 105, 98, 46, 77, 111, 100, 117, 108, 101, 83, 112, 101, 99, 46, 104, 97, 115, 95, 108, 111, 99, 97, 116, 105, 111, 110, 35, 111, 112, 97, 113, 117, 101, 6, 277, 21, 95, 95, 115, 116, 97, 116, 105, 99, 95, 97, 116, 116, 114, 105, 98, 117, 116, 101, 115, 95, 95, 4, 0, 0, 34, 6, 279, 8, 95, 95, 100, 105, 99, 116, 95, 95, 4, 0, 0, 35, 6, 281, 11, 95, 95, 119, 101, 97, 107, 114, 101, 102, 95, 95, 4, 0, 0, 36, 6, 282, 8, 95, 95, 104, 97, 115, 104, 95, 95, 0]) 0), (.bool true), (.bool true), (.str (s "") 283)] 3), #[]⟩
noncomputable def o21 (P : Params) : Obj := ⟨(.type "dict"), none, (.dict #[k P "__module__" 213 (.str (s "_frozen_importlib_external") 209), k P "__firstlineno__" 214 (.int (1176) 210), k P "__doc__" 215 (.builtin "_frozen_importlib_external.FileLoader.__doc__:str#opaque"), k P "__init__" 216 (.builtin "_frozen_importlib_external.FileLoader.__init__#opaque"), k P "__eq__" 217 (.builtin "_frozen_importlib_external.FileLoader.__eq__#opaque"), k P "__hash__" 218 (.builtin "_frozen_importlib_external.FileLoader.__hash__#opaque"), k P "load_module" 219 (.builtin "_frozen_importlib_external.FileLoader.load_module#opaque"), k P "get_filename" 220 (.builtin "_frozen_importlib_external.FileLoader.get_filename#opaque"), k P "get_data" 221 (.builtin "_frozen_importlib_external.FileLoader.get_data#opaque"), k P "get_resource_reader" 222 (.builtin "_frozen_importlib_external.FileLoader.get_resource_reader#opaque"), k P "__static_attributes__" 223 (.ref 23), k P "__dict__" 225 (.ref 24), k P "__weakref__" 227 (.ref 25)] 13), #[]⟩
noncomputable def o22 (P : Params) : Obj := ⟨(.type "type"), none, (.cls ⟨(s "FileLoader"), [(.type "object")], [(.ref 22), (.type "object")], 21, (s "FileLoader"), true, [], [(.ref 27)], false, none, false⟩), #[]⟩
noncomputable def o23 (P : Params) : Obj := ⟨(.type "tuple"), none, (.seq #[(.str (s "name") 211), (.str (s "path") 212)] 0), #[]⟩
noncomputable def o24 (P : Params) : Obj := ⟨(.type "getset_descriptor"), none, (.fields #[(.str (s "__dict__") 224), (.ref 22), (.builtin "function.__dict__"), (.builtin "function.__dict__#set")]), #[]⟩
noncomputable def o25 (P : Params) : Obj := ⟨(.type "getset_descriptor"), none, (.fields #[(.str (s "__weakref__") 226), (.ref 22), (.builtin "ExceptionGroup.__weakref__"), .none]), #[]⟩
noncomputable def o26 (P : Params) : Obj := ⟨(.type "dict"), none, (.dict #[k P "__module__" 234 (.str (s "_frozen_importlib_external") 230), k P "__firstlineno__" 235 (.int (1296) 231), k P "__doc__" 236 (.builtin "_frozen_importlib_external.ExtensionFileLoader.__doc__:str#opaque"), k P "__init__" 237 (.builtin "_frozen_importlib_external.ExtensionFileLoader.__init__#opaque"), k P "__eq__" 238 (.builtin "_frozen_importlib_external.ExtensionFileLoader.__eq__#opaque"), k P "__hash__" 239 (.builtin "_frozen_importlib_external.ExtensionFileLoader.__hash__#opaque"), k P "create_module" 240 (.builtin "_frozen_importlib_external.ExtensionFileLoader.create_module#opaque"), k P "exec_module" 241 (.builtin "_frozen_importlib_external.ExtensionFileLoader.exec_module#opaque"), k P "is_package" 242 (.builtin "_frozen_importlib_external.ExtensionFileLoader.is_package#opaque"), k P "get_code" 243 (.builtin "_frozen_importlib_external.ExtensionFileLoader.get_code#opaque"), k P "get_source" 244 (.builtin "_frozen_importlib_external.ExtensionFileLoader.get_source#opaque"), k P "get_filename" 245 (.builtin "_frozen_importlib_external.ExtensionFileLoader.get_filename#opaque"), k P "__static_attributes__" 246 (.ref 28)] 13), #[]⟩
noncomputable def o27 (P : Params) : Obj := ⟨(.type "type"), none, (.cls ⟨(s "ExtensionFileLoader"), [(.ref 22), (.ref 16)], [(.ref 27), (.ref 22), (.ref 16), (.type "object")], 26, (s "ExtensionFileLoader"), true, [], [], false, none, false⟩), #[]⟩
noncomputable def o28 (P : Params) : Obj := ⟨(.type "tuple"), none, (.seq #[(.str (s "name") 232), (.str (s "path") 233)] 0), #[]⟩
noncomputable def o29 (P : Params) : Obj := ⟨(.ref 27), (some 14), .plain, #[]⟩
noncomputable def o30 (P : Params) : Obj := ⟨(.type "list"), none, (.seq #[] 0), #[]⟩
noncomputable def o31 (P : Params) : Obj := ⟨(.type "dict"), none, (.dict #[k P "name" 249 (.str (s "math") 248), k P "loader" 250 (.ref 29), k P "origin" 251 (.str (u [47, 110, 105, 120, 47, 115, 116, 111, 114, 101, 47, 119, 106, 49, 102, 53, 54, 113, 107, 121, 52, 112, 109, 106, 99, 55, 108, 48, 114, 54, 98, 54, 108, 55, 119, 104, 110, 110, 119, 55, 104, 112, 54, 45, 112, 121, 116, 104, 111, 110, 51, 45, 51, 46, 49, 51, 46, 49, 53, 47, 108, 105, 98, 47, 112, 121, 116, 104, 111, 110, 51, 46, 49, 51, 47, 108, 105, 98, 45, 100, 121, 110, 108, 111, 97, 100, 47, 109, 97, 116, 104, 46, 99, 112, 121, 116, 104, 111, 110, 45, 51, 49, 51, 45, 120, 56, 54, 95, 54, 52, 45, 108, 105, 110, 117, 120, 45, 103, 110, 117, 46, 115, 111]) 187), k P "loader_state" 252 .none, k P "submodule_search_locations" 253 .none, k P "_uninitialized_submodules" 254 (.ref 30), k P "_set_fileattr" 255 (.bool true), k P "_cached" 256 .none, k P "_initializing" 284 (.bool false)] 9), #[]⟩
noncomputable def o32 (P : Params) : Obj := ⟨(.type "dict"), none, (.dict #[k P "__module__" 268 (.str (s "_frozen_importlib") 258), k P "__firstlineno__" 269 (.int (562) 259), k P "__doc__" 270 (.builtin "_frozen_importlib.ModuleSpec.__doc__:str#opaque"), k P "__init__" 271 (.builtin "_frozen_importlib.ModuleSpec.__init__#opaque"), k P "__repr__" 272 (.builtin "_frozen_importlib.ModuleSpec.__repr__#opaque"), k P "__eq__" 273 (.builtin "_frozen_importlib.ModuleSpec.__eq__#opaque"), k P "cached" 274 (.builtin "_frozen_importlib.ModuleSpec.cached#opaque"), k P "parent" 275 (.builtin "_frozen_importlib.ModuleSpec.parent#opaque"), k P "has_location" 276 (.builtin "_frozen_importlib.ModuleSpec.has_location#opaque"), k P "__static_attributes__" 277 (.ref 34), k P "__dict__" 279 (.ref 35), k P "__weakref__" 281 (.ref 36), k P "__hash__" 282 .none] 13), #[]⟩
noncomputable def o33 (P : Params) : Obj := ⟨(.type "type"), none, (.cls ⟨(s "ModuleSpec"), [(.type "object")], [(.ref 33), (.type "object")], 32, (s "ModuleSpec"), true, [], [], false, none, false⟩), #[]⟩
noncomputable def o34 (P : Params) : Obj := ⟨(.type "tuple"), none, (.seq #[(.str (s "_cached") 260), (.str (s "_set_fileattr") 261), (.str (s "_uninitialized_submodules") 262), (.str (s "loader") 263), (.str (s "loader_state") 264), (.str (s "name") 265), (.str (s "origin") 266), (.str (s "submodule_search_locations") 267)] 0), #[]⟩
noncomputable def o35 (P : Params) : Obj := ⟨(.type "getset_descriptor"), none, (.fields #[(.str (s "__dict__") 278), (.ref 33), (.builtin "function.__dict__"), (.builtin "function.__dict__#set")]), #[]⟩
noncomputable def o36 (P : Params) : Obj := ⟨(.type "getset_descriptor"), none, (.fields #[(.str (s "__weakref__") 280), (.ref 33), (.builtin "ExceptionGroup.__weakref__"), .none]), #[]⟩
noncomputable def o37 (P : Params) : Obj := ⟨(.ref 33), (some 31), .plain, #[]⟩
noncomputable def o38 (P : Params) : Obj := ⟨.none, none, (.seq #[(.int (12) 0), (.str (u [6, 288, 8, 95, 95, 110, 97, 109, 101, 95, 95, 6, 287, 4, 109, 97, 116, 104, 6, 289, 7, 95, 95, 100, 111, 99, 95, 95, 9, 23, 109, 97, 116, 104, 46, 95, 95, 100, 111, 99, 95, 95, 58, 115, 116, 114, 35, 111, 112, 97, 113, 117, 101, 6, 291, 11, 95, 95, 112, 97, 99, 107, 97, 103, 101, 95, 95, 6, 290, 0, 6, 292, 10, 95, 95, 108, 111, 97, 100, 101, 114, 95, 95, 4, 0, 0, 29, 6, 293, 8, 95, 95, 115, 112, 101, 99, 95, 95, 4, 0, 0, 37, 6, 294, 4, 97, 99, 111, 115, 9, 9, 109, 97, 116, 104, 46, 97, 99, 111, 115, 6, 295, 5, 97, 99, 111, 115, 104, 9, 10, 109, 97, 116, 104, 46, 97, 99, 111, 115, 104, 6, 296, 4, 97, 115, 105, 110, 9, 9, 109, 97, 116, 104, 46, 97, 115, 105, 110, 6, 297, 5, 97, 115, 105, 110, 104, 9, 10, 109, 97, 116, 104, 46, 97, 115, 105, 110, 104, 6, 298, 4, 97, 116, 97, 110, 9, 9, 109, 97, 116, 104, 46, 97, 116, 97, 110, 6, 299, 5, 97, 116, 97, 110, 50, 9, 10, 109, 97, 116, 104, 46, 97, 116, 97, 110, 50, 6, 300, 5, 97, 116, 97, 110, 104, 9, 10, 109, 97, 116, 104, 46, 97, 116, 97, 110, 104, 6, 301, 4, 99, 98, 114, 116, 9, 9, 109, 97, 116, 104, 46, 99, 98, 114, 116, 6, 302, 4, 99, 101, 105, 108, 9, 9, 109, 97, 116, 104, 46, 99, 101, 105, 108, 6, 303, 8, 99, 111, 112, 121, 115, 105, 103, 110, 9, 13, 109, 97, 116, 104, 46, 99, 111, 112, 121, 115, 105, 103, 110, 6, 304, 3, 99, 111, 115, 9, 8, 109, 97, 116, 104, 46, 99, 111, 115, 6, 305, 4, 99, 111, 115, 104, 9, 9, 109, 97, 116, 104, 46, 99, 111, 115, 104, 6, 306, 7, 100, 101, 103, 114, 101, 101, 115, 9, 12, 109, 97, 116, 104, 46, 100, 101, 103, 114, 101, 101, 115, 6, 307, 4, 100, 105, 115, 116, 9, 9, 109, 97, 116, 104, 46, 100, 105, 115, 116, 6, 308, 3, 101, 114, 102, 9, 8, 109, 97, 116, 104, 46, 101, 114, 102, 6, 309, 4, 101, 114, 102, 99, 9, 9, 109, 97, 116, 104, 46, 101, 114, 102, 99, 6, 310, 3, 101, 120, 112, 9, 8, 109, 97, 116, 104, 46, 101, 120, 112, 6, 311, 4, 101, 120, 112, 50, 9, 9, 109, 97, 116, 104, 46, 101, 120, 112, 50, 6, 312, 5, 101, 120, 112, 109, 49, 9, 10, 109, 97, 116, 104, 46, 101, 120, 112, 109, 49, 6, 313, 4, 102, 97, 98, 115, 9, 9, 109, 97, 116, 104, 46, 102, 97, 98, 115, 6, 314, 9, 102, 97, 99, 116, 111, 114, 105, 97, 108, 9, 14, 109, 97, 116, 104, 46, 102, 97, 99, 116, 111, 114, 105, 97, 108, 6, 315, 5, 102, 108, 111, 111, 114, 9, 10, 109, 97, 116, 104, 46, 102, 108, 111, 111, 114, 6, 316, 3, 102, 109, 97, 9, 8, 109, 97, 116, 104, 46, 102, 109, 97, 6, 317, 4, 102, 109, 111, 100, 9, 9, 109, 97, 116, 104, 46, 102, 109, 111, 100, 6, 318, 5, 102, 114, 101, 120, 112, 9, 10, 109, 97, 116, 104, 46, 102, 114, 101, 120, 112, 6, 319, 4, 102, 115, 117, 109, 9, 9, 109, 97, 116, 104, 46, 102, 115, 117, 109, 6, 320, 5, 103, 97, 109, 109, 97, 9, 10, 109, 97, 116, 104, 46, 103, 97, 109, 109, 97, 6, 321, 3, 103, 99, 100, 9, 8, 109, 97, 116, 104, 46, 103, 99, 100, 6, 322, 5, 104, 121, 112, 111, 116, 9, 10, 109, 97, 116, 104, 46, 104, 121, 112, 111, 116, 6, 323, 7, 105, 115, 99, 108, 111, 115, 101, 9, 12, 109, 97, 116, 104, 46, 105, 115, 99, 108, 111, 115, 101, 6, 324, 8, 105, 115, 102, 105, 110, 105, 116, 101, 9, 13, 109, 97, 116, 104, 46, 105, 115, 102, 105, 110, 105, 116, 101, 6, 325, 5, 105, 115, 105, 110, 102, 9, 10, 109, 97, 116, 104, 46, 105, 115, 105, 110, 102, 6, 326, 5, 105, 115, 110, 97, 110, 9, 10, 109, 97, 116, 104, 46, 105, 115, 110, 97, 110, 6, 327, 5, 105, 115, 113, 114, 116, 9, 10, 109, 97, 116, 104, 46, 105, 115, 113, 114, 116, 6, 328, 3, 108, 99, 109, 9, 8, 109, 97, 116, 104, 46, 108, 99, 109, 6, 329, 5, 108, 100, 101, 120, 112, 9, 10, 109, 97, 116, 104, 46, 108, 100, 101, 120, 112, 6, 330, 6, 108, 103, 97, 109, 109, 97, 9, 11, 109, 97, 116, 104, 46, 108, 103, 97, 109, 109, 97, 6, 331, 3, 108, 111, 103, 9, 8, 109, 97, 116, 104, 46, 108, 111, 103, 6, 332, 5, 108, 111, 103, 49, 112, 9, 10, 109, 97, 116, 104, 46, 108, 111, 103, 49, 112, 6, 333, 5, 108, 111, 103, 49, 48, 9, 10, 109, 97, 116, 104, 46, 108, 111, 103, 49, 48, 6, 334, 4, 108, 111, 103, 50, 9, 9, 109, 97, 116, 104, 46, 108, 111, 103, 50, 6, 335, 4, 109, 111, 100, 102, 9, 9, 109, 97, 116, 104, 46, 109, 111, 100, 102, 6, 336, 3, 112, 111, 119, 9, 8, 109, 97, 116, 104, 46, 112, 111, 119, 6, 337, 7, 114, 97, 100, 105, 97, 110, 115, 9, 12, 109, 97, 116, 104, 46, 114, 97, 100, 105, 97, 110, 115, 6, 338, 9, 114, 101, 109, 97, 105, 110, 100, 101, 114, 9, 14, 109, 97, 116, 104, 46, 114, 101, 109, 97, 105, 110, 100, 101, 114, 6, 339, 3, 115, 105, 110, 9, 8, 109, 97, 116, 104, 46, 115, 105, 110, 6, 340, 4, 115, 105, 110, 104, 9, 9, 109, 97, 116, 104, 46, 115, 105, 110, 104, 6, 341, 4, 115, 113, 114, 116, 9, 9, 109, 97, 116, 104, 46, 115, 113, 114, 116, 6, 342, 3, 116, 97, 110, 9, 8, 109, 97, 116, 104, 46, 116, 97, 110, 6, 343, 4, 116, 97, 110, 104, 9, 9, 109, 97, 116, 104, 46, 116, 97, 110, 104, 6, 344, 7, 115, 117, 109, 112, 114, 111, 100, 9, 12, 109, 97, 116, 104, 46, 115, 117, 109, 112, 114, 111, 100, 6, 345, 5, 116, 114, 117, 110, 99, 9, 10, 109, 97, 116, 104, 46, 116, 114, 117, 110, 99, 6, 346, 4, 112, 114, 111, 100, 9, 9, 109, 97, 116, 104, 46, 112, 114, 111, 100, 6, 347, 4, 112, 101, 114, 109, 9, 9, 109, 97, 116, 104, 46, 112, 101, 114, 109, 6, 348, 4, 99, 111, 109, 98, 9, 9, 109, 97, 116, 104, 46, 99, 111, 109, 98, 6, 349, 9, 110, 101, 120, 116, 97, 102, 116, 101, 114, 9, 14, 109, 97, 116, 104, 46, 110, 101, 120, 116, 97, 102, 116, 101, 114, 6, 350, 3, 117, 108, 112, 9, 8, 109, 97, 116, 104, 46, 117, 108, 112, 6, 351, 8, 95, 95, 102, 105, 108, 101, 95, 95, 6, 187, 123, 47, 110, 105, 120, 47, 115, 116, 111, 114, 101, 47, 119, 106, 49, 102, 53, 54, 113, 107, 121, 52, 112, 109, 106, 99, 55, 108, 48, 114, 54, 98, 54, 108, 55, 119, 104, 110, 110, 119, 55, 104, 112, 54, 45, 112, 121, 116, 104, 111, 110, 51, 45, 51, 46, 49, 51, 46, 49, 53, 47, 108, 105, 98, 47, 112, 121, 116, 104, 111, 110, 51, 46, 49, 51, 47, 108, 105, 98, 45, 100, 121, 110, 108, 111, 97, 100, 47, 109, 97, 116, 104, 46, 99, 112, 121, 116, 104, 111, 110, 45, 51, 49, 51, 45, 120, 56, 54, 95, 54, 52, 45, 108, 105, 110, 117, 120, 45, 103, 110, 117, 46, 115, 111, 6, 353, 2, 112, 105, 5, 352, 4614256656552045848, 6, 355, 1, 101, 5, 354, 4613303445314885481, 6, 357, 3, 116, 97, 117, 5, 356, 4618760256179416344, 6, 359, 3, 105, 110, 102, 5, 358, 9218868437227405312, 6, 361, 3, 110, 97, 110, 5, 360, 9221120237041090560]) 0), (.bool true), (.bool false), (.str (s "math") 363)] 0), #[]⟩
noncomputable def ti (P : Params) : BT := (n (o0 P) (n (o1 P) (n (o3 P) (n (o7 P) (n (o15 P) (n (o31 P) z z) z) (n (o23 P) z z)) (n (o11 P) (n (o19 P) (n (o35 P) z z) z) (n (o27 P) z z))) (n (o5 P) (n (o9 P) (n (o17 P) (n (o33 P) z z) z) (n (o25 P) z z)) (n (o13 P) (n (o21 P) (n (o37 P) z z) z) (n (o29 P) z z)))) (n (o2 P) (n (o4 P) (n (o8 P) (n (o16 P) (n (o32 P) z z) z) (n (o24 P) z z)) (n (o12 P) (n (o20 P) (n (o36 P) z z) z) (n (o28 P) z z))) (n (o6 P) (n (o10 P) (n (o18 P) (n (o34 P) z z) z) (n (o26 P) z z)) (n (o14 P) (n (o22 P) (n (o38 P) z z) z) (n (o30 P) z z)))))
noncomputable def Xi (w : World) (os : OsState) : SharedT := ⟨ti w.params, 39, {}, #[], {}, 374, os⟩
noncomputable def li (P : Params) : List Obj := [o0 P, o1 P, o2 P, o3 P, o4 P, o5 P, o6 P, o7 P, o8 P, o9 P, o10 P, o11 P, o12 P, o13 P, o14 P, o15 P, o16 P, o17 P, o18 P, o19 P, o20 P, o21 P, o22 P, o23 P, o24 P, o25 P, o26 P, o27 P, o28 P, o29 P, o30 P, o31 P, o32 P, o33 P, o34 P, o35 P, o36 P, o37 P, o38 P]
noncomputable def Yi (w : World) (os : OsState) : Shared := ⟨⟨⟨li w.params⟩, {}⟩, #[], {}, 374, os⟩
noncomputable def o12_0 (P : Params) : Obj := ⟨(.type "dict"), none, (.dict #[k P "__name__" 288 (.str (s "math") 287), k P "__doc__" 289 (.builtin "off-the-table:math.__doc__:shared#opaque"), k P "__package__" 291 (.str (s "") 290), k P "__loader__" 292 (.builtin "off-the-table:math.__loader__:shared#opaque"), k P "__spec__" 293 (.builtin "off-the-table:math.__spec__:shared#opaque"), k P "acos" 294 (.builtin "off-the-table:math.acos:shared#opaque"), k P "acosh" 295 (.builtin "off-the-table:math.acosh:shared#opaque"), k P "asin" 296 (.builtin "off-the-table:math.asin:shared#opaque"), k P "asinh" 297 (.builtin "off-the-table:math.asinh:shared#opaque"), k P "atan" 298 (.builtin "off-the-table:math.atan:shared#opaque"), k P "atan2" 299 (.builtin "off-the-table:math.atan2:shared#opaque"), k P "atanh" 300 (.builtin "off-the-table:math.atanh:shared#opaque"), k P "cbrt" 301 (.builtin "off-the-table:math.cbrt:shared#opaque"), k P "ceil" 302 (.builtin "math.ceil"), k P "copysign" 303 (.builtin "math.copysign"), k P "cos" 304 (.builtin "off-the-table:math.cos:shared#opaque"), k P "cosh" 305 (.builtin "off-the-table:math.cosh:shared#opaque"), k P "degrees" 306 (.builtin "math.degrees"), k P "dist" 307 (.builtin "math.dist"), k P "erf" 308 (.builtin "off-the-table:math.erf:shared#opaque"), k P "erfc" 309 (.builtin "off-the-table:math.erfc:shared#opaque"), k P "exp" 310 (.builtin "off-the-table:math.exp:shared#opaque"), k P "exp2" 311 (.builtin "off-the-table:math.exp2:shared#opaque"), k P "expm1" 312 (.builtin "off-the-table:math.expm1:shared#opaque"), k P "fabs" 313 (.builtin "math.fabs"), k P "factorial" 314 (.builtin "math.factorial"), k P "floor" 315 (.builtin "math.floor"), k P "fma" 316 (.builtin "math.fma"), k P "fmod" 317 (.builtin "math.fmod"), k P "frexp" 318 (.builtin "math.frexp"), k P "fsum" 319 (.builtin "math.fsum"), k P "gamma" 320 (.builtin "off-the-table:math.gamma:shared#opaque"), k P "gcd" 321 (.builtin "math.gcd"), k P "hypot" 322 (.builtin "math.hypot"), k P "isclose" 323 (.builtin "math.isclose"), k P "isfinite" 324 (.builtin "math.isfinite"), k P "isinf" 325 (.builtin "math.isinf"), k P "isnan" 326 (.builtin "math.isnan"), k P "isqrt" 327 (.builtin "math.isqrt"), k P "lcm" 328 (.builtin "math.lcm"), k P "ldexp" 329 (.builtin "math.ldexp"), k P "lgamma" 330 (.builtin "off-the-table:math.lgamma:shared#opaque"), k P "log" 331 (.builtin "off-the-table:math.log:shared#opaque"), k P "log1p" 332 (.builtin "off-the-table:math.log1p:shared#opaque"), k P "log10" 333 (.builtin "off-the-table:math.log10:shared#opaque"), k P "log2" 334 (.builtin "off-the-table:math.log2:shared#opaque"), k P "modf" 335 (.builtin "math.modf"), k P "pow" 336 (.builtin "off-the-table:math.pow:shared#opaque"), k P "radians" 337 (.builtin "math.radians"), k P "remainder" 338 (.builtin "math.remainder"), k P "sin" 339 (.builtin "off-the-table:math.sin:shared#opaque"), k P "sinh" 340 (.builtin "off-the-table:math.sinh:shared#opaque"), k P "sqrt" 341 (.builtin "math.sqrt"), k P "tan" 342 (.builtin "off-the-table:math.tan:shared#opaque"), k P "tanh" 343 (.builtin "off-the-table:math.tanh:shared#opaque"), k P "sumprod" 344 (.builtin "math.sumprod"), k P "trunc" 345 (.builtin "math.trunc"), k P "prod" 346 (.builtin "math.prod"), k P "perm" 347 (.builtin "math.perm"), k P "comb" 348 (.builtin "math.comb"), k P "nextafter" 349 (.builtin "math.nextafter"), k P "ulp" 350 (.builtin "math.ulp"), k P "__file__" 351 (.str (u [47, 110, 105, 120, 47, 115, 116, 111, 114, 101, 47, 119, 106, 49, 102, 53, 54, 113, 107, 121, 52, 112, 109, 106, 99, 55, 108, 48, 114, 54, 98, 54, 108, 55, 119, 104, 110, 110, 119, 55, 104, 112, 54, 45, 112, 121, 116, 104, 111, 110, 51, 45, 51, 46, 49, 51, 46, 49, 53, 47, 108, 105, 98, 47, 112, 121, 116, 104, 111, 110, 51, 46, 49, 51, 47, 108, 105, 98, 45, 100, 121, 110, 108, 111, 97, 100, 47, 109, 97, 116, 104, 46, 99, 112, 121, 116, 104, 111, 110, 45, 51, 49, 51, 45, 120, 56, 54, 95, 54, 52, 45, 108, 105, 110, 117, 120, 45, 103, 110, 117, 46, 115, 111]) 187), k P "pi" 353 (.float 4614256656552045848 352), k P "e" 355 (.float 4613303445314885481 354), k P "tau" 357 (.float 4618760256179416344 356), k P "inf" 359 (.float 9218868437227405312 358), k P "nan" 361 (.float 9221120237041090560 360)] 68), #[]⟩
noncomputable def t0 (P : Params) : BT := (n (o0 P) (n (o1 P) (n (o3 P) (n (o7 P) (n (o15 P) (n (o31 P) z z) z) (n (o23 P) z z)) (n (o11 P) (n (o19 P) (n (o35 P) z z) z) (n (o27 P) z z))) (n (o5 P) (n (o9 P) (n (o17 P) (n (o33 P) z z) z) (n (o25 P) z z)) (n (o13 P) (n (o21 P) (n (o37 P) z z) z) (n (o29 P) z z)))) (n (o2 P) (n (o4 P) (n (o8 P) (n (o16 P) (n (o32 P) z z) z) (n (o24 P) z z)) (n (o12_0 P) (n (o20 P) (n (o36 P) z z) z) (n (o28 P) z z))) (n (o6 P) (n (o10 P) (n (o18 P) (n (o34 P) z z) z) (n (o26 P) z z)) (n (o14 P) (n (o22 P) (n (o38 P) z z) z) (n (o30 P) z z)))))
noncomputable def X0 (w : World) (os : OsState) : SharedT := ⟨t0 w.params, 39, {}, #[], {}, 374, os⟩
noncomputable def l0 (P : Params) : List Obj := [o0 P, o1 P, o2 P, o3 P, o4 P, o5 P, o6 P, o7 P, o8 P, o9 P, o10 P, o11 P, o12_0 P, o13 P, o14 P, o15 P, o16 P, o17 P, o18 P, o19 P, o20 P, o21 P, o22 P, o23 P, o24 P, o25 P, o26 P, o27 P, o28 P, o29 P, o30 P, o31 P, o32 P, o33 P, o34 P, o35 P, o36 P, o37 P, o38 P]
noncomputable def Y0 (w : World) (os : OsState) : Shared := ⟨⟨⟨l0 w.params⟩, {}⟩, #[], {}, 374, os⟩
noncomputable def o39 (P : Params) : Obj := ⟨(.type "tuple"), none, (.seq #[] 0), #[]⟩
noncomputable def o40 (P : Params) : Obj := ⟨.none, none, (.fields #[]), #[]⟩
noncomputable def o41 (P : Params) : Obj := ⟨(.type "code"), none, (.fields #[(.str (s "<module>") 375), (.str (s "<module>") 376), (.str (s "/claim/cut.py") 377), (.int (1) 0), (.int (0) 0), (.int (0) 0), (.int (0) 0), (.int (0) 0), (.ref 39), (.bool false), (.int (374) 0), (.ref 40), .none, .none, .none, .none, (.int (378) 0), (.int (1) 0), (.str (s "/claim/cut.py") 379)]), #[]⟩
noncomputable def o42 (P : Params) : Obj := ⟨(.type "frame"), none, .plain, #[(some (.ref 41)), (some (.ref 3)), (some (.ref 3)), none, (some (.str (s "__main__") 164)), none, (some (.ref 0))]⟩
noncomputable def ta (P : Params) : BT := (n (o0 P) (n (o1 P) (n (o3 P) (n (o7 P) (n (o15 P) (n (o31 P) z z) z) (n (o23 P) (n (o39 P) z z) z)) (n (o11 P) (n (o19 P) (n (o35 P) z z) z) (n (o27 P) z z))) (n (o5 P) (n (o9 P) (n (o17 P) (n (o33 P) z z) z) (n (o25 P) (n (o41 P) z z) z)) (n (o13 P) (n (o21 P) (n (o37 P) z z) z) (n (o29 P) z z)))) (n (o2 P) (n (o4 P) (n (o8 P) (n (o16 P) (n (o32 P) z z) z) (n (o24 P) (n (o40 P) z z) z)) (n (o12_0 P) (n (o20 P) (n (o36 P) z z) z) (n (o28 P) z z))) (n (o6 P) (n (o10 P) (n (o18 P) (n (o34 P) z z) z) (n (o26 P) (n (o42 P) z z) z)) (n (o14 P) (n (o22 P) (n (o38 P) z z) z) (n (o30 P) z z)))))
noncomputable def Xa (w : World) (os : OsState) : SharedT := ⟨ta w.params, 43, {}, #[], {}, 380, os⟩
noncomputable def tb (P : Params) : BT := (n (o0 P) (n (o1 P) (n (o3 P) (n (o7 P) (n (o15 P) (n (o31 P) z z) z) (n (o23 P) (n (o39 P) z z) z)) (n (o11 P) (n (o19 P) (n (o35 P) z z) z) (n (o27 P) z z))) (n (o5 P) (n (o9 P) (n (o17 P) (n (o33 P) z z) z) (n (o25 P) (n (o41 P) z z) z)) (n (o13 P) (n (o21 P) (n (o37 P) z z) z) (n (o29 P) z z)))) (n (o2 P) (n (o4 P) (n (o8 P) (n (o16 P) (n (o32 P) z z) z) (n (o24 P) (n (o40 P) z z) z)) (n (o12_0 P) (n (o20 P) (n (o36 P) z z) z) (n (o28 P) z z))) (n (o6 P) (n (o10 P) (n (o18 P) (n (o34 P) z z) z) (n (o26 P) (n (o42 P) z z) z)) (n (o14 P) (n (o22 P) (n (o38 P) z z) z) (n (o30 P) z z)))))
noncomputable def Xb (w : World) (os : OsState) : SharedT := ⟨tb w.params, 43, {}, #[], {}, 380, os⟩
noncomputable def o3_1 (P : Params) : Obj := ⟨(.type "dict"), none, (.dict #[k P "__name__" 165 (.str (s "likepanes.errors") 380), k P "__doc__" 166 .none, k P "__package__" 167 .none, k P "__loader__" 168 (.builtin "__main__.__loader__#opaque"), k P "__spec__" 169 .none, k P "__annotations__" 170 (.ref 6), k P "__builtins__" 171 (.ref 4), k P "__file__" 173 (.str (s "/claim/cut.py") 172), k P "__cached__" 174 .none, k P "gcd" 370 (.builtin "math.gcd"), k P "isqrt" 373 (.builtin "math.isqrt"), k P "BadValue" 399 (.ref 52), k P "InvalidText" 424 (.ref 72), k P "InvalidFraction" 449 (.ref 91), k P "NotAShape" 474 (.ref 110)] 15), #[]⟩
noncomputable def o40_1 (P : Params) : Obj := ⟨.none, none, (.fields #[(.int (3) 0), (.int (0) 0), (.ref 48), (.int (5) 0), (.int (0) 0), (.ref 61), (.int (10) 0), (.int (0) 0), (.ref 80), (.int (15) 0), (.int (0) 0), (.ref 99)]), #[]⟩
noncomputable def o43 (P : Params) : Obj := ⟨(.type "tuple"), none, (.seq #[(.type "ValueError")] 0), #[]⟩
noncomputable def o44 (P : Params) : Obj := ⟨(.type "builtin_function_or_method"), none, (.fields #[(.builtin "type.__prepare__"), (.type "type")]), #[]⟩
noncomputable def o45 (P : Params) : Obj := ⟨(.type "dict"), none, (.dict #[k P "__module__" 389 (.str (s "likepanes.errors") 380), k P "__qualname__" 391 (.str (s "BadValue") 390), k P "__firstlineno__" 393 (.int (3) 392), k P "__static_attributes__" 394 (.ref 50)] 4), #[]⟩
noncomputable def o46 (P : Params) : Obj := ⟨(.type "tuple"), none, (.seq #[] 0), #[]⟩
noncomputable def o47 (P : Params) : Obj := ⟨.none, none, (.fields #[]), #[]⟩
noncomputable def o48 (P : Params) : Obj := ⟨(.type "code"), none, (.fields #[(.str (s "BadValue") 384), (.str (s "BadValue") 385), (.str (s "/claim/cut.py") 386), (.int (3) 0), (.int (0) 0), (.int (0) 0), (.int (0) 0), (.int (0) 0), (.ref 46), (.bool false), (.int (374) 0), (.ref 47), .none, .none, .none, .none, (.int (387) 0), (.int (3) 0), (.str (s "/claim/cut.py") 388)]), #[]⟩
noncomputable def o49 (P : Params) : Obj := ⟨(.type "frame"), none, .plain, #[(some (.ref 48)), (some (.ref 3)), (some (.ref 45)), none, (some (.str (s "likepanes.errors") 380)), none, (some (.ref 0))]⟩
noncomputable def o50 (P : Params) : Obj := ⟨(.type "tuple"), none, (.seq #[] 0), #[]⟩
noncomputable def o51 (P : Params) : Obj := ⟨(.type "dict"), none, (.dict #[k P "__module__" 389 (.str (s "likepanes.errors") 380), k P "__firstlineno__" 393 (.int (3) 392), k P "__static_attributes__" 394 (.ref 50), k P "__weakref__" 396 (.ref 53), k P "__doc__" 397 .none] 3), #[]⟩
noncomputable def o52 (P : Params) : Obj := ⟨(.type "type"), none, (.cls ⟨(s "BadValue"), [(.type "ValueError")], [(.ref 52), (.type "ValueError"), (.type "Exception"), (.type "BaseException"), (.type "object")], 51, (s "BadValue"), true, [], [(.ref 72), (.ref 91), (.ref 110)], false, none, false⟩), #[(some (.ref 43)), none, (some (.str (s "BadValue") 382)), (some (.str (s "BadValue") 390)), (some (.builtin "ValueError.__new__")), (some (.bool true))]⟩
noncomputable def o53 (P : Params) : Obj := ⟨(.type "getset_descriptor"), none, (.fields #[(.str (s "__weakref__") 395), (.ref 52), (.builtin "ExceptionGroup.__weakref__"), .none]), #[]⟩
noncomputable def o54 (P : Params) : Obj := ⟨(.type "super"), none, (.fields #[(.ref 52), (.ref 52), (.ref 52)]), #[]⟩
noncomputable def o55 (P : Params) : Obj := ⟨(.type "builtin_function_or_method"), none, (.fields #[(.builtin "object.__init_subclass__"), (.ref 52)]), #[]⟩
noncomputable def o56 (P : Params) : Obj := ⟨(.type "tuple"), none, (.seq #[(.ref 52)] 0), #[]⟩
noncomputable def o57 (P : Params) : Obj := ⟨(.type "builtin_function_or_method"), none, (.fields #[(.builtin "type.__prepare__"), (.type "type")]), #[]⟩
noncomputable def o58 (P : Params) : Obj := ⟨(.type "dict"), none, (.dict #[k P "__module__" 407 (.str (s "likepanes.errors") 380), k P "__qualname__" 409 (.str (s "InvalidText") 408), k P "__firstlineno__" 411 (.int (5) 410), k P "__init__" 419 (.ref 69), k P "__static_attributes__" 421 (.ref 70)] 5), #[]⟩
noncomputable def o59 (P : Params) : Obj := ⟨(.type "tuple"), none, (.seq #[] 0), #[]⟩
noncomputable def o60 (P : Params) : Obj := ⟨.none, none, (.fields #[(.int (7) 0), (.int (4) 0), (.ref 68)]), #[]⟩
noncomputable def o61 (P : Params) : Obj := ⟨(.type "code"), none, (.fields #[(.str (s "InvalidText") 402), (.str (s "InvalidText") 403), (.str (s "/claim/cut.py") 404), (.int (5) 0), (.int (0) 0), (.int (0) 0), (.int (0) 0), (.int (0) 0), (.ref 59), (.bool false), (.int (374) 0), (.ref 60), .none, .none, .none, .none, (.int (405) 0), (.int (5) 0), (.str (s "/claim/cut.py") 406)]), #[]⟩
noncomputable def o62 (P : Params) : Obj := ⟨(.type "frame"), none, .plain, #[(some (.ref 61)), (some (.ref 3)), (some (.ref 58)), none, (some (.str (s "likepanes.errors") 380)), none, (some (.ref 0))]⟩
noncomputable def o63 (P : Params) : Obj := ⟨(.type "tuple"), none, (.seq #[] 0), #[]⟩
noncomputable def o64 (P : Params) : Obj := ⟨.none, none, (.fields #[]), #[]⟩
noncomputable def o65 (P : Params) : Obj := ⟨(.type "tuple"), none, (.seq #[(.str (s "self") 415), (.str (s "given") 416)] 0), #[]⟩
noncomputable def o66 (P : Params) : Obj := ⟨(.type "tuple"), none, (.seq #[] 0), #[]⟩
noncomputable def o67 (P : Params) : Obj := ⟨.none, none, (.func (fn (L2.inClass (hT 3) 0) (s "__init__") (s "InvalidText.__init__") 0 [] .none .none .none .none none .none .none 0)), #[]⟩
noncomputable def o68 (P : Params) : Obj := ⟨(.type "code"), none, (.fields #[(.str (s "__init__") 412), (.str (s "InvalidText.__init__") 413), (.str (s "/claim/cut.py") 414), (.int (7) 0), (.int (2) 0), (.int (0) 0), (.int (0) 0), (.int (3) 0), (.ref 63), (.bool true), (.int (374) 0), (.ref 64), .none, (.ref 65), (.ref 66), (.ref 67), (.int (417) 0), (.int (7) 0), (.str (s "/claim/cut.py") 418)]), #[]⟩
noncomputable def o69 (P : Params) : Obj := ⟨(.type "function"), none, (.func (fn (L2.inClass (hT 3) 0) (s "__init__") (s "InvalidText.__init__") 3 [] .none .none .none (.str (s "likepanes.errors") 380) none (.ref 68) .none 0)), #[]⟩
noncomputable def o70 (P : Params) : Obj := ⟨(.type "tuple"), none, (.seq #[(.str (s "given") 420)] 0), #[]⟩
noncomputable def o71 (P : Params) : Obj := ⟨(.type "dict"), none, (.dict #[k P "__module__" 407 (.str (s "likepanes.errors") 380), k P "__firstlineno__" 411 (.int (5) 410), k P "__init__" 419 (.ref 69), k P "__static_attributes__" 421 (.ref 70), k P "__doc__" 422 .none] 2), #[]⟩
noncomputable def o72 (P : Params) : Obj := ⟨(.type "type"), none, (.cls ⟨(s "InvalidText"), [(.ref 52)], [(.ref 72), (.ref 52), (.type "ValueError"), (.type "Exception"), (.type "BaseException"), (.type "object")], 71, (s "InvalidText"), true, [], [], false, none, false⟩), #[(some (.ref 56)), none, (some (.str (s "InvalidText") 400)), (some (.str (s "InvalidText") 408)), (some (.builtin "ValueError.__new__")), (some (.bool true))]⟩
noncomputable def o73 (P : Params) : Obj := ⟨(.type "super"), none, (.fields #[(.ref 72), (.ref 72), (.ref 72)]), #[]⟩
noncomputable def o74 (P : Params) : Obj := ⟨(.type "builtin_function_or_method"), none, (.fields #[(.builtin "object.__init_subclass__"), (.ref 72)]), #[]⟩
noncomputable def o75 (P : Params) : Obj := ⟨(.type "tuple"), none, (.seq #[(.ref 52)] 0), #[]⟩
noncomputable def o76 (P : Params) : Obj := ⟨(.type "builtin_function_or_method"), none, (.fields #[(.builtin "type.__prepare__"), (.type "type")]), #[]⟩
noncomputable def o77 (P : Params) : Obj := ⟨(.type "dict"), none, (.dict #[k P "__module__" 432 (.str (s "likepanes.errors") 380), k P "__qualname__" 434 (.str (s "InvalidFraction") 433), k P "__firstlineno__" 436 (.int (10) 435), k P "__init__" 444 (.ref 88), k P "__static_attributes__" 446 (.ref 89)] 5), #[]⟩
noncomputable def o78 (P : Params) : Obj := ⟨(.type "tuple"), none, (.seq #[] 0), #[]⟩
noncomputable def o79 (P : Params) : Obj := ⟨.none, none, (.fields #[(.int (12) 0), (.int (4) 0), (.ref 87)]), #[]⟩
noncomputable def o80 (P : Params) : Obj := ⟨(.type "code"), none, (.fields #[(.str (s "InvalidFraction") 427), (.str (s "InvalidFraction") 428), (.str (s "/claim/cut.py") 429), (.int (10) 0), (.int (0) 0), (.int (0) 0), (.int (0) 0), (.int (0) 0), (.ref 78), (.bool false), (.int (374) 0), (.ref 79), .none, .none, .none, .none, (.int (430) 0), (.int (10) 0), (.str (s "/claim/cut.py") 431)]), #[]⟩
noncomputable def o81 (P : Params) : Obj := ⟨(.type "frame"), none, .plain, #[(some (.ref 80)), (some (.ref 3)), (some (.ref 77)), none, (some (.str (s "likepanes.errors") 380)), none, (some (.ref 0))]⟩
noncomputable def o82 (P : Params) : Obj := ⟨(.type "tuple"), none, (.seq #[] 0), #[]⟩
noncomputable def o83 (P : Params) : Obj := ⟨.none, none, (.fields #[]), #[]⟩
noncomputable def o84 (P : Params) : Obj := ⟨(.type "tuple"), none, (.seq #[(.str (s "self") 440), (.str (s "given") 441)] 0), #[]⟩
noncomputable def o85 (P : Params) : Obj := ⟨(.type "tuple"), none, (.seq #[] 0), #[]⟩
noncomputable def o86 (P : Params) : Obj := ⟨.none, none, (.func (fn (L2.inClass (hT 4) 0) (s "__init__") (s "InvalidFraction.__init__") 0 [] .none .none .none .none none .none .none 0)), #[]⟩
noncomputable def o87 (P : Params) : Obj := ⟨(.type "code"), none, (.fields #[(.str (s "__init__") 437), (.str (s "InvalidFraction.__init__") 438), (.str (s "/claim/cut.py") 439), (.int (12) 0), (.int (2) 0), (.int (0) 0), (.int (0) 0), (.int (3) 0), (.ref 82), (.bool true), (.int (374) 0), (.ref 83), .none, (.ref 84), (.ref 85), (.ref 86), (.int (442) 0), (.int (12) 0), (.str (s "/claim/cut.py") 443)]), #[]⟩
noncomputable def o88 (P : Params) : Obj := ⟨(.type "function"), none, (.func (fn (L2.inClass (hT 4) 0) (s "__init__") (s "InvalidFraction.__init__") 3 [] .none .none .none (.str (s "likepanes.errors") 380) none (.ref 87) .none 0)), #[]⟩
noncomputable def o89 (P : Params) : Obj := ⟨(.type "tuple"), none, (.seq #[(.str (s "given") 445)] 0), #[]⟩
noncomputable def o90 (P : Params) : Obj := ⟨(.type "dict"), none, (.dict #[k P "__module__" 432 (.str (s "likepanes.errors") 380), k P "__firstlineno__" 436 (.int (10) 435), k P "__init__" 444 (.ref 88), k P "__static_attributes__" 446 (.ref 89), k P "__doc__" 447 .none] 2), #[]⟩
noncomputable def o91 (P : Params) : Obj := ⟨(.type "type"), none, (.cls ⟨(s "InvalidFraction"), [(.ref 52)], [(.ref 91), (.ref 52), (.type "ValueError"), (.type "Exception"), (.type "BaseException"), (.type "object")], 90, (s "InvalidFraction"), true, [], [], false, none, false⟩), #[(some (.ref 75)), none, (some (.str (s "InvalidFraction") 425)), (some (.str (s "InvalidFraction") 433)), (some (.builtin "ValueError.__new__")), (some (.bool true))]⟩
noncomputable def o92 (P : Params) : Obj := ⟨(.type "super"), none, (.fields #[(.ref 91), (.ref 91), (.ref 91)]), #[]⟩
noncomputable def o93 (P : Params) : Obj := ⟨(.type "builtin_function_or_method"), none, (.fields #[(.builtin "object.__init_subclass__"), (.ref 91)]), #[]⟩
noncomputable def o94 (P : Params) : Obj := ⟨(.type "tuple"), none, (.seq #[(.ref 52)] 0), #[]⟩
noncomputable def o95 (P : Params) : Obj := ⟨(.type "builtin_function_or_method"), none, (.fields #[(.builtin "type.__prepare__"), (.type "type")]), #[]⟩
noncomputable def o96 (P : Params) : Obj := ⟨(.type "dict"), none, (.dict #[k P "__module__" 457 (.str (s "likepanes.errors") 380), k P "__qualname__" 459 (.str (s "NotAShape") 458), k P "__firstlineno__" 461 (.int (15) 460), k P "__init__" 469 (.ref 107), k P "__static_attributes__" 471 (.ref 108)] 5), #[]⟩
noncomputable def o97 (P : Params) : Obj := ⟨(.type "tuple"), none, (.seq #[] 0), #[]⟩
noncomputable def o98 (P : Params) : Obj := ⟨.none, none, (.fields #[(.int (17) 0), (.int (4) 0), (.ref 106)]), #[]⟩
noncomputable def o99 (P : Params) : Obj := ⟨(.type "code"), none, (.fields #[(.str (s "NotAShape") 452), (.str (s "NotAShape") 453), (.str (s "/claim/cut.py") 454), (.int (15) 0), (.int (0) 0), (.int (0) 0), (.int (0) 0), (.int (0) 0), (.ref 97), (.bool false), (.int (374) 0), (.ref 98), .none, .none, .none, .none, (.int (455) 0), (.int (15) 0), (.str (s "/claim/cut.py") 456)]), #[]⟩
noncomputable def o100 (P : Params) : Obj := ⟨(.type "frame"), none, .plain, #[(some (.ref 99)), (some (.ref 3)), (some (.ref 96)), none, (some (.str (s "likepanes.errors") 380)), none, (some (.ref 0))]⟩
noncomputable def o101 (P : Params) : Obj := ⟨(.type "tuple"), none, (.seq #[] 0), #[]⟩
noncomputable def o102 (P : Params) : Obj := ⟨.none, none, (.fields #[]), #[]⟩
noncomputable def o103 (P : Params) : Obj := ⟨(.type "tuple"), none, (.seq #[(.str (s "self") 465), (.str (s "given") 466)] 0), #[]⟩
noncomputable def o104 (P : Params) : Obj := ⟨(.type "tuple"), none, (.seq #[] 0), #[]⟩
noncomputable def o105 (P : Params) : Obj := ⟨.none, none, (.func (fn (L2.inClass (hT 5) 0) (s "__init__") (s "NotAShape.__init__") 0 [] .none .none .none .none none .none .none 0)), #[]⟩
noncomputable def o106 (P : Params) : Obj := ⟨(.type "code"), none, (.fields #[(.str (s "__init__") 462), (.str (s "NotAShape.__init__") 463), (.str (s "/claim/cut.py") 464), (.int (17) 0), (.int (2) 0), (.int (0) 0), (.int (0) 0), (.int (3) 0), (.ref 101), (.bool true), (.int (374) 0), (.ref 102), .none, (.ref 103), (.ref 104), (.ref 105), (.int (467) 0), (.int (17) 0), (.str (s "/claim/cut.py") 468)]), #[]⟩
noncomputable def o107 (P : Params) : Obj := ⟨(.type "function"), none, (.func (fn (L2.inClass (hT 5) 0) (s "__init__") (s "NotAShape.__init__") 3 [] .none .none .none (.str (s "likepanes.errors") 380) none (.ref 106) .none 0)), #[]⟩
noncomputable def o108 (P : Params) : Obj := ⟨(.type "tuple"), none, (.seq #[(.str (s "given") 470)] 0), #[]⟩
noncomputable def o109 (P : Params) : Obj := ⟨(.type "dict"), none, (.dict #[k P "__module__" 457 (.str (s "likepanes.errors") 380), k P "__firstlineno__" 461 (.int (15) 460), k P "__init__" 469 (.ref 107), k P "__static_attributes__" 471 (.ref 108), k P "__doc__" 472 .none] 2), #[]⟩
noncomputable def o110 (P : Params) : Obj := ⟨(.type "type"), none, (.cls ⟨(s "NotAShape"), [(.ref 52)], [(.ref 110), (.ref 52), (.type "ValueError"), (.type "Exception"), (.type "BaseException"), (.type "object")], 109, (s "NotAShape"), true, [], [], false, none, false⟩), #[(some (.ref 94)), none, (some (.str (s "NotAShape") 450)), (some (.str (s "NotAShape") 458)), (some (.builtin "ValueError.__new__")), (some (.bool true))]⟩
noncomputable def o111 (P : Params) : Obj := ⟨(.type "super"), none, (.fields #[(.ref 110), (.ref 110), (.ref 110)]), #[]⟩
noncomputable def o112 (P : Params) : Obj := ⟨(.type "builtin_function_or_method"), none, (.fields #[(.builtin "object.__init_subclass__"), (.ref 110)]), #[]⟩
noncomputable def t1 (P : Params) : BT := (n (o0 P) (n (o1 P) (n (o3_1 P) (n (o7 P) (n (o15 P) (n (o31 P) (n (o63 P) z z) (n (o95 P) z z)) (n (o47 P) (n (o79 P) z z) (n (o111 P) z z))) (n (o23 P) (n (o39 P) (n (o71 P) z z) (n (o103 P) z z)) (n (o55 P) (n (o87 P) z z) z))) (n (o11 P) (n (o19 P) (n (o35 P) (n (o67 P) z z) (n (o99 P) z z)) (n (o51 P) (n (o83 P) z z) z)) (n (o27 P) (n (o43 P) (n (o75 P) z z) (n (o107 P) z z)) (n (o59 P) (n (o91 P) z z) z)))) (n (o5 P) (n (o9 P) (n (o17 P) (n (o33 P) (n (o65 P) z z) (n (o97 P) z z)) (n (o49 P) (n (o81 P) z z) z)) (n (o25 P) (n (o41 P) (n (o73 P) z z) (n (o105 P) z z)) (n (o57 P) (n (o89 P) z z) z))) (n (o13 P) (n (o21 P) (n (o37 P) (n (o69 P) z z) (n (o101 P) z z)) (n (o53 P) (n (o85 P) z z) z)) (n (o29 P) (n (o45 P) (n (o77 P) z z) (n (o109 P) z z)) (n (o61 P) (n (o93 P) z z) z))))) (n (o2 P) (n (o4 P) (n (o8 P) (n (o16 P) (n (o32 P) (n (o64 P) z z) (n (o96 P) z z)) (n (o48 P) (n (o80 P) z z) (n (o112 P) z z))) (n (o24 P) (n (o40_1 P) (n (o72 P) z z) (n (o104 P) z z)) (n (o56 P) (n (o88 P) z z) z))) (n (o12_0 P) (n (o20 P) (n (o36 P) (n (o68 P) z z) (n (o100 P) z z)) (n (o52 P) (n (o84 P) z z) z)) (n (o28 P) (n (o44 P) (n (o76 P) z z) (n (o108 P) z z)) (n (o60 P) (n (o92 P) z z) z)))) (n (o6 P) (n (o10 P) (n (o18 P) (n (o34 P) (n (o66 P) z z) (n (o98 P) z z)) (n (o50 P) (n (o82 P) z z) z)) (n (o26 P) (n (o42 P) (n (o74 P) z z) (n (o106 P) z z)) (n (o58 P) (n (o90 P) z z) z))) (n (o14 P) (n (o22 P) (n (o38 P) (n (o70 P) z z) (n (o102 P) z z)) (n (o54 P) (n (o86 P) z z) z)) (n (o30 P) (n (o46 P) (n (o78 P) z z) (n (o110 P) z z)) (n (o62 P) (n (o94 P) z z) z))))))
noncomputable def X1 (w : World) (os : OsState) : SharedT := ⟨t1 w.params, 113, {}, #[], {}, 475, os⟩
noncomputable def o2_2 (P : Params) : Obj := ⟨.none, none, (.dict #[ku P (u [105, 109, 112, 111, 114, 116, 46, 108, 111, 97, 100, 101, 100, 46, 109, 97, 116, 104]) 186 (.bool true), k P "class._frozen_importlib_external._LoaderBasics" 191 (.ref 16), ku P (u [119, 97, 116, 99, 104, 101, 100, 46, 105, 109, 112, 111, 114, 116]) 207 (.ref 20), k P "class._frozen_importlib_external.FileLoader" 208 (.ref 22), k P "class._frozen_importlib_external.ExtensionFileLoader" 229 (.ref 27), k P "class._frozen_importlib.ModuleSpec" 257 (.ref 33), k P "sys.modules.booked-epoch" 286 (.int (3) 0), ku P (u [105, 109, 112, 111, 114, 116, 46, 108, 97, 116, 101, 114, 45, 108, 97, 105, 100, 46, 109, 97, 116, 104]) 362 (.bool true), k P "watched.library" 364 (.ref 38), k P "watched.library-objects" 0 (.str (u [13]) 0), k P "type.__subclasses__.ArithmeticError.0" 516 (.int (141) 0), k P "type.__subclasses__.ArithmeticError.n" 517 (.int (1) 0)] 12), #[]⟩
noncomputable def o3_2 (P : Params) : Obj := ⟨(.type "dict"), none, (.dict #[k P "__name__" 165 (.str (s "likepanes.terms") 568), k P "__doc__" 166 .none, k P "__package__" 167 .none, k P "__loader__" 168 (.builtin "__main__.__loader__#opaque"), k P "__spec__" 169 .none, k P "__annotations__" 170 (.ref 6), k P "__builtins__" 171 (.ref 4), k P "__file__" 173 (.str (s "/claim/cut.py") 172), k P "__cached__" 174 .none, k P "gcd" 370 (.builtin "math.gcd"), k P "isqrt" 373 (.builtin "math.isqrt"), k P "BadValue" 399 (.ref 52), k P "InvalidText" 424 (.ref 72), k P "InvalidFraction" 449 (.ref 91), k P "NotAShape" 474 (.ref 110), k P "InvalidEquation" 499 (.ref 129), k P "NoAnswer" 519 (.ref 141), k P "NoRoot" 542 (.ref 161), k P "TooMany" 567 (.ref 180), k P "trimmed" 577 (.ref 189), k P "common_divisor" 586 (.ref 196)] 21), #[]⟩
noncomputable def o40_2 (P : Params) : Obj := ⟨.none, none, (.fields #[(.int (3) 0), (.int (0) 0), (.ref 48), (.int (5) 0), (.int (0) 0), (.ref 61), (.int (10) 0), (.int (0) 0), (.ref 80), (.int (15) 0), (.int (0) 0), (.ref 99), (.int (20) 0), (.int (0) 0), (.ref 118), (.int (25) 0), (.int (0) 0), (.ref 137), (.int (27) 0), (.int (0) 0), (.ref 150), (.int (31) 0), (.int (0) 0), (.ref 169), (.int (37) 0), (.int (0) 0), (.ref 188), (.int (42) 0), (.int (0) 0), (.ref 195)]), #[]⟩
noncomputable def o52_2 (P : Params) : Obj := ⟨(.type "type"), none, (.cls ⟨(s "BadValue"), [(.type "ValueError")], [(.ref 52), (.type "ValueError"), (.type "Exception"), (.type "BaseException"), (.type "object")], 51, (s "BadValue"), true, [], [(.ref 72), (.ref 91), (.ref 110), (.ref 129)], false, none, false⟩), #[(some (.ref 43)), none, (some (.str (s "BadValue") 382)), (some (.str (s "BadValue") 390)), (some (.builtin "ValueError.__new__")), (some (.bool true))]⟩
noncomputable def o113 (P : Params) : Obj := ⟨(.type "tuple"), none, (.seq #[(.ref 52)] 0), #[]⟩
noncomputable def o114 (P : Params) : Obj := ⟨(.type "builtin_function_or_method"), none, (.fields #[(.builtin "type.__prepare__"), (.type "type")]), #[]⟩
noncomputable def o115 (P : Params) : Obj := ⟨(.type "dict"), none, (.dict #[k P "__module__" 482 (.str (s "likepanes.errors") 380), k P "__qualname__" 484 (.str (s "InvalidEquation") 483), k P "__firstlineno__" 486 (.int (20) 485), k P "__init__" 494 (.ref 126), k P "__static_attributes__" 496 (.ref 127)] 5), #[]⟩
noncomputable def o116 (P : Params) : Obj := ⟨(.type "tuple"), none, (.seq #[] 0), #[]⟩
noncomputable def o117 (P : Params) : Obj := ⟨.none, none, (.fields #[(.int (22) 0), (.int (4) 0), (.ref 125)]), #[]⟩
noncomputable def o118 (P : Params) : Obj := ⟨(.type "code"), none, (.fields #[(.str (s "InvalidEquation") 477), (.str (s "InvalidEquation") 478), (.str (s "/claim/cut.py") 479), (.int (20) 0), (.int (0) 0), (.int (0) 0), (.int (0) 0), (.int (0) 0), (.ref 116), (.bool false), (.int (374) 0), (.ref 117), .none, .none, .none, .none, (.int (480) 0), (.int (20) 0), (.str (s "/claim/cut.py") 481)]), #[]⟩
noncomputable def o119 (P : Params) : Obj := ⟨(.type "frame"), none, .plain, #[(some (.ref 118)), (some (.ref 3)), (some (.ref 115)), none, (some (.str (s "likepanes.errors") 380)), none, (some (.ref 0))]⟩
noncomputable def o120 (P : Params) : Obj := ⟨(.type "tuple"), none, (.seq #[] 0), #[]⟩
noncomputable def o121 (P : Params) : Obj := ⟨.none, none, (.fields #[]), #[]⟩
noncomputable def o122 (P : Params) : Obj := ⟨(.type "tuple"), none, (.seq #[(.str (s "self") 490), (.str (s "index") 491)] 0), #[]⟩
noncomputable def o123 (P : Params) : Obj := ⟨(.type "tuple"), none, (.seq #[] 0), #[]⟩
noncomputable def o124 (P : Params) : Obj := ⟨.none, none, (.func (fn (L2.inClass (hT 6) 0) (s "__init__") (s "InvalidEquation.__init__") 0 [] .none .none .none .none none .none .none 0)), #[]⟩
noncomputable def o125 (P : Params) : Obj := ⟨(.type "code"), none, (.fields #[(.str (s "__init__") 487), (.str (s "InvalidEquation.__init__") 488), (.str (s "/claim/cut.py") 489), (.int (22) 0), (.int (2) 0), (.int (0) 0), (.int (0) 0), (.int (3) 0), (.ref 120), (.bool true), (.int (374) 0), (.ref 121), .none, (.ref 122), (.ref 123), (.ref 124), (.int (492) 0), (.int (22) 0), (.str (s "/claim/cut.py") 493)]), #[]⟩
noncomputable def o126 (P : Params) : Obj := ⟨(.type "function"), none, (.func (fn (L2.inClass (hT 6) 0) (s "__init__") (s "InvalidEquation.__init__") 3 [] .none .none .none (.str (s "likepanes.errors") 380) none (.ref 125) .none 0)), #[]⟩
noncomputable def o127 (P : Params) : Obj := ⟨(.type "tuple"), none, (.seq #[(.str (s "index") 495)] 0), #[]⟩
noncomputable def o128 (P : Params) : Obj := ⟨(.type "dict"), none, (.dict #[k P "__module__" 482 (.str (s "likepanes.errors") 380), k P "__firstlineno__" 486 (.int (20) 485), k P "__init__" 494 (.ref 126), k P "__static_attributes__" 496 (.ref 127), k P "__doc__" 497 .none] 2), #[]⟩
noncomputable def o129 (P : Params) : Obj := ⟨(.type "type"), none, (.cls ⟨(s "InvalidEquation"), [(.ref 52)], [(.ref 129), (.ref 52), (.type "ValueError"), (.type "Exception"), (.type "BaseException"), (.type "object")], 128, (s "InvalidEquation"), true, [], [], false, none, false⟩), #[(some (.ref 113)), none, (some (.str (s "InvalidEquation") 475)), (some (.str (s "InvalidEquation") 483)), (some (.builtin "ValueError.__new__")), (some (.bool true))]⟩
noncomputable def o130 (P : Params) : Obj := ⟨(.type "super"), none, (.fields #[(.ref 129), (.ref 129), (.ref 129)]), #[]⟩
noncomputable def o131 (P : Params) : Obj := ⟨(.type "builtin_function_or_method"), none, (.fields #[(.builtin "object.__init_subclass__"), (.ref 129)]), #[]⟩
noncomputable def o132 (P : Params) : Obj := ⟨(.type "tuple"), none, (.seq #[(.type "ArithmeticError")] 0), #[]⟩
noncomputable def o133 (P : Params) : Obj := ⟨(.type "builtin_function_or_method"), none, (.fields #[(.builtin "type.__prepare__"), (.type "type")]), #[]⟩
noncomputable def o134 (P : Params) : Obj := ⟨(.type "dict"), none, (.dict #[k P "__module__" 507 (.str (s "likepanes.errors") 380), k P "__qualname__" 509 (.str (s "NoAnswer") 508), k P "__firstlineno__" 511 (.int (25) 510), k P "__static_attributes__" 512 (.ref 139)] 4), #[]⟩
noncomputable def o135 (P : Params) : Obj := ⟨(.type "tuple"), none, (.seq #[] 0), #[]⟩
noncomputable def o136 (P : Params) : Obj := ⟨.none, none, (.fields #[]), #[]⟩
noncomputable def o137 (P : Params) : Obj := ⟨(.type "code"), none, (.fields #[(.str (s "NoAnswer") 502), (.str (s "NoAnswer") 503), (.str (s "/claim/cut.py") 504), (.int (25) 0), (.int (0) 0), (.int (0) 0), (.int (0) 0), (.int (0) 0), (.ref 135), (.bool false), (.int (374) 0), (.ref 136), .none, .none, .none, .none, (.int (505) 0), (.int (25) 0), (.str (s "/claim/cut.py") 506)]), #[]⟩
noncomputable def o138 (P : Params) : Obj := ⟨(.type "frame"), none, .plain, #[(some (.ref 137)), (some (.ref 3)), (some (.ref 134)), none, (some (.str (s "likepanes.errors") 380)), none, (some (.ref 0))]⟩
noncomputable def o139 (P : Params) : Obj := ⟨(.type "tuple"), none, (.seq #[] 0), #[]⟩
noncomputable def o140 (P : Params) : Obj := ⟨(.type "dict"), none, (.dict #[k P "__module__" 507 (.str (s "likepanes.errors") 380), k P "__firstlineno__" 511 (.int (25) 510), k P "__static_attributes__" 512 (.ref 139), k P "__weakref__" 514 (.ref 142), k P "__doc__" 515 .none] 3), #[]⟩
noncomputable def o141 (P : Params) : Obj := ⟨(.type "type"), none, (.cls ⟨(s "NoAnswer"), [(.type "ArithmeticError")], [(.ref 141), (.type "ArithmeticError"), (.type "Exception"), (.type "BaseException"), (.type "object")], 140, (s "NoAnswer"), true, [], [(.ref 161), (.ref 180)], false, none, false⟩), #[(some (.ref 132)), none, (some (.str (s "NoAnswer") 500)), (some (.str (s "NoAnswer") 508)), (some (.builtin "ArithmeticError.__new__")), (some (.bool true))]⟩
noncomputable def o142 (P : Params) : Obj := ⟨(.type "getset_descriptor"), none, (.fields #[(.str (s "__weakref__") 513), (.ref 141), (.builtin "ExceptionGroup.__weakref__"), .none]), #[]⟩
noncomputable def o143 (P : Params) : Obj := ⟨(.type "super"), none, (.fields #[(.ref 141), (.ref 141), (.ref 141)]), #[]⟩
noncomputable def o144 (P : Params) : Obj := ⟨(.type "builtin_function_or_method"), none, (.fields #[(.builtin "object.__init_subclass__"), (.ref 141)]), #[]⟩
noncomputable def o145 (P : Params) : Obj := ⟨(.type "tuple"), none, (.seq #[(.ref 141)] 0), #[]⟩
noncomputable def o146 (P : Params) : Obj := ⟨(.type "builtin_function_or_method"), none, (.fields #[(.builtin "type.__prepare__"), (.type "type")]), #[]⟩
noncomputable def o147 (P : Params) : Obj := ⟨(.type "dict"), none, (.dict #[k P "__module__" 527 (.str (s "likepanes.errors") 380), k P "__qualname__" 529 (.str (s "NoRoot") 528), k P "__firstlineno__" 531 (.int (27) 530), k P "__init__" 538 (.ref 158), k P "__static_attributes__" 539 (.ref 159)] 5), #[]⟩
noncomputable def o148 (P : Params) : Obj := ⟨(.type "tuple"), none, (.seq #[] 0), #[]⟩
noncomputable def o149 (P : Params) : Obj := ⟨.none, none, (.fields #[(.int (29) 0), (.int (4) 0), (.ref 157)]), #[]⟩
noncomputable def o150 (P : Params) : Obj := ⟨(.type "code"), none, (.fields #[(.str (s "NoRoot") 522), (.str (s "NoRoot") 523), (.str (s "/claim/cut.py") 524), (.int (27) 0), (.int (0) 0), (.int (0) 0), (.int (0) 0), (.int (0) 0), (.ref 148), (.bool false), (.int (374) 0), (.ref 149), .none, .none, .none, .none, (.int (525) 0), (.int (27) 0), (.str (s "/claim/cut.py") 526)]), #[]⟩
noncomputable def o151 (P : Params) : Obj := ⟨(.type "frame"), none, .plain, #[(some (.ref 150)), (some (.ref 3)), (some (.ref 147)), none, (some (.str (s "likepanes.errors") 380)), none, (some (.ref 0))]⟩
noncomputable def o152 (P : Params) : Obj := ⟨(.type "tuple"), none, (.seq #[] 0), #[]⟩
noncomputable def o153 (P : Params) : Obj := ⟨.none, none, (.fields #[]), #[]⟩
noncomputable def o154 (P : Params) : Obj := ⟨(.type "tuple"), none, (.seq #[(.str (s "self") 535)] 0), #[]⟩
noncomputable def o155 (P : Params) : Obj := ⟨(.type "tuple"), none, (.seq #[] 0), #[]⟩
noncomputable def o156 (P : Params) : Obj := ⟨.none, none, (.func (fn (L2.inClass (hT 8) 0) (s "__init__") (s "NoRoot.__init__") 0 [] .none .none .none .none none .none .none 0)), #[]⟩
noncomputable def o157 (P : Params) : Obj := ⟨(.type "code"), none, (.fields #[(.str (s "__init__") 532), (.str (s "NoRoot.__init__") 533), (.str (s "/claim/cut.py") 534), (.int (29) 0), (.int (1) 0), (.int (0) 0), (.int (0) 0), (.int (3) 0), (.ref 152), (.bool true), (.int (374) 0), (.ref 153), .none, (.ref 154), (.ref 155), (.ref 156), (.int (536) 0), (.int (29) 0), (.str (s "/claim/cut.py") 537)]), #[]⟩
noncomputable def o158 (P : Params) : Obj := ⟨(.type "function"), none, (.func (fn (L2.inClass (hT 8) 0) (s "__init__") (s "NoRoot.__init__") 3 [] .none .none .none (.str (s "likepanes.errors") 380) none (.ref 157) .none 0)), #[]⟩
noncomputable def o159 (P : Params) : Obj := ⟨(.type "tuple"), none, (.seq #[] 0), #[]⟩
noncomputable def o160 (P : Params) : Obj := ⟨(.type "dict"), none, (.dict #[k P "__module__" 527 (.str (s "likepanes.errors") 380), k P "__firstlineno__" 531 (.int (27) 530), k P "__init__" 538 (.ref 158), k P "__static_attributes__" 539 (.ref 159), k P "__doc__" 540 .none] 2), #[]⟩
noncomputable def o161 (P : Params) : Obj := ⟨(.type "type"), none, (.cls ⟨(s "NoRoot"), [(.ref 141)], [(.ref 161), (.ref 141), (.type "ArithmeticError"), (.type "Exception"), (.type "BaseException"), (.type "object")], 160, (s "NoRoot"), true, [], [], false, none, false⟩), #[(some (.ref 145)), none, (some (.str (s "NoRoot") 520)), (some (.str (s "NoRoot") 528)), (some (.builtin "ArithmeticError.__new__")), (some (.bool true))]⟩
noncomputable def o162 (P : Params) : Obj := ⟨(.type "super"), none, (.fields #[(.ref 161), (.ref 161), (.ref 161)]), #[]⟩
noncomputable def o163 (P : Params) : Obj := ⟨(.type "builtin_function_or_method"), none, (.fields #[(.builtin "object.__init_subclass__"), (.ref 161)]), #[]⟩
noncomputable def o164 (P : Params) : Obj := ⟨(.type "tuple"), none, (.seq #[(.ref 141)] 0), #[]⟩
noncomputable def o165 (P : Params) : Obj := ⟨(.type "builtin_function_or_method"), none, (.fields #[(.builtin "type.__prepare__"), (.type "type")]), #[]⟩
noncomputable def o166 (P : Params) : Obj := ⟨(.type "dict"), none, (.dict #[k P "__module__" 550 (.str (s "likepanes.errors") 380), k P "__qualname__" 552 (.str (s "TooMany") 551), k P "__firstlineno__" 554 (.int (31) 553), k P "__init__" 562 (.ref 177), k P "__static_attributes__" 564 (.ref 178)] 5), #[]⟩
noncomputable def o167 (P : Params) : Obj := ⟨(.type "tuple"), none, (.seq #[] 0), #[]⟩
noncomputable def o168 (P : Params) : Obj := ⟨.none, none, (.fields #[(.int (33) 0), (.int (4) 0), (.ref 176)]), #[]⟩
noncomputable def o169 (P : Params) : Obj := ⟨(.type "code"), none, (.fields #[(.str (s "TooMany") 545), (.str (s "TooMany") 546), (.str (s "/claim/cut.py") 547), (.int (31) 0), (.int (0) 0), (.int (0) 0), (.int (0) 0), (.int (0) 0), (.ref 167), (.bool false), (.int (374) 0), (.ref 168), .none, .none, .none, .none, (.int (548) 0), (.int (31) 0), (.str (s "/claim/cut.py") 549)]), #[]⟩
noncomputable def o170 (P : Params) : Obj := ⟨(.type "frame"), none, .plain, #[(some (.ref 169)), (some (.ref 3)), (some (.ref 166)), none, (some (.str (s "likepanes.errors") 380)), none, (some (.ref 0))]⟩
noncomputable def o171 (P : Params) : Obj := ⟨(.type "tuple"), none, (.seq #[] 0), #[]⟩
noncomputable def o172 (P : Params) : Obj := ⟨.none, none, (.fields #[]), #[]⟩
noncomputable def o173 (P : Params) : Obj := ⟨(.type "tuple"), none, (.seq #[(.str (s "self") 558), (.str (s "limit") 559)] 0), #[]⟩
noncomputable def o174 (P : Params) : Obj := ⟨(.type "tuple"), none, (.seq #[] 0), #[]⟩
noncomputable def o175 (P : Params) : Obj := ⟨.none, none, (.func (fn (L2.inClass (hT 9) 0) (s "__init__") (s "TooMany.__init__") 0 [] .none .none .none .none none .none .none 0)), #[]⟩
noncomputable def o176 (P : Params) : Obj := ⟨(.type "code"), none, (.fields #[(.str (s "__init__") 555), (.str (s "TooMany.__init__") 556), (.str (s "/claim/cut.py") 557), (.int (33) 0), (.int (2) 0), (.int (0) 0), (.int (0) 0), (.int (3) 0), (.ref 171), (.bool true), (.int (374) 0), (.ref 172), .none, (.ref 173), (.ref 174), (.ref 175), (.int (560) 0), (.int (33) 0), (.str (s "/claim/cut.py") 561)]), #[]⟩
noncomputable def o177 (P : Params) : Obj := ⟨(.type "function"), none, (.func (fn (L2.inClass (hT 9) 0) (s "__init__") (s "TooMany.__init__") 3 [] .none .none .none (.str (s "likepanes.errors") 380) none (.ref 176) .none 0)), #[]⟩
noncomputable def o178 (P : Params) : Obj := ⟨(.type "tuple"), none, (.seq #[(.str (s "limit") 563)] 0), #[]⟩
noncomputable def o179 (P : Params) : Obj := ⟨(.type "dict"), none, (.dict #[k P "__module__" 550 (.str (s "likepanes.errors") 380), k P "__firstlineno__" 554 (.int (31) 553), k P "__init__" 562 (.ref 177), k P "__static_attributes__" 564 (.ref 178), k P "__doc__" 565 .none] 2), #[]⟩
noncomputable def o180 (P : Params) : Obj := ⟨(.type "type"), none, (.cls ⟨(s "TooMany"), [(.ref 141)], [(.ref 180), (.ref 141), (.type "ArithmeticError"), (.type "Exception"), (.type "BaseException"), (.type "object")], 179, (s "TooMany"), true, [], [], false, none, false⟩), #[(some (.ref 164)), none, (some (.str (s "TooMany") 543)), (some (.str (s "TooMany") 551)), (some (.builtin "ArithmeticError.__new__")), (some (.bool true))]⟩
noncomputable def o181 (P : Params) : Obj := ⟨(.type "super"), none, (.fields #[(.ref 180), (.ref 180), (.ref 180)]), #[]⟩
noncomputable def o182 (P : Params) : Obj := ⟨(.type "builtin_function_or_method"), none, (.fields #[(.builtin "object.__init_subclass__"), (.ref 180)]), #[]⟩
noncomputable def o183 (P : Params) : Obj := ⟨(.type "tuple"), none, (.seq #[] 0), #[]⟩
noncomputable def o184 (P : Params) : Obj := ⟨.none, none, (.fields #[]), #[]⟩
noncomputable def o185 (P : Params) : Obj := ⟨(.type "tuple"), none, (.seq #[(.str (s "terms") 573), (.str (s "many") 574)] 0), #[]⟩
noncomputable def o186 (P : Params) : Obj := ⟨(.type "tuple"), none, (.seq #[] 0), #[]⟩
noncomputable def o187 (P : Params) : Obj := ⟨.none, none, (.func (fn (hT 11) (s "trimmed") (s "trimmed") 0 [] .none .none .none .none none .none .none 0)), #[]⟩
noncomputable def o188 (P : Params) : Obj := ⟨(.type "code"), none, (.fields #[(.str (s "trimmed") 570), (.str (s "trimmed") 571), (.str (s "/claim/cut.py") 572), (.int (37) 0), (.int (1) 0), (.int (0) 0), (.int (0) 0), (.int (3) 0), (.ref 183), (.bool true), (.int (374) 0), (.ref 184), .none, (.ref 185), (.ref 186), (.ref 187), (.int (575) 0), (.int (37) 0), (.str (s "/claim/cut.py") 576)]), #[]⟩
noncomputable def o189 (P : Params) : Obj := ⟨(.type "function"), none, (.func (fn (hT 11) (s "trimmed") (s "trimmed") 3 [] .none .none .none (.str (s "likepanes.terms") 568) none (.ref 188) .none 0)), #[]⟩
noncomputable def o190 (P : Params) : Obj := ⟨(.type "tuple"), none, (.seq #[] 0), #[]⟩
noncomputable def o191 (P : Params) : Obj := ⟨.none, none, (.fields #[]), #[]⟩
noncomputable def o192 (P : Params) : Obj := ⟨(.type "tuple"), none, (.seq #[(.str (s "terms") 581), (.str (s "common") 582), (.str (s "term") 583)] 0), #[]⟩
noncomputable def o193 (P : Params) : Obj := ⟨(.type "tuple"), none, (.seq #[] 0), #[]⟩
noncomputable def o194 (P : Params) : Obj := ⟨.none, none, (.func (fn (hT 12) (s "common_divisor") (s "common_divisor") 0 [] .none .none .none .none none .none .none 0)), #[]⟩
noncomputable def o195 (P : Params) : Obj := ⟨(.type "code"), none, (.fields #[(.str (s "common_divisor") 578), (.str (s "common_divisor") 579), (.str (s "/claim/cut.py") 580), (.int (42) 0), (.int (1) 0), (.int (0) 0), (.int (0) 0), (.int (3) 0), (.ref 190), (.bool true), (.int (374) 0), (.ref 191), .none, (.ref 192), (.ref 193), (.ref 194), (.int (584) 0), (.int (42) 0), (.str (s "/claim/cut.py") 585)]), #[]⟩
noncomputable def o196 (P : Params) : Obj := ⟨(.type "function"), none, (.func (fn (hT 12) (s "common_divisor") (s "common_divisor") 3 [] .none .none .none (.str (s "likepanes.terms") 568) none (.ref 195) .none 0)), #[]⟩
noncomputable def t2 (P : Params) : BT := (n (o0 P) (n (o1 P) (n (o3_2 P) (n (o7 P) (n (o15 P) (n (o31 P) (n (o63 P) (n (o127 P) z z) (n (o191 P) z z)) (n (o95 P) (n (o159 P) z z) z)) (n (o47 P) (n (o79 P) (n (o143 P) z z) z) (n (o111 P) (n (o175 P) z z) z))) (n (o23 P) (n (o39 P) (n (o71 P) (n (o135 P) z z) z) (n (o103 P) (n (o167 P) z z) z)) (n (o55 P) (n (o87 P) (n (o151 P) z z) z) (n (o119 P) (n (o183 P) z z) z)))) (n (o11 P) (n (o19 P) (n (o35 P) (n (o67 P) (n (o131 P) z z) (n (o195 P) z z)) (n (o99 P) (n (o163 P) z z) z)) (n (o51 P) (n (o83 P) (n (o147 P) z z) z) (n (o115 P) (n (o179 P) z z) z))) (n (o27 P) (n (o43 P) (n (o75 P) (n (o139 P) z z) z) (n (o107 P) (n (o171 P) z z) z)) (n (o59 P) (n (o91 P) (n (o155 P) z z) z) (n (o123 P) (n (o187 P) z z) z))))) (n (o5 P) (n (o9 P) (n (o17 P) (n (o33 P) (n (o65 P) (n (o129 P) z z) (n (o193 P) z z)) (n (o97 P) (n (o161 P) z z) z)) (n (o49 P) (n (o81 P) (n (o145 P) z z) z) (n (o113 P) (n (o177 P) z z) z))) (n (o25 P) (n (o41 P) (n (o73 P) (n (o137 P) z z) z) (n (o105 P) (n (o169 P) z z) z)) (n (o57 P) (n (o89 P) (n (o153 P) z z) z) (n (o121 P) (n (o185 P) z z) z)))) (n (o13 P) (n (o21 P) (n (o37 P) (n (o69 P) (n (o133 P) z z) z) (n (o101 P) (n (o165 P) z z) z)) (n (o53 P) (n (o85 P) (n (o149 P) z z) z) (n (o117 P) (n (o181 P) z z) z))) (n (o29 P) (n (o45 P) (n (o77 P) (n (o141 P) z z) z) (n (o109 P) (n (o173 P) z z) z)) (n (o61 P) (n (o93 P) (n (o157 P) z z) z) (n (o125 P) (n (o189 P) z z) z)))))) (n (o2_2 P) (n (o4 P) (n (o8 P) (n (o16 P) (n (o32 P) (n (o64 P) (n (o128 P) z z) (n (o192 P) z z)) (n (o96 P) (n (o160 P) z z) z)) (n (o48 P) (n (o80 P) (n (o144 P) z z) z) (n (o112 P) (n (o176 P) z z) z))) (n (o24 P) (n (o40_2 P) (n (o72 P) (n (o136 P) z z) z) (n (o104 P) (n (o168 P) z z) z)) (n (o56 P) (n (o88 P) (n (o152 P) z z) z) (n (o120 P) (n (o184 P) z z) z)))) (n (o12_0 P) (n (o20 P) (n (o36 P) (n (o68 P) (n (o132 P) z z) (n (o196 P) z z)) (n (o100 P) (n (o164 P) z z) z)) (n (o52_2 P) (n (o84 P) (n (o148 P) z z) z) (n (o116 P) (n (o180 P) z z) z))) (n (o28 P) (n (o44 P) (n (o76 P) (n (o140 P) z z) z) (n (o108 P) (n (o172 P) z z) z)) (n (o60 P) (n (o92 P) (n (o156 P) z z) z) (n (o124 P) (n (o188 P) z z) z))))) (n (o6 P) (n (o10 P) (n (o18 P) (n (o34 P) (n (o66 P) (n (o130 P) z z) (n (o194 P) z z)) (n (o98 P) (n (o162 P) z z) z)) (n (o50 P) (n (o82 P) (n (o146 P) z z) z) (n (o114 P) (n (o178 P) z z) z))) (n (o26 P) (n (o42 P) (n (o74 P) (n (o138 P) z z) z) (n (o106 P) (n (o170 P) z z) z)) (n (o58 P) (n (o90 P) (n (o154 P) z z) z) (n (o122 P) (n (o186 P) z z) z)))) (n (o14 P) (n (o22 P) (n (o38 P) (n (o70 P) (n (o134 P) z z) z) (n (o102 P) (n (o166 P) z z) z)) (n (o54 P) (n (o86 P) (n (o150 P) z z) z) (n (o118 P) (n (o182 P) z z) z))) (n (o30 P) (n (o46 P) (n (o78 P) (n (o142 P) z z) z) (n (o110 P) (n (o174 P) z z) z)) (n (o62 P) (n (o94 P) (n (o158 P) z z) z) (n (o126 P) (n (o190 P) z z) z)))))))
noncomputable def X2 (w : World) (os : OsState) : SharedT := ⟨t2 w.params, 197, {}, #[], {}, 587, os⟩
noncomputable def o3_3 (P : Params) : Obj := ⟨(.type "dict"), none, (.dict #[k P "__name__" 165 (.str (s "likepanes.roots") 784), k P "__doc__" 166 .none, k P "__package__" 167 .none, k P "__loader__" 168 (.builtin "__main__.__loader__#opaque"), k P "__spec__" 169 .none, k P "__annotations__" 170 (.ref 6), k P "__builtins__" 171 (.ref 4), k P "__file__" 173 (.str (s "/claim/cut.py") 172), k P "__cached__" 174 .none, k P "gcd" 370 (.builtin "math.gcd"), k P "isqrt" 373 (.builtin "math.isqrt"), k P "BadValue" 399 (.ref 52), k P "InvalidText" 424 (.ref 72), k P "InvalidFraction" 449 (.ref 91), k P "NotAShape" 474 (.ref 110), k P "InvalidEquation" 499 (.ref 129), k P "NoAnswer" 519 (.ref 141), k P "NoRoot" 542 (.ref 161), k P "TooMany" 567 (.ref 180), k P "trimmed" 577 (.ref 189), k P "common_divisor" 586 (.ref 196), k P "primitive" 592 (.ref 201), k P "negative" 598 (.ref 206), k P "derivative" 604 (.ref 211), k P "value_at" 616 (.ref 218), k P "combined" 630 (.ref 225), k P "remainder" 640 (.ref 232), k P "divided" 655 (.ref 239), k P "is_least" 664 (.ref 246), k P "factors_of" 674 (.ref 253), k P "least_factor" 682 (.ref 260), k P "divisors" 688 (.ref 265), k P "linear_factor" 699 (.ref 272), k P "quadratic_factor" 712 (.ref 279), k P "middles" 724 (.ref 286), k P "whole_roots" 730 (.ref 291), k P "MOST_DEGREE" 732 (.int (5) 731), k P "MOST_TERM" 734 (.int (1000) 733), k P "is_integer" 743 (.ref 298), k P "are_integers" 749 (.ref 303), k P "is_fraction" 758 (.ref 310), k P "is_below" 766 (.ref 317), k P "is_term" 773 (.ref 324), k P "wrong_term" 783 (.ref 331), k P "FIRST_BITS" 787 (.int (64) 786), k P "sturm_chain" 795 (.ref 338), k P "changes" 801 (.ref 343), k P "reach" 807 (.ref 348), k P "roots_up_to" 816 (.ref 355), k P "roots_in_all" 823 (.ref 362), k P "roots_within" 834 (.ref 369), k P "rank_of_last" 842 (.ref 376), k P "stretch_of" 853 (.ref 383), k P "lonely_stretch" 866 (.ref 390), k P "refined" 878 (.ref 397)] 55), #[]⟩
noncomputable def o40_3 (P : Params) : Obj := ⟨.none, none, (.fields #[(.int (3) 0), (.int (0) 0), (.ref 48), (.int (5) 0), (.int (0) 0), (.ref 61), (.int (10) 0), (.int (0) 0), (.ref 80), (.int (15) 0), (.int (0) 0), (.ref 99), (.int (20) 0), (.int (0) 0), (.ref 118), (.int (25) 0), (.int (0) 0), (.ref 137), (.int (27) 0), (.int (0) 0), (.ref 150), (.int (31) 0), (.int (0) 0), (.ref 169), (.int (37) 0), (.int (0) 0), (.ref 188), (.int (42) 0), (.int (0) 0), (.ref 195), (.int (47) 0), (.int (0) 0), (.ref 200), (.int (50) 0), (.int (0) 0), (.ref 205), (.int (52) 0), (.int (0) 0), (.ref 210), (.int (54) 0), (.int (0) 0), (.ref 217), (.int (60) 0), (.int (0) 0), (.ref 224), (.int (67) 0), (.int (0) 0), (.ref 231), (.int (73) 0), (.int (0) 0), (.ref 238), (.int (88) 0), (.int (0) 0), (.ref 245), (.int (92) 0), (.int (0) 0), (.ref 252), (.int (103) 0), (.int (0) 0), (.ref 259), (.int (110) 0), (.int (0) 0), (.ref 264), (.int (112) 0), (.int (0) 0), (.ref 271), (.int (124) 0), (.int (0) 0), (.ref 278), (.int (134) 0), (.int (0) 0), (.ref 285), (.int (141) 0), (.int (0) 0), (.ref 290), (.int (153) 0), (.int (0) 0), (.ref 297), (.int (155) 0), (.int (0) 0), (.ref 302), (.int (157) 0), (.int (0) 0), (.ref 309), (.int (162) 0), (.int (0) 0), (.ref 316), (.int (164) 0), (.int (0) 0), (.ref 323), (.int (166) 0), (.int (0) 0), (.ref 330), (.int (174) 0), (.int (0) 0), (.ref 337), (.int (180) 0), (.int (0) 0), (.ref 342), (.int (184) 0), (.int (0) 0), (.ref 347), (.int (186) 0), (.int (0) 0), (.ref 354), (.int (188) 0), (.int (0) 0), (.ref 361), (.int (190) 0), (.int (0) 0), (.ref 368), (.int (196) 0), (.int (0) 0), (.ref 375), (.int (198) 0), (.int (0) 0), (.ref 382), (.int (202) 0), (.int (0) 0), (.ref 389), (.int (214) 0), (.int (0) 0), (.ref 396)]), #[]⟩
noncomputable def o197 (P : Params) : Obj := ⟨(.type "tuple"), none, (.seq #[] 0), #[]⟩
noncomputable def o198 (P : Params) : Obj := ⟨.none, none, (.fields #[]), #[]⟩
noncomputable def o199 (P : Params) : Obj := ⟨.none, none, (.func (fn (hT 13) (s "primitive") (s "primitive") 0 [] .none .none .none .none none .none .none 0)), #[]⟩
noncomputable def o200 (P : Params) : Obj := ⟨(.type "code"), none, (.fields #[(.str (s "primitive") 587), (.str (s "primitive") 588), (.str (s "/claim/cut.py") 589), (.int (47) 0), (.int (1) 0), (.int (0) 0), (.int (0) 0), (.int (3) 0), (.ref 197), (.bool true), (.int (374) 0), (.ref 198), .none, .none, .none, (.ref 199), (.int (590) 0), (.int (47) 0), (.str (s "/claim/cut.py") 591)]), #[]⟩
noncomputable def o201 (P : Params) : Obj := ⟨(.type "function"), none, (.func (fn (hT 13) (s "primitive") (s "primitive") 3 [] .none .none .none (.str (s "likepanes.terms") 568) none (.ref 200) .none 0)), #[]⟩
noncomputable def o202 (P : Params) : Obj := ⟨(.type "tuple"), none, (.seq #[] 0), #[]⟩
noncomputable def o203 (P : Params) : Obj := ⟨.none, none, (.fields #[]), #[]⟩
noncomputable def o204 (P : Params) : Obj := ⟨.none, none, (.func (fn (hT 14) (s "negative") (s "negative") 0 [] .none .none .none .none none .none .none 0)), #[]⟩
noncomputable def o205 (P : Params) : Obj := ⟨(.type "code"), none, (.fields #[(.str (s "negative") 593), (.str (s "negative") 594), (.str (s "/claim/cut.py") 595), (.int (50) 0), (.int (1) 0), (.int (0) 0), (.int (0) 0), (.int (3) 0), (.ref 202), (.bool true), (.int (374) 0), (.ref 203), .none, .none, .none, (.ref 204), (.int (596) 0), (.int (50) 0), (.str (s "/claim/cut.py") 597)]), #[]⟩
noncomputable def o206 (P : Params) : Obj := ⟨(.type "function"), none, (.func (fn (hT 14) (s "negative") (s "negative") 3 [] .none .none .none (.str (s "likepanes.terms") 568) none (.ref 205) .none 0)), #[]⟩
noncomputable def o207 (P : Params) : Obj := ⟨(.type "tuple"), none, (.seq #[] 0), #[]⟩
noncomputable def o208 (P : Params) : Obj := ⟨.none, none, (.fields #[]), #[]⟩
noncomputable def o209 (P : Params) : Obj := ⟨.none, none, (.func (fn (hT 15) (s "derivative") (s "derivative") 0 [] .none .none .none .none none .none .none 0)), #[]⟩
noncomputable def o210 (P : Params) : Obj := ⟨(.type "code"), none, (.fields #[(.str (s "derivative") 599), (.str (s "derivative") 600), (.str (s "/claim/cut.py") 601), (.int (52) 0), (.int (1) 0), (.int (0) 0), (.int (0) 0), (.int (3) 0), (.ref 207), (.bool true), (.int (374) 0), (.ref 208), .none, .none, .none, (.ref 209), (.int (602) 0), (.int (52) 0), (.str (s "/claim/cut.py") 603)]), #[]⟩
noncomputable def o211 (P : Params) : Obj := ⟨(.type "function"), none, (.func (fn (hT 15) (s "derivative") (s "derivative") 3 [] .none .none .none (.str (s "likepanes.terms") 568) none (.ref 210) .none 0)), #[]⟩
noncomputable def o212 (P : Params) : Obj := ⟨(.type "tuple"), none, (.seq #[] 0), #[]⟩
noncomputable def o213 (P : Params) : Obj := ⟨.none, none, (.fields #[]), #[]⟩
noncomputable def o214 (P : Params) : Obj := ⟨(.type "tuple"), none, (.seq #[(.str (s "terms") 608), (.str (s "top") 609), (.str (s "bottom") 610), (.str (s "value") 611), (.str (s "scale") 612), (.str (s "term") 613)] 0), #[]⟩
noncomputable def o215 (P : Params) : Obj := ⟨(.type "tuple"), none, (.seq #[] 0), #[]⟩
noncomputable def o216 (P : Params) : Obj := ⟨.none, none, (.func (fn (hT 16) (s "value_at") (s "value_at") 0 [] .none .none .none .none none .none .none 0)), #[]⟩
noncomputable def o217 (P : Params) : Obj := ⟨(.type "code"), none, (.fields #[(.str (s "value_at") 605), (.str (s "value_at") 606), (.str (s "/claim/cut.py") 607), (.int (54) 0), (.int (3) 0), (.int (0) 0), (.int (0) 0), (.int (3) 0), (.ref 212), (.bool true), (.int (374) 0), (.ref 213), .none, (.ref 214), (.ref 215), (.ref 216), (.int (614) 0), (.int (54) 0), (.str (s "/claim/cut.py") 615)]), #[]⟩
noncomputable def o218 (P : Params) : Obj := ⟨(.type "function"), none, (.func (fn (hT 16) (s "value_at") (s "value_at") 3 [] .none .none .none (.str (s "likepanes.terms") 568) none (.ref 217) .none 0)), #[]⟩
noncomputable def o219 (P : Params) : Obj := ⟨(.type "tuple"), none, (.seq #[] 0), #[]⟩
noncomputable def o220 (P : Params) : Obj := ⟨.none, none, (.fields #[]), #[]⟩
noncomputable def o221 (P : Params) : Obj := ⟨(.type "tuple"), none, (.seq #[(.str (s "factor") 620), (.str (s "one") 621), (.str (s "weight") 622), (.str (s "other") 623), (.str (s "shift") 624), (.str (s "result") 625), (.str (s "at") 626), (.str (s "term") 627)] 0), #[]⟩
noncomputable def o222 (P : Params) : Obj := ⟨(.type "tuple"), none, (.seq #[] 0), #[]⟩
noncomputable def o223 (P : Params) : Obj := ⟨.none, none, (.func (fn (hT 17) (s "combined") (s "combined") 0 [] .none .none .none .none none .none .none 0)), #[]⟩
noncomputable def o224 (P : Params) : Obj := ⟨(.type "code"), none, (.fields #[(.str (s "combined") 617), (.str (s "combined") 618), (.str (s "/claim/cut.py") 619), (.int (60) 0), (.int (5) 0), (.int (0) 0), (.int (0) 0), (.int (3) 0), (.ref 219), (.bool true), (.int (374) 0), (.ref 220), .none, (.ref 221), (.ref 222), (.ref 223), (.int (628) 0), (.int (60) 0), (.str (s "/claim/cut.py") 629)]), #[]⟩
noncomputable def o225 (P : Params) : Obj := ⟨(.type "function"), none, (.func (fn (hT 17) (s "combined") (s "combined") 3 [] .none .none .none (.str (s "likepanes.terms") 568) none (.ref 224) .none 0)), #[]⟩
noncomputable def o226 (P : Params) : Obj := ⟨(.type "tuple"), none, (.seq #[] 0), #[]⟩
noncomputable def o227 (P : Params) : Obj := ⟨.none, none, (.fields #[]), #[]⟩
noncomputable def o228 (P : Params) : Obj := ⟨(.type "tuple"), none, (.seq #[(.str (s "one") 634), (.str (s "other") 635), (.str (s "factor") 636), (.str (s "weight") 637)] 0), #[]⟩
noncomputable def o229 (P : Params) : Obj := ⟨(.type "tuple"), none, (.seq #[] 0), #[]⟩
noncomputable def o230 (P : Params) : Obj := ⟨.none, none, (.func (fn (hT 18) (s "remainder") (s "remainder") 0 [] .none .none .none .none none .none .none 0)), #[]⟩
noncomputable def o231 (P : Params) : Obj := ⟨(.type "code"), none, (.fields #[(.str (s "remainder") 631), (.str (s "remainder") 632), (.str (s "/claim/cut.py") 633), (.int (67) 0), (.int (2) 0), (.int (0) 0), (.int (0) 0), (.int (3) 0), (.ref 226), (.bool true), (.int (374) 0), (.ref 227), .none, (.ref 228), (.ref 229), (.ref 230), (.int (638) 0), (.int (67) 0), (.str (s "/claim/cut.py") 639)]), #[]⟩
noncomputable def o232 (P : Params) : Obj := ⟨(.type "function"), none, (.func (fn (hT 18) (s "remainder") (s "remainder") 3 [] .none .none .none (.str (s "likepanes.terms") 568) none (.ref 231) .none 0)), #[]⟩
noncomputable def o233 (P : Params) : Obj := ⟨(.type "tuple"), none, (.seq #[] 0), #[]⟩
noncomputable def o234 (P : Params) : Obj := ⟨.none, none, (.fields #[]), #[]⟩
noncomputable def o235 (P : Params) : Obj := ⟨(.type "tuple"), none, (.seq #[(.str (s "one") 644), (.str (s "other") 645), (.str (s "rest") 646), (.str (s "found") 647), (.str (s "factor") 648), (.str (s "left") 649), (.str (s "shift") 650), (.str (s "at") 651), (.str (s "term") 652)] 0), #[]⟩
noncomputable def o236 (P : Params) : Obj := ⟨(.type "tuple"), none, (.seq #[] 0), #[]⟩
noncomputable def o237 (P : Params) : Obj := ⟨.none, none, (.func (fn (hT 19) (s "divided") (s "divided") 0 [] .none .none .none .none none .none .none 0)), #[]⟩
noncomputable def o238 (P : Params) : Obj := ⟨(.type "code"), none, (.fields #[(.str (s "divided") 641), (.str (s "divided") 642), (.str (s "/claim/cut.py") 643), (.int (73) 0), (.int (2) 0), (.int (0) 0), (.int (0) 0), (.int (3) 0), (.ref 233), (.bool true), (.int (374) 0), (.ref 234), .none, (.ref 235), (.ref 236), (.ref 237), (.int (653) 0), (.int (73) 0), (.str (s "/claim/cut.py") 654)]), #[]⟩
noncomputable def o239 (P : Params) : Obj := ⟨(.type "function"), none, (.func (fn (hT 19) (s "divided") (s "divided") 3 [] .none .none .none (.str (s "likepanes.terms") 568) none (.ref 238) .none 0)), #[]⟩
noncomputable def o240 (P : Params) : Obj := ⟨(.type "tuple"), none, (.seq #[] 0), #[]⟩
noncomputable def o241 (P : Params) : Obj := ⟨.none, none, (.fields #[]), #[]⟩
noncomputable def o242 (P : Params) : Obj := ⟨(.type "tuple"), none, (.seq #[(.str (s "equation") 661)] 0), #[]⟩
noncomputable def o243 (P : Params) : Obj := ⟨(.type "tuple"), none, (.seq #[] 0), #[]⟩
noncomputable def o244 (P : Params) : Obj := ⟨.none, none, (.func (fn (hT 21) (s "is_least") (s "is_least") 0 [] .none .none .none .none none .none .none 0)), #[]⟩
noncomputable def o245 (P : Params) : Obj := ⟨(.type "code"), none, (.fields #[(.str (s "is_least") 658), (.str (s "is_least") 659), (.str (s "/claim/cut.py") 660), (.int (88) 0), (.int (1) 0), (.int (0) 0), (.int (0) 0), (.int (3) 0), (.ref 240), (.bool true), (.int (374) 0), (.ref 241), .none, (.ref 242), (.ref 243), (.ref 244), (.int (662) 0), (.int (88) 0), (.str (s "/claim/cut.py") 663)]), #[]⟩
noncomputable def o246 (P : Params) : Obj := ⟨(.type "function"), none, (.func (fn (hT 21) (s "is_least") (s "is_least") 3 [] .none .none .none (.str (s "likepanes.factors") 656) none (.ref 245) .none 0)), #[]⟩
noncomputable def o247 (P : Params) : Obj := ⟨(.type "tuple"), none, (.seq #[] 0), #[]⟩
noncomputable def o248 (P : Params) : Obj := ⟨.none, none, (.fields #[]), #[]⟩
noncomputable def o249 (P : Params) : Obj := ⟨(.type "tuple"), none, (.seq #[(.str (s "equation") 668), (.str (s "rest") 669), (.str (s "found") 670), (.str (s "factor") 671)] 0), #[]⟩
noncomputable def o250 (P : Params) : Obj := ⟨(.type "tuple"), none, (.seq #[] 0), #[]⟩
noncomputable def o251 (P : Params) : Obj := ⟨.none, none, (.func (fn (hT 22) (s "factors_of") (s "factors_of") 0 [] .none .none .none .none none .none .none 0)), #[]⟩
noncomputable def o252 (P : Params) : Obj := ⟨(.type "code"), none, (.fields #[(.str (s "factors_of") 665), (.str (s "factors_of") 666), (.str (s "/claim/cut.py") 667), (.int (92) 0), (.int (1) 0), (.int (0) 0), (.int (0) 0), (.int (3) 0), (.ref 247), (.bool true), (.int (374) 0), (.ref 248), .none, (.ref 249), (.ref 250), (.ref 251), (.int (672) 0), (.int (92) 0), (.str (s "/claim/cut.py") 673)]), #[]⟩
noncomputable def o253 (P : Params) : Obj := ⟨(.type "function"), none, (.func (fn (hT 22) (s "factors_of") (s "factors_of") 3 [] .none .none .none (.str (s "likepanes.factors") 656) none (.ref 252) .none 0)), #[]⟩
noncomputable def o254 (P : Params) : Obj := ⟨(.type "tuple"), none, (.seq #[] 0), #[]⟩
noncomputable def o255 (P : Params) : Obj := ⟨.none, none, (.fields #[]), #[]⟩
noncomputable def o256 (P : Params) : Obj := ⟨(.type "tuple"), none, (.seq #[(.str (s "terms") 678), (.str (s "found") 679)] 0), #[]⟩
noncomputable def o257 (P : Params) : Obj := ⟨(.type "tuple"), none, (.seq #[] 0), #[]⟩
noncomputable def o258 (P : Params) : Obj := ⟨.none, none, (.func (fn (hT 23) (s "least_factor") (s "least_factor") 0 [] .none .none .none .none none .none .none 0)), #[]⟩
noncomputable def o259 (P : Params) : Obj := ⟨(.type "code"), none, (.fields #[(.str (s "least_factor") 675), (.str (s "least_factor") 676), (.str (s "/claim/cut.py") 677), (.int (103) 0), (.int (1) 0), (.int (0) 0), (.int (0) 0), (.int (3) 0), (.ref 254), (.bool true), (.int (374) 0), (.ref 255), .none, (.ref 256), (.ref 257), (.ref 258), (.int (680) 0), (.int (103) 0), (.str (s "/claim/cut.py") 681)]), #[]⟩
noncomputable def o260 (P : Params) : Obj := ⟨(.type "function"), none, (.func (fn (hT 23) (s "least_factor") (s "least_factor") 3 [] .none .none .none (.str (s "likepanes.factors") 656) none (.ref 259) .none 0)), #[]⟩
noncomputable def o261 (P : Params) : Obj := ⟨(.type "tuple"), none, (.seq #[] 0), #[]⟩
noncomputable def o262 (P : Params) : Obj := ⟨.none, none, (.fields #[]), #[]⟩
noncomputable def o263 (P : Params) : Obj := ⟨.none, none, (.func (fn (hT 24) (s "divisors") (s "divisors") 0 [] .none .none .none .none none .none .none 0)), #[]⟩
noncomputable def o264 (P : Params) : Obj := ⟨(.type "code"), none, (.fields #[(.str (s "divisors") 683), (.str (s "divisors") 684), (.str (s "/claim/cut.py") 685), (.int (110) 0), (.int (1) 0), (.int (0) 0), (.int (0) 0), (.int (3) 0), (.ref 261), (.bool true), (.int (374) 0), (.ref 262), .none, .none, .none, (.ref 263), (.int (686) 0), (.int (110) 0), (.str (s "/claim/cut.py") 687)]), #[]⟩
noncomputable def o265 (P : Params) : Obj := ⟨(.type "function"), none, (.func (fn (hT 24) (s "divisors") (s "divisors") 3 [] .none .none .none (.str (s "likepanes.factors") 656) none (.ref 264) .none 0)), #[]⟩
noncomputable def o266 (P : Params) : Obj := ⟨(.type "tuple"), none, (.seq #[] 0), #[]⟩
noncomputable def o267 (P : Params) : Obj := ⟨.none, none, (.fields #[]), #[]⟩
noncomputable def o268 (P : Params) : Obj := ⟨(.type "tuple"), none, (.seq #[(.str (s "terms") 692), (.str (s "bottoms") 693), (.str (s "top") 694), (.str (s "bottom") 695), (.str (s "side") 696)] 0), #[]⟩
noncomputable def o269 (P : Params) : Obj := ⟨(.type "tuple"), none, (.seq #[] 0), #[]⟩
noncomputable def o270 (P : Params) : Obj := ⟨.none, none, (.func (fn (hT 25) (s "linear_factor") (s "linear_factor") 0 [] .none .none .none .none none .none .none 0)), #[]⟩
noncomputable def o271 (P : Params) : Obj := ⟨(.type "code"), none, (.fields #[(.str (s "linear_factor") 689), (.str (s "linear_factor") 690), (.str (s "/claim/cut.py") 691), (.int (112) 0), (.int (1) 0), (.int (0) 0), (.int (0) 0), (.int (3) 0), (.ref 266), (.bool true), (.int (374) 0), (.ref 267), .none, (.ref 268), (.ref 269), (.ref 270), (.int (697) 0), (.int (112) 0), (.str (s "/claim/cut.py") 698)]), #[]⟩
noncomputable def o272 (P : Params) : Obj := ⟨(.type "function"), none, (.func (fn (hT 25) (s "linear_factor") (s "linear_factor") 3 [] .none .none .none (.str (s "likepanes.factors") 656) none (.ref 271) .none 0)), #[]⟩
noncomputable def o273 (P : Params) : Obj := ⟨(.type "tuple"), none, (.seq #[] 0), #[]⟩
noncomputable def o274 (P : Params) : Obj := ⟨.none, none, (.fields #[]), #[]⟩
noncomputable def o275 (P : Params) : Obj := ⟨(.type "tuple"), none, (.seq #[(.str (s "terms") 703), (.str (s "lasts") 704), (.str (s "size") 705), (.str (s "last") 706), (.str (s "first") 707), (.str (s "middle") 708), (.str (s "factor") 709)] 0), #[]⟩
noncomputable def o276 (P : Params) : Obj := ⟨(.type "tuple"), none, (.seq #[] 0), #[]⟩
noncomputable def o277 (P : Params) : Obj := ⟨.none, none, (.func (fn (hT 26) (s "quadratic_factor") (s "quadratic_factor") 0 [] .none .none .none .none none .none .none 0)), #[]⟩
noncomputable def o278 (P : Params) : Obj := ⟨(.type "code"), none, (.fields #[(.str (s "quadratic_factor") 700), (.str (s "quadratic_factor") 701), (.str (s "/claim/cut.py") 702), (.int (124) 0), (.int (1) 0), (.int (0) 0), (.int (0) 0), (.int (3) 0), (.ref 273), (.bool true), (.int (374) 0), (.ref 274), .none, (.ref 275), (.ref 276), (.ref 277), (.int (710) 0), (.int (124) 0), (.str (s "/claim/cut.py") 711)]), #[]⟩
noncomputable def o279 (P : Params) : Obj := ⟨(.type "function"), none, (.func (fn (hT 26) (s "quadratic_factor") (s "quadratic_factor") 3 [] .none .none .none (.str (s "likepanes.factors") 656) none (.ref 278) .none 0)), #[]⟩
noncomputable def o280 (P : Params) : Obj := ⟨(.type "tuple"), none, (.seq #[] 0), #[]⟩
noncomputable def o281 (P : Params) : Obj := ⟨.none, none, (.fields #[]), #[]⟩
noncomputable def o282 (P : Params) : Obj := ⟨(.type "tuple"), none, (.seq #[(.str (s "terms") 716), (.str (s "first") 717), (.str (s "last") 718), (.str (s "lowest") 719), (.str (s "highest") 720), (.str (s "constant") 721)] 0), #[]⟩
noncomputable def o283 (P : Params) : Obj := ⟨(.type "tuple"), none, (.seq #[] 0), #[]⟩
noncomputable def o284 (P : Params) : Obj := ⟨.none, none, (.func (fn (hT 27) (s "middles") (s "middles") 0 [] .none .none .none .none none .none .none 0)), #[]⟩
noncomputable def o285 (P : Params) : Obj := ⟨(.type "code"), none, (.fields #[(.str (s "middles") 713), (.str (s "middles") 714), (.str (s "/claim/cut.py") 715), (.int (134) 0), (.int (3) 0), (.int (0) 0), (.int (0) 0), (.int (3) 0), (.ref 280), (.bool true), (.int (374) 0), (.ref 281), .none, (.ref 282), (.ref 283), (.ref 284), (.int (722) 0), (.int (134) 0), (.str (s "/claim/cut.py") 723)]), #[]⟩
noncomputable def o286 (P : Params) : Obj := ⟨(.type "function"), none, (.func (fn (hT 27) (s "middles") (s "middles") 3 [] .none .none .none (.str (s "likepanes.factors") 656) none (.ref 285) .none 0)), #[]⟩
noncomputable def o287 (P : Params) : Obj := ⟨(.type "tuple"), none, (.seq #[] 0), #[]⟩
noncomputable def o288 (P : Params) : Obj := ⟨.none, none, (.fields #[]), #[]⟩
noncomputable def o289 (P : Params) : Obj := ⟨.none, none, (.func (fn (hT 28) (s "whole_roots") (s "whole_roots") 0 [] .none .none .none .none none .none .none 0)), #[]⟩
noncomputable def o290 (P : Params) : Obj := ⟨(.type "code"), none, (.fields #[(.str (s "whole_roots") 725), (.str (s "whole_roots") 726), (.str (s "/claim/cut.py") 727), (.int (141) 0), (.int (3) 0), (.int (0) 0), (.int (0) 0), (.int (3) 0), (.ref 287), (.bool true), (.int (374) 0), (.ref 288), .none, .none, .none, (.ref 289), (.int (728) 0), (.int (141) 0), (.str (s "/claim/cut.py") 729)]), #[]⟩
noncomputable def o291 (P : Params) : Obj := ⟨(.type "function"), none, (.func (fn (hT 28) (s "whole_roots") (s "whole_roots") 3 [] .none .none .none (.str (s "likepanes.factors") 656) none (.ref 290) .none 0)), #[]⟩
noncomputable def o292 (P : Params) : Obj := ⟨(.type "tuple"), none, (.seq #[] 0), #[]⟩
noncomputable def o293 (P : Params) : Obj := ⟨.none, none, (.fields #[]), #[]⟩
noncomputable def o294 (P : Params) : Obj := ⟨(.type "tuple"), none, (.seq #[(.str (s "value") 740)] 0), #[]⟩
noncomputable def o295 (P : Params) : Obj := ⟨(.type "tuple"), none, (.seq #[] 0), #[]⟩
noncomputable def o296 (P : Params) : Obj := ⟨.none, none, (.func (fn (hT 32) (s "is_integer") (s "is_integer") 0 [] .none .none .none .none none .none .none 0)), #[]⟩
noncomputable def o297 (P : Params) : Obj := ⟨(.type "code"), none, (.fields #[(.str (s "is_integer") 737), (.str (s "is_integer") 738), (.str (s "/claim/cut.py") 739), (.int (153) 0), (.int (1) 0), (.int (0) 0), (.int (0) 0), (.int (3) 0), (.ref 292), (.bool true), (.int (374) 0), (.ref 293), .none, (.ref 294), (.ref 295), (.ref 296), (.int (741) 0), (.int (153) 0), (.str (s "/claim/cut.py") 742)]), #[]⟩
noncomputable def o298 (P : Params) : Obj := ⟨(.type "function"), none, (.func (fn (hT 32) (s "is_integer") (s "is_integer") 3 [] .none .none .none (.str (s "likepanes.kinds") 735) none (.ref 297) .none 0)), #[]⟩
noncomputable def o299 (P : Params) : Obj := ⟨(.type "tuple"), none, (.seq #[] 0), #[]⟩
noncomputable def o300 (P : Params) : Obj := ⟨.none, none, (.fields #[]), #[]⟩
noncomputable def o301 (P : Params) : Obj := ⟨.none, none, (.func (fn (hT 33) (s "are_integers") (s "are_integers") 0 [] .none .none .none .none none .none .none 0)), #[]⟩
noncomputable def o302 (P : Params) : Obj := ⟨(.type "code"), none, (.fields #[(.str (s "are_integers") 744), (.str (s "are_integers") 745), (.str (s "/claim/cut.py") 746), (.int (155) 0), (.int (1) 0), (.int (0) 0), (.int (0) 0), (.int (3) 0), (.ref 299), (.bool true), (.int (374) 0), (.ref 300), .none, .none, .none, (.ref 301), (.int (747) 0), (.int (155) 0), (.str (s "/claim/cut.py") 748)]), #[]⟩
noncomputable def o303 (P : Params) : Obj := ⟨(.type "function"), none, (.func (fn (hT 33) (s "are_integers") (s "are_integers") 3 [] .none .none .none (.str (s "likepanes.kinds") 735) none (.ref 302) .none 0)), #[]⟩
noncomputable def o304 (P : Params) : Obj := ⟨(.type "tuple"), none, (.seq #[] 0), #[]⟩
noncomputable def o305 (P : Params) : Obj := ⟨.none, none, (.fields #[]), #[]⟩
noncomputable def o306 (P : Params) : Obj := ⟨(.type "tuple"), none, (.seq #[(.str (s "value") 753), (.str (s "top") 754), (.str (s "bottom") 755)] 0), #[]⟩
noncomputable def o307 (P : Params) : Obj := ⟨(.type "tuple"), none, (.seq #[] 0), #[]⟩
noncomputable def o308 (P : Params) : Obj := ⟨.none, none, (.func (fn (hT 34) (s "is_fraction") (s "is_fraction") 0 [] .none .none .none .none none .none .none 0)), #[]⟩
noncomputable def o309 (P : Params) : Obj := ⟨(.type "code"), none, (.fields #[(.str (s "is_fraction") 750), (.str (s "is_fraction") 751), (.str (s "/claim/cut.py") 752), (.int (157) 0), (.int (1) 0), (.int (0) 0), (.int (0) 0), (.int (3) 0), (.ref 304), (.bool true), (.int (374) 0), (.ref 305), .none, (.ref 306), (.ref 307), (.ref 308), (.int (756) 0), (.int (157) 0), (.str (s "/claim/cut.py") 757)]), #[]⟩
noncomputable def o310 (P : Params) : Obj := ⟨(.type "function"), none, (.func (fn (hT 34) (s "is_fraction") (s "is_fraction") 3 [] .none .none .none (.str (s "likepanes.kinds") 735) none (.ref 309) .none 0)), #[]⟩
noncomputable def o311 (P : Params) : Obj := ⟨(.type "tuple"), none, (.seq #[] 0), #[]⟩
noncomputable def o312 (P : Params) : Obj := ⟨.none, none, (.fields #[]), #[]⟩
noncomputable def o313 (P : Params) : Obj := ⟨(.type "tuple"), none, (.seq #[(.str (s "one") 762), (.str (s "other") 763)] 0), #[]⟩
noncomputable def o314 (P : Params) : Obj := ⟨(.type "tuple"), none, (.seq #[] 0), #[]⟩
noncomputable def o315 (P : Params) : Obj := ⟨.none, none, (.func (fn (hT 35) (s "is_below") (s "is_below") 0 [] .none .none .none .none none .none .none 0)), #[]⟩
noncomputable def o316 (P : Params) : Obj := ⟨(.type "code"), none, (.fields #[(.str (s "is_below") 759), (.str (s "is_below") 760), (.str (s "/claim/cut.py") 761), (.int (162) 0), (.int (2) 0), (.int (0) 0), (.int (0) 0), (.int (3) 0), (.ref 311), (.bool true), (.int (374) 0), (.ref 312), .none, (.ref 313), (.ref 314), (.ref 315), (.int (764) 0), (.int (162) 0), (.str (s "/claim/cut.py") 765)]), #[]⟩
noncomputable def o317 (P : Params) : Obj := ⟨(.type "function"), none, (.func (fn (hT 35) (s "is_below") (s "is_below") 3 [] .none .none .none (.str (s "likepanes.kinds") 735) none (.ref 316) .none 0)), #[]⟩
noncomputable def o318 (P : Params) : Obj := ⟨(.type "tuple"), none, (.seq #[] 0), #[]⟩
noncomputable def o319 (P : Params) : Obj := ⟨.none, none, (.fields #[]), #[]⟩
noncomputable def o320 (P : Params) : Obj := ⟨(.type "tuple"), none, (.seq #[(.str (s "value") 770)] 0), #[]⟩
noncomputable def o321 (P : Params) : Obj := ⟨(.type "tuple"), none, (.seq #[] 0), #[]⟩
noncomputable def o322 (P : Params) : Obj := ⟨.none, none, (.func (fn (hT 36) (s "is_term") (s "is_term") 0 [] .none .none .none .none none .none .none 0)), #[]⟩
noncomputable def o323 (P : Params) : Obj := ⟨(.type "code"), none, (.fields #[(.str (s "is_term") 767), (.str (s "is_term") 768), (.str (s "/claim/cut.py") 769), (.int (164) 0), (.int (1) 0), (.int (0) 0), (.int (0) 0), (.int (3) 0), (.ref 318), (.bool true), (.int (374) 0), (.ref 319), .none, (.ref 320), (.ref 321), (.ref 322), (.int (771) 0), (.int (164) 0), (.str (s "/claim/cut.py") 772)]), #[]⟩
noncomputable def o324 (P : Params) : Obj := ⟨(.type "function"), none, (.func (fn (hT 36) (s "is_term") (s "is_term") 3 [] .none .none .none (.str (s "likepanes.kinds") 735) none (.ref 323) .none 0)), #[]⟩
noncomputable def o325 (P : Params) : Obj := ⟨(.type "tuple"), none, (.seq #[] 0), #[]⟩
noncomputable def o326 (P : Params) : Obj := ⟨.none, none, (.fields #[]), #[]⟩
noncomputable def o327 (P : Params) : Obj := ⟨(.type "tuple"), none, (.seq #[(.str (s "equation") 777), (.str (s "at") 778), (.str (s "term") 779), (.str (s "last") 780)] 0), #[]⟩
noncomputable def o328 (P : Params) : Obj := ⟨(.type "tuple"), none, (.seq #[] 0), #[]⟩
noncomputable def o329 (P : Params) : Obj := ⟨.none, none, (.func (fn (hT 37) (s "wrong_term") (s "wrong_term") 0 [] .none .none .none .none none .none .none 0)), #[]⟩
noncomputable def o330 (P : Params) : Obj := ⟨(.type "code"), none, (.fields #[(.str (s "wrong_term") 774), (.str (s "wrong_term") 775), (.str (s "/claim/cut.py") 776), (.int (166) 0), (.int (1) 0), (.int (0) 0), (.int (0) 0), (.int (3) 0), (.ref 325), (.bool true), (.int (374) 0), (.ref 326), .none, (.ref 327), (.ref 328), (.ref 329), (.int (781) 0), (.int (166) 0), (.str (s "/claim/cut.py") 782)]), #[]⟩
noncomputable def o331 (P : Params) : Obj := ⟨(.type "function"), none, (.func (fn (hT 37) (s "wrong_term") (s "wrong_term") 3 [] .none .none .none (.str (s "likepanes.kinds") 735) none (.ref 330) .none 0)), #[]⟩
noncomputable def o332 (P : Params) : Obj := ⟨(.type "tuple"), none, (.seq #[] 0), #[]⟩
noncomputable def o333 (P : Params) : Obj := ⟨.none, none, (.fields #[]), #[]⟩
noncomputable def o334 (P : Params) : Obj := ⟨(.type "tuple"), none, (.seq #[(.str (s "terms") 791), (.str (s "chain") 792)] 0), #[]⟩
noncomputable def o335 (P : Params) : Obj := ⟨(.type "tuple"), none, (.seq #[] 0), #[]⟩
noncomputable def o336 (P : Params) : Obj := ⟨.none, none, (.func (fn (hT 40) (s "sturm_chain") (s "sturm_chain") 0 [] .none .none .none .none none .none .none 0)), #[]⟩
noncomputable def o337 (P : Params) : Obj := ⟨(.type "code"), none, (.fields #[(.str (s "sturm_chain") 788), (.str (s "sturm_chain") 789), (.str (s "/claim/cut.py") 790), (.int (174) 0), (.int (1) 0), (.int (0) 0), (.int (0) 0), (.int (3) 0), (.ref 332), (.bool true), (.int (374) 0), (.ref 333), .none, (.ref 334), (.ref 335), (.ref 336), (.int (793) 0), (.int (174) 0), (.str (s "/claim/cut.py") 794)]), #[]⟩
noncomputable def o338 (P : Params) : Obj := ⟨(.type "function"), none, (.func (fn (hT 40) (s "sturm_chain") (s "sturm_chain") 3 [] .none .none .none (.str (s "likepanes.roots") 784) none (.ref 337) .none 0)), #[]⟩
noncomputable def o339 (P : Params) : Obj := ⟨(.type "tuple"), none, (.seq #[] 0), #[]⟩
noncomputable def o340 (P : Params) : Obj := ⟨.none, none, (.fields #[]), #[]⟩
noncomputable def o341 (P : Params) : Obj := ⟨.none, none, (.func (fn (hT 41) (s "changes") (s "changes") 0 [] .none .none .none .none none .none .none 0)), #[]⟩
noncomputable def o342 (P : Params) : Obj := ⟨(.type "code"), none, (.fields #[(.str (s "changes") 796), (.str (s "changes") 797), (.str (s "/claim/cut.py") 798), (.int (180) 0), (.int (3) 0), (.int (0) 0), (.int (0) 0), (.int (3) 0), (.ref 339), (.bool true), (.int (374) 0), (.ref 340), .none, .none, .none, (.ref 341), (.int (799) 0), (.int (180) 0), (.str (s "/claim/cut.py") 800)]), #[]⟩
noncomputable def o343 (P : Params) : Obj := ⟨(.type "function"), none, (.func (fn (hT 41) (s "changes") (s "changes") 3 [] .none .none .none (.str (s "likepanes.roots") 784) none (.ref 342) .none 0)), #[]⟩
noncomputable def o344 (P : Params) : Obj := ⟨(.type "tuple"), none, (.seq #[] 0), #[]⟩
noncomputable def o345 (P : Params) : Obj := ⟨.none, none, (.fields #[]), #[]⟩
noncomputable def o346 (P : Params) : Obj := ⟨.none, none, (.func (fn (hT 42) (s "reach") (s "reach") 0 [] .none .none .none .none none .none .none 0)), #[]⟩
noncomputable def o347 (P : Params) : Obj := ⟨(.type "code"), none, (.fields #[(.str (s "reach") 802), (.str (s "reach") 803), (.str (s "/claim/cut.py") 804), (.int (184) 0), (.int (1) 0), (.int (0) 0), (.int (0) 0), (.int (3) 0), (.ref 344), (.bool true), (.int (374) 0), (.ref 345), .none, .none, .none, (.ref 346), (.int (805) 0), (.int (184) 0), (.str (s "/claim/cut.py") 806)]), #[]⟩
noncomputable def o348 (P : Params) : Obj := ⟨(.type "function"), none, (.func (fn (hT 42) (s "reach") (s "reach") 3 [] .none .none .none (.str (s "likepanes.roots") 784) none (.ref 347) .none 0)), #[]⟩
noncomputable def o349 (P : Params) : Obj := ⟨(.type "tuple"), none, (.seq #[] 0), #[]⟩
noncomputable def o350 (P : Params) : Obj := ⟨.none, none, (.fields #[]), #[]⟩
noncomputable def o351 (P : Params) : Obj := ⟨(.type "tuple"), none, (.seq #[(.str (s "chain") 811), (.str (s "top") 812), (.str (s "bottom") 813)] 0), #[]⟩
noncomputable def o352 (P : Params) : Obj := ⟨(.type "tuple"), none, (.seq #[] 0), #[]⟩
noncomputable def o353 (P : Params) : Obj := ⟨.none, none, (.func (fn (hT 43) (s "roots_up_to") (s "roots_up_to") 0 [] .none .none .none .none none .none .none 0)), #[]⟩
noncomputable def o354 (P : Params) : Obj := ⟨(.type "code"), none, (.fields #[(.str (s "roots_up_to") 808), (.str (s "roots_up_to") 809), (.str (s "/claim/cut.py") 810), (.int (186) 0), (.int (3) 0), (.int (0) 0), (.int (0) 0), (.int (3) 0), (.ref 349), (.bool true), (.int (374) 0), (.ref 350), .none, (.ref 351), (.ref 352), (.ref 353), (.int (814) 0), (.int (186) 0), (.str (s "/claim/cut.py") 815)]), #[]⟩
noncomputable def o355 (P : Params) : Obj := ⟨(.type "function"), none, (.func (fn (hT 43) (s "roots_up_to") (s "roots_up_to") 3 [] .none .none .none (.str (s "likepanes.roots") 784) none (.ref 354) .none 0)), #[]⟩
noncomputable def o356 (P : Params) : Obj := ⟨(.type "tuple"), none, (.seq #[] 0), #[]⟩
noncomputable def o357 (P : Params) : Obj := ⟨.none, none, (.fields #[]), #[]⟩
noncomputable def o358 (P : Params) : Obj := ⟨(.type "tuple"), none, (.seq #[(.str (s "chain") 820)] 0), #[]⟩
noncomputable def o359 (P : Params) : Obj := ⟨(.type "tuple"), none, (.seq #[] 0), #[]⟩
noncomputable def o360 (P : Params) : Obj := ⟨.none, none, (.func (fn (hT 44) (s "roots_in_all") (s "roots_in_all") 0 [] .none .none .none .none none .none .none 0)), #[]⟩
noncomputable def o361 (P : Params) : Obj := ⟨(.type "code"), none, (.fields #[(.str (s "roots_in_all") 817), (.str (s "roots_in_all") 818), (.str (s "/claim/cut.py") 819), (.int (188) 0), (.int (1) 0), (.int (0) 0), (.int (0) 0), (.int (3) 0), (.ref 356), (.bool true), (.int (374) 0), (.ref 357), .none, (.ref 358), (.ref 359), (.ref 360), (.int (821) 0), (.int (188) 0), (.str (s "/claim/cut.py") 822)]), #[]⟩
noncomputable def o362 (P : Params) : Obj := ⟨(.type "function"), none, (.func (fn (hT 44) (s "roots_in_all") (s "roots_in_all") 3 [] .none .none .none (.str (s "likepanes.roots") 784) none (.ref 361) .none 0)), #[]⟩
noncomputable def o363 (P : Params) : Obj := ⟨(.type "tuple"), none, (.seq #[] 0), #[]⟩
noncomputable def o364 (P : Params) : Obj := ⟨.none, none, (.fields #[]), #[]⟩
noncomputable def o365 (P : Params) : Obj := ⟨(.type "tuple"), none, (.seq #[(.str (s "terms") 827), (.str (s "low") 828), (.str (s "high") 829), (.str (s "chain") 830), (.str (s "many") 831)] 0), #[]⟩
noncomputable def o366 (P : Params) : Obj := ⟨(.type "tuple"), none, (.seq #[] 0), #[]⟩
noncomputable def o367 (P : Params) : Obj := ⟨.none, none, (.func (fn (hT 45) (s "roots_within") (s "roots_within") 0 [] .none .none .none .none none .none .none 0)), #[]⟩
noncomputable def o368 (P : Params) : Obj := ⟨(.type "code"), none, (.fields #[(.str (s "roots_within") 824), (.str (s "roots_within") 825), (.str (s "/claim/cut.py") 826), (.int (190) 0), (.int (3) 0), (.int (0) 0), (.int (0) 0), (.int (3) 0), (.ref 363), (.bool true), (.int (374) 0), (.ref 364), .none, (.ref 365), (.ref 366), (.ref 367), (.int (832) 0), (.int (190) 0), (.str (s "/claim/cut.py") 833)]), #[]⟩
noncomputable def o369 (P : Params) : Obj := ⟨(.type "function"), none, (.func (fn (hT 45) (s "roots_within") (s "roots_within") 3 [] .none .none .none (.str (s "likepanes.roots") 784) none (.ref 368) .none 0)), #[]⟩
noncomputable def o370 (P : Params) : Obj := ⟨(.type "tuple"), none, (.seq #[] 0), #[]⟩
noncomputable def o371 (P : Params) : Obj := ⟨.none, none, (.fields #[]), #[]⟩
noncomputable def o372 (P : Params) : Obj := ⟨(.type "tuple"), none, (.seq #[(.str (s "terms") 838), (.str (s "high") 839)] 0), #[]⟩
noncomputable def o373 (P : Params) : Obj := ⟨(.type "tuple"), none, (.seq #[] 0), #[]⟩
noncomputable def o374 (P : Params) : Obj := ⟨.none, none, (.func (fn (hT 46) (s "rank_of_last") (s "rank_of_last") 0 [] .none .none .none .none none .none .none 0)), #[]⟩
noncomputable def o375 (P : Params) : Obj := ⟨(.type "code"), none, (.fields #[(.str (s "rank_of_last") 835), (.str (s "rank_of_last") 836), (.str (s "/claim/cut.py") 837), (.int (196) 0), (.int (2) 0), (.int (0) 0), (.int (0) 0), (.int (3) 0), (.ref 370), (.bool true), (.int (374) 0), (.ref 371), .none, (.ref 372), (.ref 373), (.ref 374), (.int (840) 0), (.int (196) 0), (.str (s "/claim/cut.py") 841)]), #[]⟩
noncomputable def o376 (P : Params) : Obj := ⟨(.type "function"), none, (.func (fn (hT 46) (s "rank_of_last") (s "rank_of_last") 3 [] .none .none .none (.str (s "likepanes.roots") 784) none (.ref 375) .none 0)), #[]⟩
noncomputable def o377 (P : Params) : Obj := ⟨(.type "tuple"), none, (.seq #[] 0), #[]⟩
noncomputable def o378 (P : Params) : Obj := ⟨.none, none, (.fields #[]), #[]⟩
noncomputable def o379 (P : Params) : Obj := ⟨(.type "tuple"), none, (.seq #[(.str (s "equation") 846), (.str (s "rank") 847), (.str (s "near") 848), (.str (s "bits") 849), (.str (s "wanted") 850)] 0), #[]⟩
noncomputable def o380 (P : Params) : Obj := ⟨(.type "tuple"), none, (.seq #[] 0), #[]⟩
noncomputable def o381 (P : Params) : Obj := ⟨.none, none, (.func (fn (hT 47) (s "stretch_of") (s "stretch_of") 0 [] .none .none .none .none none .none .none 0)), #[]⟩
noncomputable def o382 (P : Params) : Obj := ⟨(.type "code"), none, (.fields #[(.str (s "stretch_of") 843), (.str (s "stretch_of") 844), (.str (s "/claim/cut.py") 845), (.int (198) 0), (.int (2) 0), (.int (0) 0), (.int (0) 0), (.int (3) 0), (.ref 377), (.bool true), (.int (374) 0), (.ref 378), .none, (.ref 379), (.ref 380), (.ref 381), (.int (851) 0), (.int (198) 0), (.str (s "/claim/cut.py") 852)]), #[]⟩
noncomputable def o383 (P : Params) : Obj := ⟨(.type "function"), none, (.func (fn (hT 47) (s "stretch_of") (s "stretch_of") 3 [] .none .none .none (.str (s "likepanes.roots") 784) none (.ref 382) .none 0)), #[]⟩
noncomputable def o384 (P : Params) : Obj := ⟨(.type "tuple"), none, (.seq #[] 0), #[]⟩
noncomputable def o385 (P : Params) : Obj := ⟨.none, none, (.fields #[]), #[]⟩
noncomputable def o386 (P : Params) : Obj := ⟨(.type "tuple"), none, (.seq #[(.str (s "equation") 857), (.str (s "rank") 858), (.str (s "chain") 859), (.str (s "low") 860), (.str (s "high") 861), (.str (s "bits") 862), (.str (s "middle") 863)] 0), #[]⟩
noncomputable def o387 (P : Params) : Obj := ⟨(.type "tuple"), none, (.seq #[] 0), #[]⟩
noncomputable def o388 (P : Params) : Obj := ⟨.none, none, (.func (fn (hT 48) (s "lonely_stretch") (s "lonely_stretch") 0 [] .none .none .none .none none .none .none 0)), #[]⟩
noncomputable def o389 (P : Params) : Obj := ⟨(.type "code"), none, (.fields #[(.str (s "lonely_stretch") 854), (.str (s "lonely_stretch") 855), (.str (s "/claim/cut.py") 856), (.int (202) 0), (.int (2) 0), (.int (0) 0), (.int (0) 0), (.int (3) 0), (.ref 384), (.bool true), (.int (374) 0), (.ref 385), .none, (.ref 386), (.ref 387), (.ref 388), (.int (864) 0), (.int (202) 0), (.str (s "/claim/cut.py") 865)]), #[]⟩
noncomputable def o390 (P : Params) : Obj := ⟨(.type "function"), none, (.func (fn (hT 48) (s "lonely_stretch") (s "lonely_stretch") 3 [] .none .none .none (.str (s "likepanes.roots") 784) none (.ref 389) .none 0)), #[]⟩
noncomputable def o391 (P : Params) : Obj := ⟨(.type "tuple"), none, (.seq #[] 0), #[]⟩
noncomputable def o392 (P : Params) : Obj := ⟨.none, none, (.fields #[]), #[]⟩
noncomputable def o393 (P : Params) : Obj := ⟨(.type "tuple"), none, (.seq #[(.str (s "equation") 870), (.str (s "near") 871), (.str (s "bits") 872), (.str (s "wanted") 873), (.str (s "step") 874), (.str (s "closer") 875)] 0), #[]⟩
noncomputable def o394 (P : Params) : Obj := ⟨(.type "tuple"), none, (.seq #[] 0), #[]⟩
noncomputable def o395 (P : Params) : Obj := ⟨.none, none, (.func (fn (hT 49) (s "refined") (s "refined") 0 [] .none .none .none .none none .none .none 0)), #[]⟩
noncomputable def o396 (P : Params) : Obj := ⟨(.type "code"), none, (.fields #[(.str (s "refined") 867), (.str (s "refined") 868), (.str (s "/claim/cut.py") 869), (.int (214) 0), (.int (4) 0), (.int (0) 0), (.int (0) 0), (.int (3) 0), (.ref 391), (.bool true), (.int (374) 0), (.ref 392), .none, (.ref 393), (.ref 394), (.ref 395), (.int (876) 0), (.int (214) 0), (.str (s "/claim/cut.py") 877)]), #[]⟩
noncomputable def o397 (P : Params) : Obj := ⟨(.type "function"), none, (.func (fn (hT 49) (s "refined") (s "refined") 3 [] .none .none .none (.str (s "likepanes.roots") 784) none (.ref 396) .none 0)), #[]⟩
noncomputable def t3 (P : Params) : BT := (n (o0 P) (n (o1 P) (n (o3_3 P) (n (o7 P) (n (o15 P) (n (o31 P) (n (o63 P) (n (o127 P) (n (o255 P) z z) (n (o383 P) z z)) (n (o191 P) (n (o319 P) z z) z)) (n (o95 P) (n (o159 P) (n (o287 P) z z) z) (n (o223 P) (n (o351 P) z z) z))) (n (o47 P) (n (o79 P) (n (o143 P) (n (o271 P) z z) z) (n (o207 P) (n (o335 P) z z) z)) (n (o111 P) (n (o175 P) (n (o303 P) z z) z) (n (o239 P) (n (o367 P) z z) z)))) (n (o23 P) (n (o39 P) (n (o71 P) (n (o135 P) (n (o263 P) z z) (n (o391 P) z z)) (n (o199 P) (n (o327 P) z z) z)) (n (o103 P) (n (o167 P) (n (o295 P) z z) z) (n (o231 P) (n (o359 P) z z) z))) (n (o55 P) (n (o87 P) (n (o151 P) (n (o279 P) z z) z) (n (o215 P) (n (o343 P) z z) z)) (n (o119 P) (n (o183 P) (n (o311 P) z z) z) (n (o247 P) (n (o375 P) z z) z))))) (n (o11 P) (n (o19 P) (n (o35 P) (n (o67 P) (n (o131 P) (n (o259 P) z z) (n (o387 P) z z)) (n (o195 P) (n (o323 P) z z) z)) (n (o99 P) (n (o163 P) (n (o291 P) z z) z) (n (o227 P) (n (o355 P) z z) z))) (n (o51 P) (n (o83 P) (n (o147 P) (n (o275 P) z z) z) (n (o211 P) (n (o339 P) z z) z)) (n (o115 P) (n (o179 P) (n (o307 P) z z) z) (n (o243 P) (n (o371 P) z z) z)))) (n (o27 P) (n (o43 P) (n (o75 P) (n (o139 P) (n (o267 P) z z) (n (o395 P) z z)) (n (o203 P) (n (o331 P) z z) z)) (n (o107 P) (n (o171 P) (n (o299 P) z z) z) (n (o235 P) (n (o363 P) z z) z))) (n (o59 P) (n (o91 P) (n (o155 P) (n (o283 P) z z) z) (n (o219 P) (n (o347 P) z z) z)) (n (o123 P) (n (o187 P) (n (o315 P) z z) z) (n (o251 P) (n (o379 P) z z) z)))))) (n (o5 P) (n (o9 P) (n (o17 P) (n (o33 P) (n (o65 P) (n (o129 P) (n (o257 P) z z) (n (o385 P) z z)) (n (o193 P) (n (o321 P) z z) z)) (n (o97 P) (n (o161 P) (n (o289 P) z z) z) (n (o225 P) (n (o353 P) z z) z))) (n (o49 P) (n (o81 P) (n (o145 P) (n (o273 P) z z) z) (n (o209 P) (n (o337 P) z z) z)) (n (o113 P) (n (o177 P) (n (o305 P) z z) z) (n (o241 P) (n (o369 P) z z) z)))) (n (o25 P) (n (o41 P) (n (o73 P) (n (o137 P) (n (o265 P) z z) (n (o393 P) z z)) (n (o201 P) (n (o329 P) z z) z)) (n (o105 P) (n (o169 P) (n (o297 P) z z) z) (n (o233 P) (n (o361 P) z z) z))) (n (o57 P) (n (o89 P) (n (o153 P) (n (o281 P) z z) z) (n (o217 P) (n (o345 P) z z) z)) (n (o121 P) (n (o185 P) (n (o313 P) z z) z) (n (o249 P) (n (o377 P) z z) z))))) (n (o13 P) (n (o21 P) (n (o37 P) (n (o69 P) (n (o133 P) (n (o261 P) z z) (n (o389 P) z z)) (n (o197 P) (n (o325 P) z z) z)) (n (o101 P) (n (o165 P) (n (o293 P) z z) z) (n (o229 P) (n (o357 P) z z) z))) (n (o53 P) (n (o85 P) (n (o149 P) (n (o277 P) z z) z) (n (o213 P) (n (o341 P) z z) z)) (n (o117 P) (n (o181 P) (n (o309 P) z z) z) (n (o245 P) (n (o373 P) z z) z)))) (n (o29 P) (n (o45 P) (n (o77 P) (n (o141 P) (n (o269 P) z z) (n (o397 P) z z)) (n (o205 P) (n (o333 P) z z) z)) (n (o109 P) (n (o173 P) (n (o301 P) z z) z) (n (o237 P) (n (o365 P) z z) z))) (n (o61 P) (n (o93 P) (n (o157 P) (n (o285 P) z z) z) (n (o221 P) (n (o349 P) z z) z)) (n (o125 P) (n (o189 P) (n (o317 P) z z) z) (n (o253 P) (n (o381 P) z z) z))))))) (n (o2_2 P) (n (o4 P) (n (o8 P) (n (o16 P) (n (o32 P) (n (o64 P) (n (o128 P) (n (o256 P) z z) (n (o384 P) z z)) (n (o192 P) (n (o320 P) z z) z)) (n (o96 P) (n (o160 P) (n (o288 P) z z) z) (n (o224 P) (n (o352 P) z z) z))) (n (o48 P) (n (o80 P) (n (o144 P) (n (o272 P) z z) z) (n (o208 P) (n (o336 P) z z) z)) (n (o112 P) (n (o176 P) (n (o304 P) z z) z) (n (o240 P) (n (o368 P) z z) z)))) (n (o24 P) (n (o40_3 P) (n (o72 P) (n (o136 P) (n (o264 P) z z) (n (o392 P) z z)) (n (o200 P) (n (o328 P) z z) z)) (n (o104 P) (n (o168 P) (n (o296 P) z z) z) (n (o232 P) (n (o360 P) z z) z))) (n (o56 P) (n (o88 P) (n (o152 P) (n (o280 P) z z) z) (n (o216 P) (n (o344 P) z z) z)) (n (o120 P) (n (o184 P) (n (o312 P) z z) z) (n (o248 P) (n (o376 P) z z) z))))) (n (o12_0 P) (n (o20 P) (n (o36 P) (n (o68 P) (n (o132 P) (n (o260 P) z z) (n (o388 P) z z)) (n (o196 P) (n (o324 P) z z) z)) (n (o100 P) (n (o164 P) (n (o292 P) z z) z) (n (o228 P) (n (o356 P) z z) z))) (n (o52_2 P) (n (o84 P) (n (o148 P) (n (o276 P) z z) z) (n (o212 P) (n (o340 P) z z) z)) (n (o116 P) (n (o180 P) (n (o308 P) z z) z) (n (o244 P) (n (o372 P) z z) z)))) (n (o28 P) (n (o44 P) (n (o76 P) (n (o140 P) (n (o268 P) z z) (n (o396 P) z z)) (n (o204 P) (n (o332 P) z z) z)) (n (o108 P) (n (o172 P) (n (o300 P) z z) z) (n (o236 P) (n (o364 P) z z) z))) (n (o60 P) (n (o92 P) (n (o156 P) (n (o284 P) z z) z) (n (o220 P) (n (o348 P) z z) z)) (n (o124 P) (n (o188 P) (n (o316 P) z z) z) (n (o252 P) (n (o380 P) z z) z)))))) (n (o6 P) (n (o10 P) (n (o18 P) (n (o34 P) (n (o66 P) (n (o130 P) (n (o258 P) z z) (n (o386 P) z z)) (n (o194 P) (n (o322 P) z z) z)) (n (o98 P) (n (o162 P) (n (o290 P) z z) z) (n (o226 P) (n (o354 P) z z) z))) (n (o50 P) (n (o82 P) (n (o146 P) (n (o274 P) z z) z) (n (o210 P) (n (o338 P) z z) z)) (n (o114 P) (n (o178 P) (n (o306 P) z z) z) (n (o242 P) (n (o370 P) z z) z)))) (n (o26 P) (n (o42 P) (n (o74 P) (n (o138 P) (n (o266 P) z z) (n (o394 P) z z)) (n (o202 P) (n (o330 P) z z) z)) (n (o106 P) (n (o170 P) (n (o298 P) z z) z) (n (o234 P) (n (o362 P) z z) z))) (n (o58 P) (n (o90 P) (n (o154 P) (n (o282 P) z z) z) (n (o218 P) (n (o346 P) z z) z)) (n (o122 P) (n (o186 P) (n (o314 P) z z) z) (n (o250 P) (n (o378 P) z z) z))))) (n (o14 P) (n (o22 P) (n (o38 P) (n (o70 P) (n (o134 P) (n (o262 P) z z) (n (o390 P) z z)) (n (o198 P) (n (o326 P) z z) z)) (n (o102 P) (n (o166 P) (n (o294 P) z z) z) (n (o230 P) (n (o358 P) z z) z))) (n (o54 P) (n (o86 P) (n (o150 P) (n (o278 P) z z) z) (n (o214 P) (n (o342 P) z z) z)) (n (o118 P) (n (o182 P) (n (o310 P) z z) z) (n (o246 P) (n (o374 P) z z) z)))) (n (o30 P) (n (o46 P) (n (o78 P) (n (o142 P) (n (o270 P) z z) z) (n (o206 P) (n (o334 P) z z) z)) (n (o110 P) (n (o174 P) (n (o302 P) z z) z) (n (o238 P) (n (o366 P) z z) z))) (n (o62 P) (n (o94 P) (n (o158 P) (n (o286 P) z z) z) (n (o222 P) (n (o350 P) z z) z)) (n (o126 P) (n (o190 P) (n (o318 P) z z) z) (n (o254 P) (n (o382 P) z z) z))))))))
noncomputable def X3 (w : World) (os : OsState) : SharedT := ⟨t3 w.params, 398, {}, #[], {}, 879, os⟩
noncomputable def o3_4 (P : Params) : Obj := ⟨(.type "dict"), none, (.dict #[k P "__name__" 165 (.str (s "likepanes.shapes") 895), k P "__doc__" 166 .none, k P "__package__" 167 .none, k P "__loader__" 168 (.builtin "__main__.__loader__#opaque"), k P "__spec__" 169 .none, k P "__annotations__" 170 (.ref 6), k P "__builtins__" 171 (.ref 4), k P "__file__" 173 (.str (s "/claim/cut.py") 172), k P "__cached__" 174 .none, k P "gcd" 370 (.builtin "math.gcd"), k P "isqrt" 373 (.builtin "math.isqrt"), k P "BadValue" 399 (.ref 52), k P "InvalidText" 424 (.ref 72), k P "InvalidFraction" 449 (.ref 91), k P "NotAShape" 474 (.ref 110), k P "InvalidEquation" 499 (.ref 129), k P "NoAnswer" 519 (.ref 141), k P "NoRoot" 542 (.ref 161), k P "TooMany" 567 (.ref 180), k P "trimmed" 577 (.ref 189), k P "common_divisor" 586 (.ref 196), k P "primitive" 592 (.ref 201), k P "negative" 598 (.ref 206), k P "derivative" 604 (.ref 211), k P "value_at" 616 (.ref 218), k P "combined" 630 (.ref 225), k P "remainder" 640 (.ref 232), k P "divided" 655 (.ref 239), k P "is_least" 664 (.ref 246), k P "factors_of" 674 (.ref 253), k P "least_factor" 682 (.ref 260), k P "divisors" 688 (.ref 265), k P "linear_factor" 699 (.ref 272), k P "quadratic_factor" 712 (.ref 279), k P "middles" 724 (.ref 286), k P "whole_roots" 730 (.ref 291), k P "MOST_DEGREE" 732 (.int (5) 731), k P "MOST_TERM" 734 (.int (1000) 733), k P "is_integer" 743 (.ref 298), k P "are_integers" 749 (.ref 303), k P "is_fraction" 758 (.ref 310), k P "is_below" 766 (.ref 317), k P "is_term" 773 (.ref 324), k P "wrong_term" 783 (.ref 331), k P "FIRST_BITS" 787 (.int (64) 786), k P "sturm_chain" 795 (.ref 338), k P "changes" 801 (.ref 343), k P "reach" 807 (.ref 348), k P "roots_up_to" 816 (.ref 355), k P "roots_in_all" 823 (.ref 362), k P "roots_within" 834 (.ref 369), k P "rank_of_last" 842 (.ref 376), k P "stretch_of" 853 (.ref 383), k P "lonely_stretch" 866 (.ref 390), k P "refined" 878 (.ref 397), k P "guessed" 894 (.ref 404), k P "Shape" 1004 (.ref 482), k P "less" 1013 (.ref 493), k P "alike" 1021 (.ref 500), k P "check_shape" 1028 (.ref 507)] 60), #[]⟩
noncomputable def o40_4 (P : Params) : Obj := ⟨.none, none, (.fields #[(.int (3) 0), (.int (0) 0), (.ref 48), (.int (5) 0), (.int (0) 0), (.ref 61), (.int (10) 0), (.int (0) 0), (.ref 80), (.int (15) 0), (.int (0) 0), (.ref 99), (.int (20) 0), (.int (0) 0), (.ref 118), (.int (25) 0), (.int (0) 0), (.ref 137), (.int (27) 0), (.int (0) 0), (.ref 150), (.int (31) 0), (.int (0) 0), (.ref 169), (.int (37) 0), (.int (0) 0), (.ref 188), (.int (42) 0), (.int (0) 0), (.ref 195), (.int (47) 0), (.int (0) 0), (.ref 200), (.int (50) 0), (.int (0) 0), (.ref 205), (.int (52) 0), (.int (0) 0), (.ref 210), (.int (54) 0), (.int (0) 0), (.ref 217), (.int (60) 0), (.int (0) 0), (.ref 224), (.int (67) 0), (.int (0) 0), (.ref 231), (.int (73) 0), (.int (0) 0), (.ref 238), (.int (88) 0), (.int (0) 0), (.ref 245), (.int (92) 0), (.int (0) 0), (.ref 252), (.int (103) 0), (.int (0) 0), (.ref 259), (.int (110) 0), (.int (0) 0), (.ref 264), (.int (112) 0), (.int (0) 0), (.ref 271), (.int (124) 0), (.int (0) 0), (.ref 278), (.int (134) 0), (.int (0) 0), (.ref 285), (.int (141) 0), (.int (0) 0), (.ref 290), (.int (153) 0), (.int (0) 0), (.ref 297), (.int (155) 0), (.int (0) 0), (.ref 302), (.int (157) 0), (.int (0) 0), (.ref 309), (.int (162) 0), (.int (0) 0), (.ref 316), (.int (164) 0), (.int (0) 0), (.ref 323), (.int (166) 0), (.int (0) 0), (.ref 330), (.int (174) 0), (.int (0) 0), (.ref 337), (.int (180) 0), (.int (0) 0), (.ref 342), (.int (184) 0), (.int (0) 0), (.ref 347), (.int (186) 0), (.int (0) 0), (.ref 354), (.int (188) 0), (.int (0) 0), (.ref 361), (.int (190) 0), (.int (0) 0), (.ref 368), (.int (196) 0), (.int (0) 0), (.ref 375), (.int (198) 0), (.int (0) 0), (.ref 382), (.int (202) 0), (.int (0) 0), (.ref 389), (.int (214) 0), (.int (0) 0), (.ref 396), (.int (226) 0), (.int (0) 0), (.ref 403), (.int (239) 0), (.int (0) 0), (.ref 410), (.int (286) 0), (.int (0) 0), (.ref 492), (.int (295) 0), (.int (0) 0), (.ref 499), (.int (299) 0), (.int (0) 0), (.ref 506)]), #[]⟩
noncomputable def o398 (P : Params) : Obj := ⟨(.type "tuple"), none, (.seq #[] 0), #[]⟩
noncomputable def o399 (P : Params) : Obj := ⟨.none, none, (.fields #[]), #[]⟩
noncomputable def o400 (P : Params) : Obj := ⟨(.type "tuple"), none, (.seq #[(.str (s "equation") 882), (.str (s "near") 883), (.str (s "bits") 884), (.str (s "step") 885), (.str (s "low") 886), (.str (s "high") 887), (.str (s "bottom") 888), (.str (s "place") 889), (.str (s "starts") 890), (.str (s "ends") 891)] 0), #[]⟩
noncomputable def o401 (P : Params) : Obj := ⟨(.type "tuple"), none, (.seq #[] 0), #[]⟩
noncomputable def o402 (P : Params) : Obj := ⟨.none, none, (.func (fn (hT 50) (s "guessed") (s "guessed") 0 [] .none .none .none .none none .none .none 0)), #[]⟩
noncomputable def o403 (P : Params) : Obj := ⟨(.type "code"), none, (.fields #[(.str (s "guessed") 879), (.str (s "guessed") 880), (.str (s "/claim/cut.py") 881), (.int (226) 0), (.int (4) 0), (.int (0) 0), (.int (0) 0), (.int (3) 0), (.ref 398), (.bool true), (.int (374) 0), (.ref 399), .none, (.ref 400), (.ref 401), (.ref 402), (.int (892) 0), (.int (226) 0), (.str (s "/claim/cut.py") 893)]), #[]⟩
noncomputable def o404 (P : Params) : Obj := ⟨(.type "function"), none, (.func (fn (hT 50) (s "guessed") (s "guessed") 3 [] .none .none .none (.str (s "likepanes.roots") 784) none (.ref 403) .none 0)), #[]⟩
noncomputable def o405 (P : Params) : Obj := ⟨(.type "tuple"), none, (.seq #[] 0), #[]⟩
noncomputable def o406 (P : Params) : Obj := ⟨(.type "builtin_function_or_method"), none, (.fields #[(.builtin "type.__prepare__"), (.type "type")]), #[]⟩
noncomputable def o407 (P : Params) : Obj := ⟨(.type "dict"), none, (.dict #[k P "__module__" 904 (.str (s "likepanes.shapes") 895), k P "__qualname__" 906 (.str (s "Shape") 905), k P "__firstlineno__" 908 (.int (239) 907), k P "__init__" 917 (.ref 418), k P "of" 935 (.ref 425), k P "text" 943 (.ref 434), k P "equation" 951 (.ref 442), k P "degree" 959 (.ref 450), k P "rank" 967 (.ref 458), k P "floor_at" 975 (.ref 465), k P "__eq__" 983 (.ref 472), k P "__str__" 990 (.ref 479), k P "__static_attributes__" 996 (.ref 480)] 13), #[]⟩
noncomputable def o408 (P : Params) : Obj := ⟨(.type "tuple"), none, (.seq #[] 0), #[]⟩
noncomputable def o409 (P : Params) : Obj := ⟨.none, none, (.fields #[(.int (241) 0), (.int (4) 0), (.ref 417), (.int (250) 0), (.int (4) 0), (.ref 422), (.int (261) 0), (.int (4) 0), (.ref 432), (.int (265) 0), (.int (4) 0), (.ref 440), (.int (269) 0), (.int (4) 0), (.ref 448), (.int (273) 0), (.int (4) 0), (.ref 456), (.int (276) 0), (.int (4) 0), (.ref 464), (.int (281) 0), (.int (4) 0), (.ref 471), (.int (284) 0), (.int (4) 0), (.ref 478)]), #[]⟩
noncomputable def o410 (P : Params) : Obj := ⟨(.type "code"), none, (.fields #[(.str (s "Shape") 899), (.str (s "Shape") 900), (.str (s "/claim/cut.py") 901), (.int (239) 0), (.int (0) 0), (.int (0) 0), (.int (0) 0), (.int (0) 0), (.ref 408), (.bool false), (.int (374) 0), (.ref 409), .none, .none, .none, .none, (.int (902) 0), (.int (239) 0), (.str (s "/claim/cut.py") 903)]), #[]⟩
noncomputable def o411 (P : Params) : Obj := ⟨(.type "frame"), none, .plain, #[(some (.ref 410)), (some (.ref 3)), (some (.ref 407)), none, (some (.str (s "likepanes.shapes") 895)), none, (some (.ref 0))]⟩
noncomputable def o412 (P : Params) : Obj := ⟨(.type "tuple"), none, (.seq #[] 0), #[]⟩
noncomputable def o413 (P : Params) : Obj := ⟨.none, none, (.fields #[]), #[]⟩
noncomputable def o414 (P : Params) : Obj := ⟨(.type "tuple"), none, (.seq #[(.str (s "self") 912), (.str (s "text") 913), (.str (s "told") 914)] 0), #[]⟩
noncomputable def o415 (P : Params) : Obj := ⟨(.type "tuple"), none, (.seq #[] 0), #[]⟩
noncomputable def o416 (P : Params) : Obj := ⟨.none, none, (.func (fn (L2.inClass (hT 52) 0) (s "__init__") (s "Shape.__init__") 0 [] .none .none .none .none none .none .none 0)), #[]⟩
noncomputable def o417 (P : Params) : Obj := ⟨(.type "code"), none, (.fields #[(.str (s "__init__") 909), (.str (s "Shape.__init__") 910), (.str (s "/claim/cut.py") 911), (.int (241) 0), (.int (2) 0), (.int (0) 0), (.int (0) 0), (.int (3) 0), (.ref 412), (.bool true), (.int (374) 0), (.ref 413), .none, (.ref 414), (.ref 415), (.ref 416), (.int (915) 0), (.int (241) 0), (.str (s "/claim/cut.py") 916)]), #[]⟩
noncomputable def o418 (P : Params) : Obj := ⟨(.type "function"), none, (.func (fn (L2.inClass (hT 52) 0) (s "__init__") (s "Shape.__init__") 3 [] .none .none .none (.str (s "likepanes.shapes") 895) none (.ref 417) .none 0)), #[]⟩
noncomputable def o419 (P : Params) : Obj := ⟨(.type "tuple"), none, (.seq #[] 0), #[]⟩
noncomputable def o420 (P : Params) : Obj := ⟨.none, none, (.fields #[]), #[]⟩
noncomputable def o421 (P : Params) : Obj := ⟨.none, none, (.func (fn (L2.inClass (hT 52) 1) (s "of") (s "Shape.of") 0 [] .none .none .none .none none .none .none 0)), #[]⟩
noncomputable def o422 (P : Params) : Obj := ⟨(.type "code"), none, (.fields #[(.str (s "of") 918), (.str (s "Shape.of") 919), (.str (s "/claim/cut.py") 920), (.int (249) 0), (.int (3) 0), (.int (0) 0), (.int (0) 0), (.int (3) 0), (.ref 419), (.bool true), (.int (374) 0), (.ref 420), .none, .none, .none, (.ref 421), (.int (921) 0), (.int (249) 0), (.str (s "/claim/cut.py") 922)]), #[]⟩
noncomputable def o423 (P : Params) : Obj := ⟨(.type "function"), none, (.func (fn (L2.inClass (hT 52) 1) (s "of") (s "Shape.of") 3 [] .none .none .none (.str (s "likepanes.shapes") 895) (some 426) (.ref 422) .none 0)), #[]⟩
noncomputable def o424 (P : Params) : Obj := ⟨(.type "dict"), none, (.dict #[k P "__module__" 924 (.str (s "likepanes.shapes") 895), k P "__name__" 927 (.str (s "of") 926), k P "__qualname__" 930 (.str (s "Shape.of") 929), k P "__doc__" 932 .none, k P "__annotations__" 934 (.ref 426)] 5), #[]⟩
noncomputable def o425 (P : Params) : Obj := ⟨(.type "staticmethod"), (some 424), (.fields #[(.ref 423), (.bool false)]), #[]⟩
noncomputable def o426 (P : Params) : Obj := ⟨(.type "dict"), none, (.dict #[] 0), #[]⟩
noncomputable def o427 (P : Params) : Obj := ⟨(.type "tuple"), none, (.seq #[] 0), #[]⟩
noncomputable def o428 (P : Params) : Obj := ⟨.none, none, (.fields #[]), #[]⟩
noncomputable def o429 (P : Params) : Obj := ⟨(.type "tuple"), none, (.seq #[(.str (s "self") 939)] 0), #[]⟩
noncomputable def o430 (P : Params) : Obj := ⟨(.type "tuple"), none, (.seq #[] 0), #[]⟩
noncomputable def o431 (P : Params) : Obj := ⟨.none, none, (.func (fn (L2.inClass (hT 52) 2) (s "text") (s "Shape.text") 0 [] .none .none .none .none none .none .none 0)), #[]⟩
noncomputable def o432 (P : Params) : Obj := ⟨(.type "code"), none, (.fields #[(.str (s "text") 936), (.str (s "Shape.text") 937), (.str (s "/claim/cut.py") 938), (.int (260) 0), (.int (1) 0), (.int (0) 0), (.int (0) 0), (.int (3) 0), (.ref 427), (.bool true), (.int (374) 0), (.ref 428), .none, (.ref 429), (.ref 430), (.ref 431), (.int (940) 0), (.int (260) 0), (.str (s "/claim/cut.py") 941)]), #[]⟩
noncomputable def o433 (P : Params) : Obj := ⟨(.type "function"), none, (.func (fn (L2.inClass (hT 52) 2) (s "text") (s "Shape.text") 3 [] .none .none .none (.str (s "likepanes.shapes") 895) none (.ref 432) .none 0)), #[]⟩
noncomputable def o434 (P : Params) : Obj := ⟨(.type "property"), none, (.fields #[(.ref 433), .none, .none, .none, (.str (s "text") 943), (.bool false)]), #[]⟩
noncomputable def o435 (P : Params) : Obj := ⟨(.type "tuple"), none, (.seq #[] 0), #[]⟩
noncomputable def o436 (P : Params) : Obj := ⟨.none, none, (.fields #[]), #[]⟩
noncomputable def o437 (P : Params) : Obj := ⟨(.type "tuple"), none, (.seq #[(.str (s "self") 947)] 0), #[]⟩
noncomputable def o438 (P : Params) : Obj := ⟨(.type "tuple"), none, (.seq #[] 0), #[]⟩
noncomputable def o439 (P : Params) : Obj := ⟨.none, none, (.func (fn (L2.inClass (hT 52) 3) (s "equation") (s "Shape.equation") 0 [] .none .none .none .none none .none .none 0)), #[]⟩
noncomputable def o440 (P : Params) : Obj := ⟨(.type "code"), none, (.fields #[(.str (s "equation") 944), (.str (s "Shape.equation") 945), (.str (s "/claim/cut.py") 946), (.int (264) 0), (.int (1) 0), (.int (0) 0), (.int (0) 0), (.int (3) 0), (.ref 435), (.bool true), (.int (374) 0), (.ref 436), .none, (.ref 437), (.ref 438), (.ref 439), (.int (948) 0), (.int (264) 0), (.str (s "/claim/cut.py") 949)]), #[]⟩
noncomputable def o441 (P : Params) : Obj := ⟨(.type "function"), none, (.func (fn (L2.inClass (hT 52) 3) (s "equation") (s "Shape.equation") 3 [] .none .none .none (.str (s "likepanes.shapes") 895) none (.ref 440) .none 0)), #[]⟩
noncomputable def o442 (P : Params) : Obj := ⟨(.type "property"), none, (.fields #[(.ref 441), .none, .none, .none, (.str (s "equation") 951), (.bool false)]), #[]⟩
noncomputable def o443 (P : Params) : Obj := ⟨(.type "tuple"), none, (.seq #[] 0), #[]⟩
noncomputable def o444 (P : Params) : Obj := ⟨.none, none, (.fields #[]), #[]⟩
noncomputable def o445 (P : Params) : Obj := ⟨(.type "tuple"), none, (.seq #[(.str (s "self") 955)] 0), #[]⟩
noncomputable def o446 (P : Params) : Obj := ⟨(.type "tuple"), none, (.seq #[] 0), #[]⟩
noncomputable def o447 (P : Params) : Obj := ⟨.none, none, (.func (fn (L2.inClass (hT 52) 4) (s "degree") (s "Shape.degree") 0 [] .none .none .none .none none .none .none 0)), #[]⟩
noncomputable def o448 (P : Params) : Obj := ⟨(.type "code"), none, (.fields #[(.str (s "degree") 952), (.str (s "Shape.degree") 953), (.str (s "/claim/cut.py") 954), (.int (268) 0), (.int (1) 0), (.int (0) 0), (.int (0) 0), (.int (3) 0), (.ref 443), (.bool true), (.int (374) 0), (.ref 444), .none, (.ref 445), (.ref 446), (.ref 447), (.int (956) 0), (.int (268) 0), (.str (s "/claim/cut.py") 957)]), #[]⟩
noncomputable def o449 (P : Params) : Obj := ⟨(.type "function"), none, (.func (fn (L2.inClass (hT 52) 4) (s "degree") (s "Shape.degree") 3 [] .none .none .none (.str (s "likepanes.shapes") 895) none (.ref 448) .none 0)), #[]⟩
noncomputable def o450 (P : Params) : Obj := ⟨(.type "property"), none, (.fields #[(.ref 449), .none, .none, .none, (.str (s "degree") 959), (.bool false)]), #[]⟩
noncomputable def o451 (P : Params) : Obj := ⟨(.type "tuple"), none, (.seq #[] 0), #[]⟩
noncomputable def o452 (P : Params) : Obj := ⟨.none, none, (.fields #[]), #[]⟩
noncomputable def o453 (P : Params) : Obj := ⟨(.type "tuple"), none, (.seq #[(.str (s "self") 963)] 0), #[]⟩
noncomputable def o454 (P : Params) : Obj := ⟨(.type "tuple"), none, (.seq #[] 0), #[]⟩
noncomputable def o455 (P : Params) : Obj := ⟨.none, none, (.func (fn (L2.inClass (hT 52) 5) (s "rank") (s "Shape.rank") 0 [] .none .none .none .none none .none .none 0)), #[]⟩
noncomputable def o456 (P : Params) : Obj := ⟨(.type "code"), none, (.fields #[(.str (s "rank") 960), (.str (s "Shape.rank") 961), (.str (s "/claim/cut.py") 962), (.int (272) 0), (.int (1) 0), (.int (0) 0), (.int (0) 0), (.int (3) 0), (.ref 451), (.bool true), (.int (374) 0), (.ref 452), .none, (.ref 453), (.ref 454), (.ref 455), (.int (964) 0), (.int (272) 0), (.str (s "/claim/cut.py") 965)]), #[]⟩
noncomputable def o457 (P : Params) : Obj := ⟨(.type "function"), none, (.func (fn (L2.inClass (hT 52) 5) (s "rank") (s "Shape.rank") 3 [] .none .none .none (.str (s "likepanes.shapes") 895) none (.ref 456) .none 0)), #[]⟩
noncomputable def o458 (P : Params) : Obj := ⟨(.type "property"), none, (.fields #[(.ref 457), .none, .none, .none, (.str (s "rank") 967), (.bool false)]), #[]⟩
noncomputable def o459 (P : Params) : Obj := ⟨(.type "tuple"), none, (.seq #[] 0), #[]⟩
noncomputable def o460 (P : Params) : Obj := ⟨.none, none, (.fields #[]), #[]⟩
noncomputable def o461 (P : Params) : Obj := ⟨(.type "tuple"), none, (.seq #[(.str (s "self") 971), (.str (s "bits") 972)] 0), #[]⟩
noncomputable def o462 (P : Params) : Obj := ⟨(.type "tuple"), none, (.seq #[] 0), #[]⟩
noncomputable def o463 (P : Params) : Obj := ⟨.none, none, (.func (fn (L2.inClass (hT 52) 6) (s "floor_at") (s "Shape.floor_at") 0 [] .none .none .none .none none .none .none 0)), #[]⟩
noncomputable def o464 (P : Params) : Obj := ⟨(.type "code"), none, (.fields #[(.str (s "floor_at") 968), (.str (s "Shape.floor_at") 969), (.str (s "/claim/cut.py") 970), (.int (276) 0), (.int (2) 0), (.int (0) 0), (.int (0) 0), (.int (3) 0), (.ref 459), (.bool true), (.int (374) 0), (.ref 460), .none, (.ref 461), (.ref 462), (.ref 463), (.int (973) 0), (.int (276) 0), (.str (s "/claim/cut.py") 974)]), #[]⟩
noncomputable def o465 (P : Params) : Obj := ⟨(.type "function"), none, (.func (fn (L2.inClass (hT 52) 6) (s "floor_at") (s "Shape.floor_at") 3 [] .none .none .none (.str (s "likepanes.shapes") 895) none (.ref 464) .none 0)), #[]⟩
noncomputable def o466 (P : Params) : Obj := ⟨(.type "tuple"), none, (.seq #[] 0), #[]⟩
noncomputable def o467 (P : Params) : Obj := ⟨.none, none, (.fields #[]), #[]⟩
noncomputable def o468 (P : Params) : Obj := ⟨(.type "tuple"), none, (.seq #[(.str (s "self") 979), (.str (s "other") 980)] 0), #[]⟩
noncomputable def o469 (P : Params) : Obj := ⟨(.type "tuple"), none, (.seq #[] 0), #[]⟩
noncomputable def o470 (P : Params) : Obj := ⟨.none, none, (.func (fn (L2.inClass (hT 52) 7) (s "__eq__") (s "Shape.__eq__") 0 [] .none .none .none .none none .none .none 0)), #[]⟩
noncomputable def o471 (P : Params) : Obj := ⟨(.type "code"), none, (.fields #[(.str (s "__eq__") 976), (.str (s "Shape.__eq__") 977), (.str (s "/claim/cut.py") 978), (.int (281) 0), (.int (2) 0), (.int (0) 0), (.int (0) 0), (.int (3) 0), (.ref 466), (.bool true), (.int (374) 0), (.ref 467), .none, (.ref 468), (.ref 469), (.ref 470), (.int (981) 0), (.int (281) 0), (.str (s "/claim/cut.py") 982)]), #[]⟩
noncomputable def o472 (P : Params) : Obj := ⟨(.type "function"), none, (.func (fn (L2.inClass (hT 52) 7) (s "__eq__") (s "Shape.__eq__") 3 [] .none .none .none (.str (s "likepanes.shapes") 895) none (.ref 471) .none 0)), #[]⟩
noncomputable def o473 (P : Params) : Obj := ⟨(.type "tuple"), none, (.seq #[] 0), #[]⟩
noncomputable def o474 (P : Params) : Obj := ⟨.none, none, (.fields #[]), #[]⟩
noncomputable def o475 (P : Params) : Obj := ⟨(.type "tuple"), none, (.seq #[(.str (s "self") 987)] 0), #[]⟩
noncomputable def o476 (P : Params) : Obj := ⟨(.type "tuple"), none, (.seq #[] 0), #[]⟩
noncomputable def o477 (P : Params) : Obj := ⟨.none, none, (.func (fn (L2.inClass (hT 52) 8) (s "__str__") (s "Shape.__str__") 0 [] .none .none .none .none none .none .none 0)), #[]⟩
noncomputable def o478 (P : Params) : Obj := ⟨(.type "code"), none, (.fields #[(.str (s "__str__") 984), (.str (s "Shape.__str__") 985), (.str (s "/claim/cut.py") 986), (.int (284) 0), (.int (1) 0), (.int (0) 0), (.int (0) 0), (.int (3) 0), (.ref 473), (.bool true), (.int (374) 0), (.ref 474), .none, (.ref 475), (.ref 476), (.ref 477), (.int (988) 0), (.int (284) 0), (.str (s "/claim/cut.py") 989)]), #[]⟩
noncomputable def o479 (P : Params) : Obj := ⟨(.type "function"), none, (.func (fn (L2.inClass (hT 52) 8) (s "__str__") (s "Shape.__str__") 3 [] .none .none .none (.str (s "likepanes.shapes") 895) none (.ref 478) .none 0)), #[]⟩
noncomputable def o480 (P : Params) : Obj := ⟨(.type "tuple"), none, (.seq #[(.str (s "_bits") 991), (.str (s "_equation") 992), (.str (s "_near") 993), (.str (s "_rank") 994), (.str (s "_text") 995)] 0), #[]⟩
noncomputable def o481 (P : Params) : Obj := ⟨(.type "dict"), none, (.dict #[k P "__module__" 904 (.str (s "likepanes.shapes") 895), k P "__firstlineno__" 908 (.int (239) 907), k P "__init__" 917 (.ref 418), k P "of" 935 (.ref 425), k P "text" 943 (.ref 434), k P "equation" 951 (.ref 442), k P "degree" 959 (.ref 450), k P "rank" 967 (.ref 458), k P "floor_at" 975 (.ref 465), k P "__eq__" 983 (.ref 472), k P "__str__" 990 (.ref 479), k P "__static_attributes__" 996 (.ref 480), k P "__dict__" 998 (.ref 483), k P "__weakref__" 1000 (.ref 484), k P "__doc__" 1001 .none, k P "__hash__" 1002 .none] 5), #[]⟩
noncomputable def o482 (P : Params) : Obj := ⟨(.type "type"), none, (.cls ⟨(s "Shape"), [(.type "object")], [(.ref 482), (.type "object")], 481, (s "Shape"), true, [], [], false, none, false⟩), #[none, none, (some (.str (s "Shape") 897)), (some (.str (s "Shape") 905)), (some (.builtin "object.__new__")), (some (.bool true))]⟩
noncomputable def o483 (P : Params) : Obj := ⟨(.type "getset_descriptor"), none, (.fields #[(.str (s "__dict__") 997), (.ref 482), (.builtin "function.__dict__"), (.builtin "function.__dict__#set")]), #[]⟩
noncomputable def o484 (P : Params) : Obj := ⟨(.type "getset_descriptor"), none, (.fields #[(.str (s "__weakref__") 999), (.ref 482), (.builtin "ExceptionGroup.__weakref__"), .none]), #[]⟩
noncomputable def o485 (P : Params) : Obj := ⟨(.type "super"), none, (.fields #[(.ref 482), (.ref 482), (.ref 482)]), #[]⟩
noncomputable def o486 (P : Params) : Obj := ⟨(.type "builtin_function_or_method"), none, (.fields #[(.builtin "object.__init_subclass__"), (.ref 482)]), #[]⟩
noncomputable def o487 (P : Params) : Obj := ⟨(.type "tuple"), none, (.seq #[] 0), #[]⟩
noncomputable def o488 (P : Params) : Obj := ⟨.none, none, (.fields #[]), #[]⟩
noncomputable def o489 (P : Params) : Obj := ⟨(.type "tuple"), none, (.seq #[(.str (s "one") 1008), (.str (s "other") 1009), (.str (s "bits") 1010)] 0), #[]⟩
noncomputable def o490 (P : Params) : Obj := ⟨(.type "tuple"), none, (.seq #[] 0), #[]⟩
noncomputable def o491 (P : Params) : Obj := ⟨.none, none, (.func (fn (hT 53) (s "less") (s "less") 0 [] .none .none .none .none none .none .none 0)), #[]⟩
noncomputable def o492 (P : Params) : Obj := ⟨(.type "code"), none, (.fields #[(.str (s "less") 1005), (.str (s "less") 1006), (.str (s "/claim/cut.py") 1007), (.int (286) 0), (.int (2) 0), (.int (0) 0), (.int (0) 0), (.int (3) 0), (.ref 487), (.bool true), (.int (374) 0), (.ref 488), .none, (.ref 489), (.ref 490), (.ref 491), (.int (1011) 0), (.int (286) 0), (.str (s "/claim/cut.py") 1012)]), #[]⟩
noncomputable def o493 (P : Params) : Obj := ⟨(.type "function"), none, (.func (fn (hT 53) (s "less") (s "less") 3 [] .none .none .none (.str (s "likepanes.shapes") 895) none (.ref 492) .none 0)), #[]⟩
noncomputable def o494 (P : Params) : Obj := ⟨(.type "tuple"), none, (.seq #[] 0), #[]⟩
noncomputable def o495 (P : Params) : Obj := ⟨.none, none, (.fields #[]), #[]⟩
noncomputable def o496 (P : Params) : Obj := ⟨(.type "tuple"), none, (.seq #[(.str (s "one") 1017), (.str (s "other") 1018)] 0), #[]⟩
noncomputable def o497 (P : Params) : Obj := ⟨(.type "tuple"), none, (.seq #[] 0), #[]⟩
noncomputable def o498 (P : Params) : Obj := ⟨.none, none, (.func (fn (hT 54) (s "alike") (s "alike") 0 [] .none .none .none .none none .none .none 0)), #[]⟩
noncomputable def o499 (P : Params) : Obj := ⟨(.type "code"), none, (.fields #[(.str (s "alike") 1014), (.str (s "alike") 1015), (.str (s "/claim/cut.py") 1016), (.int (295) 0), (.int (2) 0), (.int (0) 0), (.int (0) 0), (.int (3) 0), (.ref 494), (.bool true), (.int (374) 0), (.ref 495), .none, (.ref 496), (.ref 497), (.ref 498), (.int (1019) 0), (.int (295) 0), (.str (s "/claim/cut.py") 1020)]), #[]⟩
noncomputable def o500 (P : Params) : Obj := ⟨(.type "function"), none, (.func (fn (hT 54) (s "alike") (s "alike") 3 [] .none .none .none (.str (s "likepanes.shapes") 895) none (.ref 499) .none 0)), #[]⟩
noncomputable def o501 (P : Params) : Obj := ⟨(.type "tuple"), none, (.seq #[] 0), #[]⟩
noncomputable def o502 (P : Params) : Obj := ⟨.none, none, (.fields #[]), #[]⟩
noncomputable def o503 (P : Params) : Obj := ⟨(.type "tuple"), none, (.seq #[(.str (s "value") 1025)] 0), #[]⟩
noncomputable def o504 (P : Params) : Obj := ⟨(.type "tuple"), none, (.seq #[] 0), #[]⟩
noncomputable def o505 (P : Params) : Obj := ⟨.none, none, (.func (fn (hT 55) (s "check_shape") (s "check_shape") 0 [] .none .none .none .none none .none .none 0)), #[]⟩
noncomputable def o506 (P : Params) : Obj := ⟨(.type "code"), none, (.fields #[(.str (s "check_shape") 1022), (.str (s "check_shape") 1023), (.str (s "/claim/cut.py") 1024), (.int (299) 0), (.int (1) 0), (.int (0) 0), (.int (0) 0), (.int (3) 0), (.ref 501), (.bool true), (.int (374) 0), (.ref 502), .none, (.ref 503), (.ref 504), (.ref 505), (.int (1026) 0), (.int (299) 0), (.str (s "/claim/cut.py") 1027)]), #[]⟩
noncomputable def o507 (P : Params) : Obj := ⟨(.type "function"), none, (.func (fn (hT 55) (s "check_shape") (s "check_shape") 3 [] .none .none .none (.str (s "likepanes.shapes") 895) none (.ref 506) .none 0)), #[]⟩
noncomputable def t4 (P : Params) : BT := (n (o0 P) (n (o1 P) (n (o3_4 P) (n (o7 P) (n (o15 P) (n (o31 P) (n (o63 P) (n (o127 P) (n (o255 P) z z) (n (o383 P) z z)) (n (o191 P) (n (o319 P) z z) (n (o447 P) z z))) (n (o95 P) (n (o159 P) (n (o287 P) z z) (n (o415 P) z z)) (n (o223 P) (n (o351 P) z z) (n (o479 P) z z)))) (n (o47 P) (n (o79 P) (n (o143 P) (n (o271 P) z z) (n (o399 P) z z)) (n (o207 P) (n (o335 P) z z) (n (o463 P) z z))) (n (o111 P) (n (o175 P) (n (o303 P) z z) (n (o431 P) z z)) (n (o239 P) (n (o367 P) z z) (n (o495 P) z z))))) (n (o23 P) (n (o39 P) (n (o71 P) (n (o135 P) (n (o263 P) z z) (n (o391 P) z z)) (n (o199 P) (n (o327 P) z z) (n (o455 P) z z))) (n (o103 P) (n (o167 P) (n (o295 P) z z) (n (o423 P) z z)) (n (o231 P) (n (o359 P) z z) (n (o487 P) z z)))) (n (o55 P) (n (o87 P) (n (o151 P) (n (o279 P) z z) (n (o407 P) z z)) (n (o215 P) (n (o343 P) z z) (n (o471 P) z z))) (n (o119 P) (n (o183 P) (n (o311 P) z z) (n (o439 P) z z)) (n (o247 P) (n (o375 P) z z) (n (o503 P) z z)))))) (n (o11 P) (n (o19 P) (n (o35 P) (n (o67 P) (n (o131 P) (n (o259 P) z z) (n (o387 P) z z)) (n (o195 P) (n (o323 P) z z) (n (o451 P) z z))) (n (o99 P) (n (o163 P) (n (o291 P) z z) (n (o419 P) z z)) (n (o227 P) (n (o355 P) z z) (n (o483 P) z z)))) (n (o51 P) (n (o83 P) (n (o147 P) (n (o275 P) z z) (n (o403 P) z z)) (n (o211 P) (n (o339 P) z z) (n (o467 P) z z))) (n (o115 P) (n (o179 P) (n (o307 P) z z) (n (o435 P) z z)) (n (o243 P) (n (o371 P) z z) (n (o499 P) z z))))) (n (o27 P) (n (o43 P) (n (o75 P) (n (o139 P) (n (o267 P) z z) (n (o395 P) z z)) (n (o203 P) (n (o331 P) z z) (n (o459 P) z z))) (n (o107 P) (n (o171 P) (n (o299 P) z z) (n (o427 P) z z)) (n (o235 P) (n (o363 P) z z) (n (o491 P) z z)))) (n (o59 P) (n (o91 P) (n (o155 P) (n (o283 P) z z) (n (o411 P) z z)) (n (o219 P) (n (o347 P) z z) (n (o475 P) z z))) (n (o123 P) (n (o187 P) (n (o315 P) z z) (n (o443 P) z z)) (n (o251 P) (n (o379 P) z z) (n (o507 P) z z))))))) (n (o5 P) (n (o9 P) (n (o17 P) (n (o33 P) (n (o65 P) (n (o129 P) (n (o257 P) z z) (n (o385 P) z z)) (n (o193 P) (n (o321 P) z z) (n (o449 P) z z))) (n (o97 P) (n (o161 P) (n (o289 P) z z) (n (o417 P) z z)) (n (o225 P) (n (o353 P) z z) (n (o481 P) z z)))) (n (o49 P) (n (o81 P) (n (o145 P) (n (o273 P) z z) (n (o401 P) z z)) (n (o209 P) (n (o337 P) z z) (n (o465 P) z z))) (n (o113 P) (n (o177 P) (n (o305 P) z z) (n (o433 P) z z)) (n (o241 P) (n (o369 P) z z) (n (o497 P) z z))))) (n (o25 P) (n (o41 P) (n (o73 P) (n (o137 P) (n (o265 P) z z) (n (o393 P) z z)) (n (o201 P) (n (o329 P) z z) (n (o457 P) z z))) (n (o105 P) (n (o169 P) (n (o297 P) z z) (n (o425 P) z z)) (n (o233 P) (n (o361 P) z z) (n (o489 P) z z)))) (n (o57 P) (n (o89 P) (n (o153 P) (n (o281 P) z z) (n (o409 P) z z)) (n (o217 P) (n (o345 P) z z) (n (o473 P) z z))) (n (o121 P) (n (o185 P) (n (o313 P) z z) (n (o441 P) z z)) (n (o249 P) (n (o377 P) z z) (n (o505 P) z z)))))) (n (o13 P) (n (o21 P) (n (o37 P) (n (o69 P) (n (o133 P) (n (o261 P) z z) (n (o389 P) z z)) (n (o197 P) (n (o325 P) z z) (n (o453 P) z z))) (n (o101 P) (n (o165 P) (n (o293 P) z z) (n (o421 P) z z)) (n (o229 P) (n (o357 P) z z) (n (o485 P) z z)))) (n (o53 P) (n (o85 P) (n (o149 P) (n (o277 P) z z) (n (o405 P) z z)) (n (o213 P) (n (o341 P) z z) (n (o469 P) z z))) (n (o117 P) (n (o181 P) (n (o309 P) z z) (n (o437 P) z z)) (n (o245 P) (n (o373 P) z z) (n (o501 P) z z))))) (n (o29 P) (n (o45 P) (n (o77 P) (n (o141 P) (n (o269 P) z z) (n (o397 P) z z)) (n (o205 P) (n (o333 P) z z) (n (o461 P) z z))) (n (o109 P) (n (o173 P) (n (o301 P) z z) (n (o429 P) z z)) (n (o237 P) (n (o365 P) z z) (n (o493 P) z z)))) (n (o61 P) (n (o93 P) (n (o157 P) (n (o285 P) z z) (n (o413 P) z z)) (n (o221 P) (n (o349 P) z z) (n (o477 P) z z))) (n (o125 P) (n (o189 P) (n (o317 P) z z) (n (o445 P) z z)) (n (o253 P) (n (o381 P) z z) z))))))) (n (o2_2 P) (n (o4 P) (n (o8 P) (n (o16 P) (n (o32 P) (n (o64 P) (n (o128 P) (n (o256 P) z z) (n (o384 P) z z)) (n (o192 P) (n (o320 P) z z) (n (o448 P) z z))) (n (o96 P) (n (o160 P) (n (o288 P) z z) (n (o416 P) z z)) (n (o224 P) (n (o352 P) z z) (n (o480 P) z z)))) (n (o48 P) (n (o80 P) (n (o144 P) (n (o272 P) z z) (n (o400 P) z z)) (n (o208 P) (n (o336 P) z z) (n (o464 P) z z))) (n (o112 P) (n (o176 P) (n (o304 P) z z) (n (o432 P) z z)) (n (o240 P) (n (o368 P) z z) (n (o496 P) z z))))) (n (o24 P) (n (o40_4 P) (n (o72 P) (n (o136 P) (n (o264 P) z z) (n (o392 P) z z)) (n (o200 P) (n (o328 P) z z) (n (o456 P) z z))) (n (o104 P) (n (o168 P) (n (o296 P) z z) (n (o424 P) z z)) (n (o232 P) (n (o360 P) z z) (n (o488 P) z z)))) (n (o56 P) (n (o88 P) (n (o152 P) (n (o280 P) z z) (n (o408 P) z z)) (n (o216 P) (n (o344 P) z z) (n (o472 P) z z))) (n (o120 P) (n (o184 P) (n (o312 P) z z) (n (o440 P) z z)) (n (o248 P) (n (o376 P) z z) (n (o504 P) z z)))))) (n (o12_0 P) (n (o20 P) (n (o36 P) (n (o68 P) (n (o132 P) (n (o260 P) z z) (n (o388 P) z z)) (n (o196 P) (n (o324 P) z z) (n (o452 P) z z))) (n (o100 P) (n (o164 P) (n (o292 P) z z) (n (o420 P) z z)) (n (o228 P) (n (o356 P) z z) (n (o484 P) z z)))) (n (o52_2 P) (n (o84 P) (n (o148 P) (n (o276 P) z z) (n (o404 P) z z)) (n (o212 P) (n (o340 P) z z) (n (o468 P) z z))) (n (o116 P) (n (o180 P) (n (o308 P) z z) (n (o436 P) z z)) (n (o244 P) (n (o372 P) z z) (n (o500 P) z z))))) (n (o28 P) (n (o44 P) (n (o76 P) (n (o140 P) (n (o268 P) z z) (n (o396 P) z z)) (n (o204 P) (n (o332 P) z z) (n (o460 P) z z))) (n (o108 P) (n (o172 P) (n (o300 P) z z) (n (o428 P) z z)) (n (o236 P) (n (o364 P) z z) (n (o492 P) z z)))) (n (o60 P) (n (o92 P) (n (o156 P) (n (o284 P) z z) (n (o412 P) z z)) (n (o220 P) (n (o348 P) z z) (n (o476 P) z z))) (n (o124 P) (n (o188 P) (n (o316 P) z z) (n (o444 P) z z)) (n (o252 P) (n (o380 P) z z) z)))))) (n (o6 P) (n (o10 P) (n (o18 P) (n (o34 P) (n (o66 P) (n (o130 P) (n (o258 P) z z) (n (o386 P) z z)) (n (o194 P) (n (o322 P) z z) (n (o450 P) z z))) (n (o98 P) (n (o162 P) (n (o290 P) z z) (n (o418 P) z z)) (n (o226 P) (n (o354 P) z z) (n (o482 P) z z)))) (n (o50 P) (n (o82 P) (n (o146 P) (n (o274 P) z z) (n (o402 P) z z)) (n (o210 P) (n (o338 P) z z) (n (o466 P) z z))) (n (o114 P) (n (o178 P) (n (o306 P) z z) (n (o434 P) z z)) (n (o242 P) (n (o370 P) z z) (n (o498 P) z z))))) (n (o26 P) (n (o42 P) (n (o74 P) (n (o138 P) (n (o266 P) z z) (n (o394 P) z z)) (n (o202 P) (n (o330 P) z z) (n (o458 P) z z))) (n (o106 P) (n (o170 P) (n (o298 P) z z) (n (o426 P) z z)) (n (o234 P) (n (o362 P) z z) (n (o490 P) z z)))) (n (o58 P) (n (o90 P) (n (o154 P) (n (o282 P) z z) (n (o410 P) z z)) (n (o218 P) (n (o346 P) z z) (n (o474 P) z z))) (n (o122 P) (n (o186 P) (n (o314 P) z z) (n (o442 P) z z)) (n (o250 P) (n (o378 P) z z) (n (o506 P) z z)))))) (n (o14 P) (n (o22 P) (n (o38 P) (n (o70 P) (n (o134 P) (n (o262 P) z z) (n (o390 P) z z)) (n (o198 P) (n (o326 P) z z) (n (o454 P) z z))) (n (o102 P) (n (o166 P) (n (o294 P) z z) (n (o422 P) z z)) (n (o230 P) (n (o358 P) z z) (n (o486 P) z z)))) (n (o54 P) (n (o86 P) (n (o150 P) (n (o278 P) z z) (n (o406 P) z z)) (n (o214 P) (n (o342 P) z z) (n (o470 P) z z))) (n (o118 P) (n (o182 P) (n (o310 P) z z) (n (o438 P) z z)) (n (o246 P) (n (o374 P) z z) (n (o502 P) z z))))) (n (o30 P) (n (o46 P) (n (o78 P) (n (o142 P) (n (o270 P) z z) (n (o398 P) z z)) (n (o206 P) (n (o334 P) z z) (n (o462 P) z z))) (n (o110 P) (n (o174 P) (n (o302 P) z z) (n (o430 P) z z)) (n (o238 P) (n (o366 P) z z) (n (o494 P) z z)))) (n (o62 P) (n (o94 P) (n (o158 P) (n (o286 P) z z) (n (o414 P) z z)) (n (o222 P) (n (o350 P) z z) (n (o478 P) z z))) (n (o126 P) (n (o190 P) (n (o318 P) z z) (n (o446 P) z z)) (n (o254 P) (n (o382 P) z z) z))))))))
noncomputable def X4 (w : World) (os : OsState) : SharedT := ⟨t4 w.params, 508, {}, #[], {}, 1029, os⟩
noncomputable def o3_5 (P : Params) : Obj := ⟨(.type "dict"), none, (.dict #[k P "__name__" 165 (.str (s "law_likepanes_k12_known_shapes") 1088), k P "__doc__" 166 .none, k P "__package__" 167 .none, k P "__loader__" 168 (.builtin "__main__.__loader__#opaque"), k P "__spec__" 169 .none, k P "__annotations__" 170 (.ref 6), k P "__builtins__" 171 (.ref 4), k P "__file__" 173 (.str (s "/claim/cut.py") 172), k P "__cached__" 174 .none, k P "gcd" 370 (.builtin "math.gcd"), k P "isqrt" 373 (.builtin "math.isqrt"), k P "BadValue" 399 (.ref 52), k P "InvalidText" 424 (.ref 72), k P "InvalidFraction" 449 (.ref 91), k P "NotAShape" 474 (.ref 110), k P "InvalidEquation" 499 (.ref 129), k P "NoAnswer" 519 (.ref 141), k P "NoRoot" 542 (.ref 161), k P "TooMany" 567 (.ref 180), k P "trimmed" 577 (.ref 189), k P "common_divisor" 586 (.ref 196), k P "primitive" 592 (.ref 201), k P "negative" 598 (.ref 206), k P "derivative" 604 (.ref 211), k P "value_at" 616 (.ref 218), k P "combined" 630 (.ref 225), k P "remainder" 640 (.ref 232), k P "divided" 655 (.ref 239), k P "is_least" 664 (.ref 246), k P "factors_of" 674 (.ref 253), k P "least_factor" 682 (.ref 260), k P "divisors" 688 (.ref 265), k P "linear_factor" 699 (.ref 272), k P "quadratic_factor" 712 (.ref 279), k P "middles" 724 (.ref 286), k P "whole_roots" 730 (.ref 291), k P "MOST_DEGREE" 732 (.int (5) 731), k P "MOST_TERM" 734 (.int (1000) 733), k P "is_integer" 743 (.ref 298), k P "are_integers" 749 (.ref 303), k P "is_fraction" 758 (.ref 310), k P "is_below" 766 (.ref 317), k P "is_term" 773 (.ref 324), k P "wrong_term" 783 (.ref 331), k P "FIRST_BITS" 787 (.int (64) 786), k P "sturm_chain" 795 (.ref 338), k P "changes" 801 (.ref 343), k P "reach" 807 (.ref 348), k P "roots_up_to" 816 (.ref 355), k P "roots_in_all" 823 (.ref 362), k P "roots_within" 834 (.ref 369), k P "rank_of_last" 842 (.ref 376), k P "stretch_of" 853 (.ref 383), k P "lonely_stretch" 866 (.ref 390), k P "refined" 878 (.ref 397), k P "guessed" 894 (.ref 404), k P "Shape" 1004 (.ref 482), k P "less" 1013 (.ref 493), k P "alike" 1021 (.ref 500), k P "check_shape" 1028 (.ref 507), k P "check_equation" 1036 (.ref 514), k P "check_stretch" 1044 (.ref 521), k P "factor_within" 1057 (.ref 528), k P "told_by" 1063 (.ref 533), k P "integer_of" 1071 (.ref 540), k P "text_of" 1077 (.ref 545), k P "turned_text" 1087 (.ref 552), k P "_law_tub" 1100 (.ref 559), k P "_law_tap" 1109 (.ref 566), k P "_law_root_down" 1117 (.ref 573), k P "_law_right" 1123 (.ref 578), k P "law" 1129 (.ref 583)] 72), #[]⟩
noncomputable def o40_5 (P : Params) : Obj := ⟨.none, none, (.fields #[(.int (3) 0), (.int (0) 0), (.ref 48), (.int (5) 0), (.int (0) 0), (.ref 61), (.int (10) 0), (.int (0) 0), (.ref 80), (.int (15) 0), (.int (0) 0), (.ref 99), (.int (20) 0), (.int (0) 0), (.ref 118), (.int (25) 0), (.int (0) 0), (.ref 137), (.int (27) 0), (.int (0) 0), (.ref 150), (.int (31) 0), (.int (0) 0), (.ref 169), (.int (37) 0), (.int (0) 0), (.ref 188), (.int (42) 0), (.int (0) 0), (.ref 195), (.int (47) 0), (.int (0) 0), (.ref 200), (.int (50) 0), (.int (0) 0), (.ref 205), (.int (52) 0), (.int (0) 0), (.ref 210), (.int (54) 0), (.int (0) 0), (.ref 217), (.int (60) 0), (.int (0) 0), (.ref 224), (.int (67) 0), (.int (0) 0), (.ref 231), (.int (73) 0), (.int (0) 0), (.ref 238), (.int (88) 0), (.int (0) 0), (.ref 245), (.int (92) 0), (.int (0) 0), (.ref 252), (.int (103) 0), (.int (0) 0), (.ref 259), (.int (110) 0), (.int (0) 0), (.ref 264), (.int (112) 0), (.int (0) 0), (.ref 271), (.int (124) 0), (.int (0) 0), (.ref 278), (.int (134) 0), (.int (0) 0), (.ref 285), (.int (141) 0), (.int (0) 0), (.ref 290), (.int (153) 0), (.int (0) 0), (.ref 297), (.int (155) 0), (.int (0) 0), (.ref 302), (.int (157) 0), (.int (0) 0), (.ref 309), (.int (162) 0), (.int (0) 0), (.ref 316), (.int (164) 0), (.int (0) 0), (.ref 323), (.int (166) 0), (.int (0) 0), (.ref 330), (.int (174) 0), (.int (0) 0), (.ref 337), (.int (180) 0), (.int (0) 0), (.ref 342), (.int (184) 0), (.int (0) 0), (.ref 347), (.int (186) 0), (.int (0) 0), (.ref 354), (.int (188) 0), (.int (0) 0), (.ref 361), (.int (190) 0), (.int (0) 0), (.ref 368), (.int (196) 0), (.int (0) 0), (.ref 375), (.int (198) 0), (.int (0) 0), (.ref 382), (.int (202) 0), (.int (0) 0), (.ref 389), (.int (214) 0), (.int (0) 0), (.ref 396), (.int (226) 0), (.int (0) 0), (.ref 403), (.int (239) 0), (.int (0) 0), (.ref 410), (.int (286) 0), (.int (0) 0), (.ref 492), (.int (295) 0), (.int (0) 0), (.ref 499), (.int (299) 0), (.int (0) 0), (.ref 506), (.int (302) 0), (.int (0) 0), (.ref 513), (.int (308) 0), (.int (0) 0), (.ref 520), (.int (313) 0), (.int (0) 0), (.ref 527), (.int (320) 0), (.int (0) 0), (.ref 532), (.int (331) 0), (.int (0) 0), (.ref 539), (.int (336) 0), (.int (0) 0), (.ref 544), (.int (339) 0), (.int (0) 0), (.ref 551), (.int (345) 0), (.int (0) 0), (.ref 558), (.int (351) 0), (.int (0) 0), (.ref 565), (.int (357) 0), (.int (0) 0), (.ref 572), (.int (362) 0), (.int (0) 0), (.ref 577), (.int (389) 0), (.int (0) 0), (.ref 582)]), #[]⟩
noncomputable def o508 (P : Params) : Obj := ⟨(.type "tuple"), none, (.seq #[] 0), #[]⟩
noncomputable def o509 (P : Params) : Obj := ⟨.none, none, (.fields #[]), #[]⟩
noncomputable def o510 (P : Params) : Obj := ⟨(.type "tuple"), none, (.seq #[(.str (s "value") 1032), (.str (s "wrong") 1033)] 0), #[]⟩
noncomputable def o511 (P : Params) : Obj := ⟨(.type "tuple"), none, (.seq #[] 0), #[]⟩
noncomputable def o512 (P : Params) : Obj := ⟨.none, none, (.func (fn (hT 56) (s "check_equation") (s "check_equation") 0 [] .none .none .none .none none .none .none 0)), #[]⟩
noncomputable def o513 (P : Params) : Obj := ⟨(.type "code"), none, (.fields #[(.str (s "check_equation") 1029), (.str (s "check_equation") 1030), (.str (s "/claim/cut.py") 1031), (.int (302) 0), (.int (1) 0), (.int (0) 0), (.int (0) 0), (.int (3) 0), (.ref 508), (.bool true), (.int (374) 0), (.ref 509), .none, (.ref 510), (.ref 511), (.ref 512), (.int (1034) 0), (.int (302) 0), (.str (s "/claim/cut.py") 1035)]), #[]⟩
noncomputable def o514 (P : Params) : Obj := ⟨(.type "function"), none, (.func (fn (hT 56) (s "check_equation") (s "check_equation") 3 [] .none .none .none (.str (s "likepanes.shapes") 895) none (.ref 513) .none 0)), #[]⟩
noncomputable def o515 (P : Params) : Obj := ⟨(.type "tuple"), none, (.seq #[] 0), #[]⟩
noncomputable def o516 (P : Params) : Obj := ⟨.none, none, (.fields #[]), #[]⟩
noncomputable def o517 (P : Params) : Obj := ⟨(.type "tuple"), none, (.seq #[(.str (s "low") 1040), (.str (s "high") 1041)] 0), #[]⟩
noncomputable def o518 (P : Params) : Obj := ⟨(.type "tuple"), none, (.seq #[] 0), #[]⟩
noncomputable def o519 (P : Params) : Obj := ⟨.none, none, (.func (fn (hT 57) (s "check_stretch") (s "check_stretch") 0 [] .none .none .none .none none .none .none 0)), #[]⟩
noncomputable def o520 (P : Params) : Obj := ⟨(.type "code"), none, (.fields #[(.str (s "check_stretch") 1037), (.str (s "check_stretch") 1038), (.str (s "/claim/cut.py") 1039), (.int (308) 0), (.int (2) 0), (.int (0) 0), (.int (0) 0), (.int (3) 0), (.ref 515), (.bool true), (.int (374) 0), (.ref 516), .none, (.ref 517), (.ref 518), (.ref 519), (.int (1042) 0), (.int (308) 0), (.str (s "/claim/cut.py") 1043)]), #[]⟩
noncomputable def o521 (P : Params) : Obj := ⟨(.type "function"), none, (.func (fn (hT 57) (s "check_stretch") (s "check_stretch") 3 [] .none .none .none (.str (s "likepanes.shapes") 895) none (.ref 520) .none 0)), #[]⟩
noncomputable def o522 (P : Params) : Obj := ⟨(.type "tuple"), none, (.seq #[] 0), #[]⟩
noncomputable def o523 (P : Params) : Obj := ⟨.none, none, (.fields #[]), #[]⟩
noncomputable def o524 (P : Params) : Obj := ⟨(.type "tuple"), none, (.seq #[(.str (s "equation") 1048), (.str (s "low") 1049), (.str (s "high") 1050), (.str (s "found") 1051), (.str (s "many") 1052), (.str (s "terms") 1053), (.str (s "here") 1054)] 0), #[]⟩
noncomputable def o525 (P : Params) : Obj := ⟨(.type "tuple"), none, (.seq #[] 0), #[]⟩
noncomputable def o526 (P : Params) : Obj := ⟨.none, none, (.func (fn (hT 58) (s "factor_within") (s "factor_within") 0 [] .none .none .none .none none .none .none 0)), #[]⟩
noncomputable def o527 (P : Params) : Obj := ⟨(.type "code"), none, (.fields #[(.str (s "factor_within") 1045), (.str (s "factor_within") 1046), (.str (s "/claim/cut.py") 1047), (.int (313) 0), (.int (3) 0), (.int (0) 0), (.int (0) 0), (.int (3) 0), (.ref 522), (.bool true), (.int (374) 0), (.ref 523), .none, (.ref 524), (.ref 525), (.ref 526), (.int (1055) 0), (.int (313) 0), (.str (s "/claim/cut.py") 1056)]), #[]⟩
noncomputable def o528 (P : Params) : Obj := ⟨(.type "function"), none, (.func (fn (hT 58) (s "factor_within") (s "factor_within") 3 [] .none .none .none (.str (s "likepanes.shapes") 895) none (.ref 527) .none 0)), #[]⟩
noncomputable def o529 (P : Params) : Obj := ⟨(.type "tuple"), none, (.seq #[] 0), #[]⟩
noncomputable def o530 (P : Params) : Obj := ⟨.none, none, (.fields #[]), #[]⟩
noncomputable def o531 (P : Params) : Obj := ⟨.none, none, (.func (fn (hT 59) (s "told_by") (s "told_by") 0 [] .none .none .none .none none .none .none 0)), #[]⟩
noncomputable def o532 (P : Params) : Obj := ⟨(.type "code"), none, (.fields #[(.str (s "told_by") 1058), (.str (s "told_by") 1059), (.str (s "/claim/cut.py") 1060), (.int (320) 0), (.int (1) 0), (.int (0) 0), (.int (0) 0), (.int (3) 0), (.ref 529), (.bool true), (.int (374) 0), (.ref 530), .none, .none, .none, (.ref 531), (.int (1061) 0), (.int (320) 0), (.str (s "/claim/cut.py") 1062)]), #[]⟩
noncomputable def o533 (P : Params) : Obj := ⟨(.type "function"), none, (.func (fn (hT 59) (s "told_by") (s "told_by") 3 [] .none .none .none (.str (s "likepanes.shapes") 895) none (.ref 532) .none 0)), #[]⟩
noncomputable def o534 (P : Params) : Obj := ⟨(.type "tuple"), none, (.seq #[] 0), #[]⟩
noncomputable def o535 (P : Params) : Obj := ⟨.none, none, (.fields #[]), #[]⟩
noncomputable def o536 (P : Params) : Obj := ⟨(.type "tuple"), none, (.seq #[(.str (s "word") 1067), (.str (s "digits") 1068)] 0), #[]⟩
noncomputable def o537 (P : Params) : Obj := ⟨(.type "tuple"), none, (.seq #[] 0), #[]⟩
noncomputable def o538 (P : Params) : Obj := ⟨.none, none, (.func (fn (hT 60) (s "integer_of") (s "integer_of") 0 [] .none .none .none .none none .none .none 0)), #[]⟩
noncomputable def o539 (P : Params) : Obj := ⟨(.type "code"), none, (.fields #[(.str (s "integer_of") 1064), (.str (s "integer_of") 1065), (.str (s "/claim/cut.py") 1066), (.int (331) 0), (.int (1) 0), (.int (0) 0), (.int (0) 0), (.int (3) 0), (.ref 534), (.bool true), (.int (374) 0), (.ref 535), .none, (.ref 536), (.ref 537), (.ref 538), (.int (1069) 0), (.int (331) 0), (.str (s "/claim/cut.py") 1070)]), #[]⟩
noncomputable def o540 (P : Params) : Obj := ⟨(.type "function"), none, (.func (fn (hT 60) (s "integer_of") (s "integer_of") 3 [] .none .none .none (.str (s "likepanes.shapes") 895) none (.ref 539) .none 0)), #[]⟩
noncomputable def o541 (P : Params) : Obj := ⟨(.type "tuple"), none, (.seq #[] 0), #[]⟩
noncomputable def o542 (P : Params) : Obj := ⟨.none, none, (.fields #[]), #[]⟩
noncomputable def o543 (P : Params) : Obj := ⟨.none, none, (.func (fn (hT 61) (s "text_of") (s "text_of") 0 [] .none .none .none .none none .none .none 0)), #[]⟩
noncomputable def o544 (P : Params) : Obj := ⟨(.type "code"), none, (.fields #[(.str (s "text_of") 1072), (.str (s "text_of") 1073), (.str (s "/claim/cut.py") 1074), (.int (336) 0), (.int (2) 0), (.int (0) 0), (.int (0) 0), (.int (3) 0), (.ref 541), (.bool true), (.int (374) 0), (.ref 542), .none, .none, .none, (.ref 543), (.int (1075) 0), (.int (336) 0), (.str (s "/claim/cut.py") 1076)]), #[]⟩
noncomputable def o545 (P : Params) : Obj := ⟨(.type "function"), none, (.func (fn (hT 61) (s "text_of") (s "text_of") 3 [] .none .none .none (.str (s "likepanes.shapes") 895) none (.ref 544) .none 0)), #[]⟩
noncomputable def o546 (P : Params) : Obj := ⟨(.type "tuple"), none, (.seq #[] 0), #[]⟩
noncomputable def o547 (P : Params) : Obj := ⟨.none, none, (.fields #[]), #[]⟩
noncomputable def o548 (P : Params) : Obj := ⟨(.type "tuple"), none, (.seq #[(.str (s "shape") 1081), (.str (s "chain") 1082), (.str (s "rank") 1083), (.str (s "equation") 1084)] 0), #[]⟩
noncomputable def o549 (P : Params) : Obj := ⟨(.type "tuple"), none, (.seq #[] 0), #[]⟩
noncomputable def o550 (P : Params) : Obj := ⟨.none, none, (.func (fn (hT 62) (s "turned_text") (s "turned_text") 0 [] .none .none .none .none none .none .none 0)), #[]⟩
noncomputable def o551 (P : Params) : Obj := ⟨(.type "code"), none, (.fields #[(.str (s "turned_text") 1078), (.str (s "turned_text") 1079), (.str (s "/claim/cut.py") 1080), (.int (339) 0), (.int (1) 0), (.int (0) 0), (.int (0) 0), (.int (3) 0), (.ref 546), (.bool true), (.int (374) 0), (.ref 547), .none, (.ref 548), (.ref 549), (.ref 550), (.int (1085) 0), (.int (339) 0), (.str (s "/claim/cut.py") 1086)]), #[]⟩
noncomputable def o552 (P : Params) : Obj := ⟨(.type "function"), none, (.func (fn (hT 62) (s "turned_text") (s "turned_text") 3 [] .none .none .none (.str (s "likepanes.shapes") 895) none (.ref 551) .none 0)), #[]⟩
noncomputable def o553 (P : Params) : Obj := ⟨(.type "tuple"), none, (.seq #[] 0), #[]⟩
noncomputable def o554 (P : Params) : Obj := ⟨.none, none, (.fields #[]), #[]⟩
noncomputable def o555 (P : Params) : Obj := ⟨(.type "tuple"), none, (.seq #[(.str (s "_law_cells") 1093), (.str (s "_law_turn") 1094), (.str (s "_law_mixed") 1095), (.str (s "_law_cell") 1096), (.str (s "_law_own") 1097)] 0), #[]⟩
noncomputable def o556 (P : Params) : Obj := ⟨(.type "tuple"), none, (.seq #[] 0), #[]⟩
noncomputable def o557 (P : Params) : Obj := ⟨.none, none, (.func (fn (hT 64) (s "_law_tub") (s "_law_tub") 0 [] .none .none .none .none none .none .none 0)), #[]⟩
noncomputable def o558 (P : Params) : Obj := ⟨(.type "code"), none, (.fields #[(.str (s "_law_tub") 1090), (.str (s "_law_tub") 1091), (.str (s "/claim/cut.py") 1092), (.int (345) 0), (.int (2) 0), (.int (0) 0), (.int (0) 0), (.int (3) 0), (.ref 553), (.bool true), (.int (374) 0), (.ref 554), .none, (.ref 555), (.ref 556), (.ref 557), (.int (1098) 0), (.int (345) 0), (.str (s "/claim/cut.py") 1099)]), #[]⟩
noncomputable def o559 (P : Params) : Obj := ⟨(.type "function"), none, (.func (fn (hT 64) (s "_law_tub") (s "_law_tub") 3 [] .none .none .none (.str (s "law_likepanes_k12_known_shapes") 1088) none (.ref 558) .none 0)), #[]⟩
noncomputable def o560 (P : Params) : Obj := ⟨(.type "tuple"), none, (.seq #[] 0), #[]⟩
noncomputable def o561 (P : Params) : Obj := ⟨.none, none, (.fields #[]), #[]⟩
noncomputable def o562 (P : Params) : Obj := ⟨(.type "tuple"), none, (.seq #[(.str (s "_law_tub_here") 1104), (.str (s "_law_amount") 1105), (.str (s "_law_figure") 1106)] 0), #[]⟩
noncomputable def o563 (P : Params) : Obj := ⟨(.type "tuple"), none, (.seq #[] 0), #[]⟩
noncomputable def o564 (P : Params) : Obj := ⟨.none, none, (.func (fn (hT 65) (s "_law_tap") (s "_law_tap") 0 [] .none .none .none .none none .none .none 0)), #[]⟩
noncomputable def o565 (P : Params) : Obj := ⟨(.type "code"), none, (.fields #[(.str (s "_law_tap") 1101), (.str (s "_law_tap") 1102), (.str (s "/claim/cut.py") 1103), (.int (351) 0), (.int (2) 0), (.int (0) 0), (.int (0) 0), (.int (3) 0), (.ref 560), (.bool true), (.int (374) 0), (.ref 561), .none, (.ref 562), (.ref 563), (.ref 564), (.int (1107) 0), (.int (351) 0), (.str (s "/claim/cut.py") 1108)]), #[]⟩
noncomputable def o566 (P : Params) : Obj := ⟨(.type "function"), none, (.func (fn (hT 65) (s "_law_tap") (s "_law_tap") 3 [] .none .none .none (.str (s "law_likepanes_k12_known_shapes") 1088) none (.ref 565) .none 0)), #[]⟩
noncomputable def o567 (P : Params) : Obj := ⟨(.type "tuple"), none, (.seq #[] 0), #[]⟩
noncomputable def o568 (P : Params) : Obj := ⟨.none, none, (.fields #[]), #[]⟩
noncomputable def o569 (P : Params) : Obj := ⟨(.type "tuple"), none, (.seq #[(.str (s "_law_number") 1113), (.str (s "_law_found") 1114)] 0), #[]⟩
noncomputable def o570 (P : Params) : Obj := ⟨(.type "tuple"), none, (.seq #[] 0), #[]⟩
noncomputable def o571 (P : Params) : Obj := ⟨.none, none, (.func (fn (hT 66) (s "_law_root_down") (s "_law_root_down") 0 [] .none .none .none .none none .none .none 0)), #[]⟩
noncomputable def o572 (P : Params) : Obj := ⟨(.type "code"), none, (.fields #[(.str (s "_law_root_down") 1110), (.str (s "_law_root_down") 1111), (.str (s "/claim/cut.py") 1112), (.int (357) 0), (.int (1) 0), (.int (0) 0), (.int (0) 0), (.int (3) 0), (.ref 567), (.bool true), (.int (374) 0), (.ref 568), .none, (.ref 569), (.ref 570), (.ref 571), (.int (1115) 0), (.int (357) 0), (.str (s "/claim/cut.py") 1116)]), #[]⟩
noncomputable def o573 (P : Params) : Obj := ⟨(.type "function"), none, (.func (fn (hT 66) (s "_law_root_down") (s "_law_root_down") 3 [] .none .none .none (.str (s "law_likepanes_k12_known_shapes") 1088) none (.ref 572) .none 0)), #[]⟩
noncomputable def o574 (P : Params) : Obj := ⟨(.type "tuple"), none, (.seq #[] 0), #[]⟩
noncomputable def o575 (P : Params) : Obj := ⟨.none, none, (.fields #[]), #[]⟩
noncomputable def o576 (P : Params) : Obj := ⟨.none, none, (.func (fn (hT 67) (s "_law_right") (s "_law_right") 0 [] .none .none .none .none none .none .none 0)), #[]⟩
noncomputable def o577 (P : Params) : Obj := ⟨(.type "code"), none, (.fields #[(.str (s "_law_right") 1118), (.str (s "_law_right") 1119), (.str (s "/claim/cut.py") 1120), (.int (362) 0), (.int (1) 0), (.int (0) 0), (.int (0) 0), (.int (3) 0), (.ref 574), (.bool true), (.int (374) 0), (.ref 575), .none, .none, .none, (.ref 576), (.int (1121) 0), (.int (362) 0), (.str (s "/claim/cut.py") 1122)]), #[]⟩
noncomputable def o578 (P : Params) : Obj := ⟨(.type "function"), none, (.func (fn (hT 67) (s "_law_right") (s "_law_right") 3 [] .none .none .none (.str (s "law_likepanes_k12_known_shapes") 1088) none (.ref 577) .none 0)), #[]⟩
noncomputable def o579 (P : Params) : Obj := ⟨(.type "tuple"), none, (.seq #[] 0), #[]⟩
noncomputable def o580 (P : Params) : Obj := ⟨.none, none, (.fields #[]), #[]⟩
noncomputable def o581 (P : Params) : Obj := ⟨.none, none, (.func (fn (hT 68) (s "law") (s "law") 0 [] .none .none .none .none none .none .none 0)), #[]⟩
noncomputable def o582 (P : Params) : Obj := ⟨(.type "code"), none, (.fields #[(.str (s "law") 1124), (.str (s "law") 1125), (.str (s "/claim/cut.py") 1126), (.int (389) 0), (.int (1) 0), (.int (0) 0), (.int (0) 0), (.int (3) 0), (.ref 579), (.bool true), (.int (374) 0), (.ref 580), .none, .none, .none, (.ref 581), (.int (1127) 0), (.int (389) 0), (.str (s "/claim/cut.py") 1128)]), #[]⟩
noncomputable def o583 (P : Params) : Obj := ⟨(.type "function"), none, (.func (fn (hT 68) (s "law") (s "law") 3 [] .none .none .none (.str (s "law_likepanes_k12_known_shapes") 1088) none (.ref 582) .none 0)), #[]⟩
noncomputable def t5 (P : Params) : BT := (n (o0 P) (n (o1 P) (n (o3_5 P) (n (o7 P) (n (o15 P) (n (o31 P) (n (o63 P) (n (o127 P) (n (o255 P) (n (o511 P) z z) z) (n (o383 P) z z)) (n (o191 P) (n (o319 P) (n (o575 P) z z) z) (n (o447 P) z z))) (n (o95 P) (n (o159 P) (n (o287 P) (n (o543 P) z z) z) (n (o415 P) z z)) (n (o223 P) (n (o351 P) z z) (n (o479 P) z z)))) (n (o47 P) (n (o79 P) (n (o143 P) (n (o271 P) (n (o527 P) z z) z) (n (o399 P) z z)) (n (o207 P) (n (o335 P) z z) (n (o463 P) z z))) (n (o111 P) (n (o175 P) (n (o303 P) (n (o559 P) z z) z) (n (o431 P) z z)) (n (o239 P) (n (o367 P) z z) (n (o495 P) z z))))) (n (o23 P) (n (o39 P) (n (o71 P) (n (o135 P) (n (o263 P) (n (o519 P) z z) z) (n (o391 P) z z)) (n (o199 P) (n (o327 P) (n (o583 P) z z) z) (n (o455 P) z z))) (n (o103 P) (n (o167 P) (n (o295 P) (n (o551 P) z z) z) (n (o423 P) z z)) (n (o231 P) (n (o359 P) z z) (n (o487 P) z z)))) (n (o55 P) (n (o87 P) (n (o151 P) (n (o279 P) (n (o535 P) z z) z) (n (o407 P) z z)) (n (o215 P) (n (o343 P) z z) (n (o471 P) z z))) (n (o119 P) (n (o183 P) (n (o311 P) (n (o567 P) z z) z) (n (o439 P) z z)) (n (o247 P) (n (o375 P) z z) (n (o503 P) z z)))))) (n (o11 P) (n (o19 P) (n (o35 P) (n (o67 P) (n (o131 P) (n (o259 P) (n (o515 P) z z) z) (n (o387 P) z z)) (n (o195 P) (n (o323 P) (n (o579 P) z z) z) (n (o451 P) z z))) (n (o99 P) (n (o163 P) (n (o291 P) (n (o547 P) z z) z) (n (o419 P) z z)) (n (o227 P) (n (o355 P) z z) (n (o483 P) z z)))) (n (o51 P) (n (o83 P) (n (o147 P) (n (o275 P) (n (o531 P) z z) z) (n (o403 P) z z)) (n (o211 P) (n (o339 P) z z) (n (o467 P) z z))) (n (o115 P) (n (o179 P) (n (o307 P) (n (o563 P) z z) z) (n (o435 P) z z)) (n (o243 P) (n (o371 P) z z) (n (o499 P) z z))))) (n (o27 P) (n (o43 P) (n (o75 P) (n (o139 P) (n (o267 P) (n (o523 P) z z) z) (n (o395 P) z z)) (n (o203 P) (n (o331 P) z z) (n (o459 P) z z))) (n (o107 P) (n (o171 P) (n (o299 P) (n (o555 P) z z) z) (n (o427 P) z z)) (n (o235 P) (n (o363 P) z z) (n (o491 P) z z)))) (n (o59 P) (n (o91 P) (n (o155 P) (n (o283 P) (n (o539 P) z z) z) (n (o411 P) z z)) (n (o219 P) (n (o347 P) z z) (n (o475 P) z z))) (n (o123 P) (n (o187 P) (n (o315 P) (n (o571 P) z z) z) (n (o443 P) z z)) (n (o251 P) (n (o379 P) z z) (n (o507 P) z z))))))) (n (o5 P) (n (o9 P) (n (o17 P) (n (o33 P) (n (o65 P) (n (o129 P) (n (o257 P) (n (o513 P) z z) z) (n (o385 P) z z)) (n (o193 P) (n (o321 P) (n (o577 P) z z) z) (n (o449 P) z z))) (n (o97 P) (n (o161 P) (n (o289 P) (n (o545 P) z z) z) (n (o417 P) z z)) (n (o225 P) (n (o353 P) z z) (n (o481 P) z z)))) (n (o49 P) (n (o81 P) (n (o145 P) (n (o273 P) (n (o529 P) z z) z) (n (o401 P) z z)) (n (o209 P) (n (o337 P) z z) (n (o465 P) z z))) (n (o113 P) (n (o177 P) (n (o305 P) (n (o561 P) z z) z) (n (o433 P) z z)) (n (o241 P) (n (o369 P) z z) (n (o497 P) z z))))) (n (o25 P) (n (o41 P) (n (o73 P) (n (o137 P) (n (o265 P) (n (o521 P) z z) z) (n (o393 P) z z)) (n (o201 P) (n (o329 P) z z) (n (o457 P) z z))) (n (o105 P) (n (o169 P) (n (o297 P) (n (o553 P) z z) z) (n (o425 P) z z)) (n (o233 P) (n (o361 P) z z) (n (o489 P) z z)))) (n (o57 P) (n (o89 P) (n (o153 P) (n (o281 P) (n (o537 P) z z) z) (n (o409 P) z z)) (n (o217 P) (n (o345 P) z z) (n (o473 P) z z))) (n (o121 P) (n (o185 P) (n (o313 P) (n (o569 P) z z) z) (n (o441 P) z z)) (n (o249 P) (n (o377 P) z z) (n (o505 P) z z)))))) (n (o13 P) (n (o21 P) (n (o37 P) (n (o69 P) (n (o133 P) (n (o261 P) (n (o517 P) z z) z) (n (o389 P) z z)) (n (o197 P) (n (o325 P) (n (o581 P) z z) z) (n (o453 P) z z))) (n (o101 P) (n (o165 P) (n (o293 P) (n (o549 P) z z) z) (n (o421 P) z z)) (n (o229 P) (n (o357 P) z z) (n (o485 P) z z)))) (n (o53 P) (n (o85 P) (n (o149 P) (n (o277 P) (n (o533 P) z z) z) (n (o405 P) z z)) (n (o213 P) (n (o341 P) z z) (n (o469 P) z z))) (n (o117 P) (n (o181 P) (n (o309 P) (n (o565 P) z z) z) (n (o437 P) z z)) (n (o245 P) (n (o373 P) z z) (n (o501 P) z z))))) (n (o29 P) (n (o45 P) (n (o77 P) (n (o141 P) (n (o269 P) (n (o525 P) z z) z) (n (o397 P) z z)) (n (o205 P) (n (o333 P) z z) (n (o461 P) z z))) (n (o109 P) (n (o173 P) (n (o301 P) (n (o557 P) z z) z) (n (o429 P) z z)) (n (o237 P) (n (o365 P) z z) (n (o493 P) z z)))) (n (o61 P) (n (o93 P) (n (o157 P) (n (o285 P) (n (o541 P) z z) z) (n (o413 P) z z)) (n (o221 P) (n (o349 P) z z) (n (o477 P) z z))) (n (o125 P) (n (o189 P) (n (o317 P) (n (o573 P) z z) z) (n (o445 P) z z)) (n (o253 P) (n (o381 P) z z) (n (o509 P) z z)))))))) (n (o2_2 P) (n (o4 P) (n (o8 P) (n (o16 P) (n (o32 P) (n (o64 P) (n (o128 P) (n (o256 P) (n (o512 P) z z) z) (n (o384 P) z z)) (n (o192 P) (n (o320 P) (n (o576 P) z z) z) (n (o448 P) z z))) (n (o96 P) (n (o160 P) (n (o288 P) (n (o544 P) z z) z) (n (o416 P) z z)) (n (o224 P) (n (o352 P) z z) (n (o480 P) z z)))) (n (o48 P) (n (o80 P) (n (o144 P) (n (o272 P) (n (o528 P) z z) z) (n (o400 P) z z)) (n (o208 P) (n (o336 P) z z) (n (o464 P) z z))) (n (o112 P) (n (o176 P) (n (o304 P) (n (o560 P) z z) z) (n (o432 P) z z)) (n (o240 P) (n (o368 P) z z) (n (o496 P) z z))))) (n (o24 P) (n (o40_5 P) (n (o72 P) (n (o136 P) (n (o264 P) (n (o520 P) z z) z) (n (o392 P) z z)) (n (o200 P) (n (o328 P) z z) (n (o456 P) z z))) (n (o104 P) (n (o168 P) (n (o296 P) (n (o552 P) z z) z) (n (o424 P) z z)) (n (o232 P) (n (o360 P) z z) (n (o488 P) z z)))) (n (o56 P) (n (o88 P) (n (o152 P) (n (o280 P) (n (o536 P) z z) z) (n (o408 P) z z)) (n (o216 P) (n (o344 P) z z) (n (o472 P) z z))) (n (o120 P) (n (o184 P) (n (o312 P) (n (o568 P) z z) z) (n (o440 P) z z)) (n (o248 P) (n (o376 P) z z) (n (o504 P) z z)))))) (n (o12_0 P) (n (o20 P) (n (o36 P) (n (o68 P) (n (o132 P) (n (o260 P) (n (o516 P) z z) z) (n (o388 P) z z)) (n (o196 P) (n (o324 P) (n (o580 P) z z) z) (n (o452 P) z z))) (n (o100 P) (n (o164 P) (n (o292 P) (n (o548 P) z z) z) (n (o420 P) z z)) (n (o228 P) (n (o356 P) z z) (n (o484 P) z z)))) (n (o52_2 P) (n (o84 P) (n (o148 P) (n (o276 P) (n (o532 P) z z) z) (n (o404 P) z z)) (n (o212 P) (n (o340 P) z z) (n (o468 P) z z))) (n (o116 P) (n (o180 P) (n (o308 P) (n (o564 P) z z) z) (n (o436 P) z z)) (n (o244 P) (n (o372 P) z z) (n (o500 P) z z))))) (n (o28 P) (n (o44 P) (n (o76 P) (n (o140 P) (n (o268 P) (n (o524 P) z z) z) (n (o396 P) z z)) (n (o204 P) (n (o332 P) z z) (n (o460 P) z z))) (n (o108 P) (n (o172 P) (n (o300 P) (n (o556 P) z z) z) (n (o428 P) z z)) (n (o236 P) (n (o364 P) z z) (n (o492 P) z z)))) (n (o60 P) (n (o92 P) (n (o156 P) (n (o284 P) (n (o540 P) z z) z) (n (o412 P) z z)) (n (o220 P) (n (o348 P) z z) (n (o476 P) z z))) (n (o124 P) (n (o188 P) (n (o316 P) (n (o572 P) z z) z) (n (o444 P) z z)) (n (o252 P) (n (o380 P) z z) (n (o508 P) z z))))))) (n (o6 P) (n (o10 P) (n (o18 P) (n (o34 P) (n (o66 P) (n (o130 P) (n (o258 P) (n (o514 P) z z) z) (n (o386 P) z z)) (n (o194 P) (n (o322 P) (n (o578 P) z z) z) (n (o450 P) z z))) (n (o98 P) (n (o162 P) (n (o290 P) (n (o546 P) z z) z) (n (o418 P) z z)) (n (o226 P) (n (o354 P) z z) (n (o482 P) z z)))) (n (o50 P) (n (o82 P) (n (o146 P) (n (o274 P) (n (o530 P) z z) z) (n (o402 P) z z)) (n (o210 P) (n (o338 P) z z) (n (o466 P) z z))) (n (o114 P) (n (o178 P) (n (o306 P) (n (o562 P) z z) z) (n (o434 P) z z)) (n (o242 P) (n (o370 P) z z) (n (o498 P) z z))))) (n (o26 P) (n (o42 P) (n (o74 P) (n (o138 P) (n (o266 P) (n (o522 P) z z) z) (n (o394 P) z z)) (n (o202 P) (n (o330 P) z z) (n (o458 P) z z))) (n (o106 P) (n (o170 P) (n (o298 P) (n (o554 P) z z) z) (n (o426 P) z z)) (n (o234 P) (n (o362 P) z z) (n (o490 P) z z)))) (n (o58 P) (n (o90 P) (n (o154 P) (n (o282 P) (n (o538 P) z z) z) (n (o410 P) z z)) (n (o218 P) (n (o346 P) z z) (n (o474 P) z z))) (n (o122 P) (n (o186 P) (n (o314 P) (n (o570 P) z z) z) (n (o442 P) z z)) (n (o250 P) (n (o378 P) z z) (n (o506 P) z z)))))) (n (o14 P) (n (o22 P) (n (o38 P) (n (o70 P) (n (o134 P) (n (o262 P) (n (o518 P) z z) z) (n (o390 P) z z)) (n (o198 P) (n (o326 P) (n (o582 P) z z) z) (n (o454 P) z z))) (n (o102 P) (n (o166 P) (n (o294 P) (n (o550 P) z z) z) (n (o422 P) z z)) (n (o230 P) (n (o358 P) z z) (n (o486 P) z z)))) (n (o54 P) (n (o86 P) (n (o150 P) (n (o278 P) (n (o534 P) z z) z) (n (o406 P) z z)) (n (o214 P) (n (o342 P) z z) (n (o470 P) z z))) (n (o118 P) (n (o182 P) (n (o310 P) (n (o566 P) z z) z) (n (o438 P) z z)) (n (o246 P) (n (o374 P) z z) (n (o502 P) z z))))) (n (o30 P) (n (o46 P) (n (o78 P) (n (o142 P) (n (o270 P) (n (o526 P) z z) z) (n (o398 P) z z)) (n (o206 P) (n (o334 P) z z) (n (o462 P) z z))) (n (o110 P) (n (o174 P) (n (o302 P) (n (o558 P) z z) z) (n (o430 P) z z)) (n (o238 P) (n (o366 P) z z) (n (o494 P) z z)))) (n (o62 P) (n (o94 P) (n (o158 P) (n (o286 P) (n (o542 P) z z) z) (n (o414 P) z z)) (n (o222 P) (n (o350 P) z z) (n (o478 P) z z))) (n (o126 P) (n (o190 P) (n (o318 P) (n (o574 P) z z) z) (n (o446 P) z z)) (n (o254 P) (n (o382 P) z z) (n (o510 P) z z)))))))))
noncomputable def X5 (w : World) (os : OsState) : SharedT := ⟨t5 w.params, 584, {}, #[], {}, 1130, os⟩
noncomputable def tf (P : Params) : BT := (n (o0 P) (n (o1 P) (n (o3_5 P) (n (o7 P) (n (o15 P) (n (o31 P) (n (o63 P) (n (o127 P) (n (o255 P) (n (o511 P) z z) z) (n (o383 P) z z)) (n (o191 P) (n (o319 P) (n (o575 P) z z) z) (n (o447 P) z z))) (n (o95 P) (n (o159 P) (n (o287 P) (n (o543 P) z z) z) (n (o415 P) z z)) (n (o223 P) (n (o351 P) z z) (n (o479 P) z z)))) (n (o47 P) (n (o79 P) (n (o143 P) (n (o271 P) (n (o527 P) z z) z) (n (o399 P) z z)) (n (o207 P) (n (o335 P) z z) (n (o463 P) z z))) (n (o111 P) (n (o175 P) (n (o303 P) (n (o559 P) z z) z) (n (o431 P) z z)) (n (o239 P) (n (o367 P) z z) (n (o495 P) z z))))) (n (o23 P) (n (o39 P) (n (o71 P) (n (o135 P) (n (o263 P) (n (o519 P) z z) z) (n (o391 P) z z)) (n (o199 P) (n (o327 P) (n (o583 P) z z) z) (n (o455 P) z z))) (n (o103 P) (n (o167 P) (n (o295 P) (n (o551 P) z z) z) (n (o423 P) z z)) (n (o231 P) (n (o359 P) z z) (n (o487 P) z z)))) (n (o55 P) (n (o87 P) (n (o151 P) (n (o279 P) (n (o535 P) z z) z) (n (o407 P) z z)) (n (o215 P) (n (o343 P) z z) (n (o471 P) z z))) (n (o119 P) (n (o183 P) (n (o311 P) (n (o567 P) z z) z) (n (o439 P) z z)) (n (o247 P) (n (o375 P) z z) (n (o503 P) z z)))))) (n (o11 P) (n (o19 P) (n (o35 P) (n (o67 P) (n (o131 P) (n (o259 P) (n (o515 P) z z) z) (n (o387 P) z z)) (n (o195 P) (n (o323 P) (n (o579 P) z z) z) (n (o451 P) z z))) (n (o99 P) (n (o163 P) (n (o291 P) (n (o547 P) z z) z) (n (o419 P) z z)) (n (o227 P) (n (o355 P) z z) (n (o483 P) z z)))) (n (o51 P) (n (o83 P) (n (o147 P) (n (o275 P) (n (o531 P) z z) z) (n (o403 P) z z)) (n (o211 P) (n (o339 P) z z) (n (o467 P) z z))) (n (o115 P) (n (o179 P) (n (o307 P) (n (o563 P) z z) z) (n (o435 P) z z)) (n (o243 P) (n (o371 P) z z) (n (o499 P) z z))))) (n (o27 P) (n (o43 P) (n (o75 P) (n (o139 P) (n (o267 P) (n (o523 P) z z) z) (n (o395 P) z z)) (n (o203 P) (n (o331 P) z z) (n (o459 P) z z))) (n (o107 P) (n (o171 P) (n (o299 P) (n (o555 P) z z) z) (n (o427 P) z z)) (n (o235 P) (n (o363 P) z z) (n (o491 P) z z)))) (n (o59 P) (n (o91 P) (n (o155 P) (n (o283 P) (n (o539 P) z z) z) (n (o411 P) z z)) (n (o219 P) (n (o347 P) z z) (n (o475 P) z z))) (n (o123 P) (n (o187 P) (n (o315 P) (n (o571 P) z z) z) (n (o443 P) z z)) (n (o251 P) (n (o379 P) z z) (n (o507 P) z z))))))) (n (o5 P) (n (o9 P) (n (o17 P) (n (o33 P) (n (o65 P) (n (o129 P) (n (o257 P) (n (o513 P) z z) z) (n (o385 P) z z)) (n (o193 P) (n (o321 P) (n (o577 P) z z) z) (n (o449 P) z z))) (n (o97 P) (n (o161 P) (n (o289 P) (n (o545 P) z z) z) (n (o417 P) z z)) (n (o225 P) (n (o353 P) z z) (n (o481 P) z z)))) (n (o49 P) (n (o81 P) (n (o145 P) (n (o273 P) (n (o529 P) z z) z) (n (o401 P) z z)) (n (o209 P) (n (o337 P) z z) (n (o465 P) z z))) (n (o113 P) (n (o177 P) (n (o305 P) (n (o561 P) z z) z) (n (o433 P) z z)) (n (o241 P) (n (o369 P) z z) (n (o497 P) z z))))) (n (o25 P) (n (o41 P) (n (o73 P) (n (o137 P) (n (o265 P) (n (o521 P) z z) z) (n (o393 P) z z)) (n (o201 P) (n (o329 P) z z) (n (o457 P) z z))) (n (o105 P) (n (o169 P) (n (o297 P) (n (o553 P) z z) z) (n (o425 P) z z)) (n (o233 P) (n (o361 P) z z) (n (o489 P) z z)))) (n (o57 P) (n (o89 P) (n (o153 P) (n (o281 P) (n (o537 P) z z) z) (n (o409 P) z z)) (n (o217 P) (n (o345 P) z z) (n (o473 P) z z))) (n (o121 P) (n (o185 P) (n (o313 P) (n (o569 P) z z) z) (n (o441 P) z z)) (n (o249 P) (n (o377 P) z z) (n (o505 P) z z)))))) (n (o13 P) (n (o21 P) (n (o37 P) (n (o69 P) (n (o133 P) (n (o261 P) (n (o517 P) z z) z) (n (o389 P) z z)) (n (o197 P) (n (o325 P) (n (o581 P) z z) z) (n (o453 P) z z))) (n (o101 P) (n (o165 P) (n (o293 P) (n (o549 P) z z) z) (n (o421 P) z z)) (n (o229 P) (n (o357 P) z z) (n (o485 P) z z)))) (n (o53 P) (n (o85 P) (n (o149 P) (n (o277 P) (n (o533 P) z z) z) (n (o405 P) z z)) (n (o213 P) (n (o341 P) z z) (n (o469 P) z z))) (n (o117 P) (n (o181 P) (n (o309 P) (n (o565 P) z z) z) (n (o437 P) z z)) (n (o245 P) (n (o373 P) z z) (n (o501 P) z z))))) (n (o29 P) (n (o45 P) (n (o77 P) (n (o141 P) (n (o269 P) (n (o525 P) z z) z) (n (o397 P) z z)) (n (o205 P) (n (o333 P) z z) (n (o461 P) z z))) (n (o109 P) (n (o173 P) (n (o301 P) (n (o557 P) z z) z) (n (o429 P) z z)) (n (o237 P) (n (o365 P) z z) (n (o493 P) z z)))) (n (o61 P) (n (o93 P) (n (o157 P) (n (o285 P) (n (o541 P) z z) z) (n (o413 P) z z)) (n (o221 P) (n (o349 P) z z) (n (o477 P) z z))) (n (o125 P) (n (o189 P) (n (o317 P) (n (o573 P) z z) z) (n (o445 P) z z)) (n (o253 P) (n (o381 P) z z) (n (o509 P) z z)))))))) (n (o2_2 P) (n (o4 P) (n (o8 P) (n (o16 P) (n (o32 P) (n (o64 P) (n (o128 P) (n (o256 P) (n (o512 P) z z) z) (n (o384 P) z z)) (n (o192 P) (n (o320 P) (n (o576 P) z z) z) (n (o448 P) z z))) (n (o96 P) (n (o160 P) (n (o288 P) (n (o544 P) z z) z) (n (o416 P) z z)) (n (o224 P) (n (o352 P) z z) (n (o480 P) z z)))) (n (o48 P) (n (o80 P) (n (o144 P) (n (o272 P) (n (o528 P) z z) z) (n (o400 P) z z)) (n (o208 P) (n (o336 P) z z) (n (o464 P) z z))) (n (o112 P) (n (o176 P) (n (o304 P) (n (o560 P) z z) z) (n (o432 P) z z)) (n (o240 P) (n (o368 P) z z) (n (o496 P) z z))))) (n (o24 P) (n (o40_5 P) (n (o72 P) (n (o136 P) (n (o264 P) (n (o520 P) z z) z) (n (o392 P) z z)) (n (o200 P) (n (o328 P) z z) (n (o456 P) z z))) (n (o104 P) (n (o168 P) (n (o296 P) (n (o552 P) z z) z) (n (o424 P) z z)) (n (o232 P) (n (o360 P) z z) (n (o488 P) z z)))) (n (o56 P) (n (o88 P) (n (o152 P) (n (o280 P) (n (o536 P) z z) z) (n (o408 P) z z)) (n (o216 P) (n (o344 P) z z) (n (o472 P) z z))) (n (o120 P) (n (o184 P) (n (o312 P) (n (o568 P) z z) z) (n (o440 P) z z)) (n (o248 P) (n (o376 P) z z) (n (o504 P) z z)))))) (n (o12_0 P) (n (o20 P) (n (o36 P) (n (o68 P) (n (o132 P) (n (o260 P) (n (o516 P) z z) z) (n (o388 P) z z)) (n (o196 P) (n (o324 P) (n (o580 P) z z) z) (n (o452 P) z z))) (n (o100 P) (n (o164 P) (n (o292 P) (n (o548 P) z z) z) (n (o420 P) z z)) (n (o228 P) (n (o356 P) z z) (n (o484 P) z z)))) (n (o52_2 P) (n (o84 P) (n (o148 P) (n (o276 P) (n (o532 P) z z) z) (n (o404 P) z z)) (n (o212 P) (n (o340 P) z z) (n (o468 P) z z))) (n (o116 P) (n (o180 P) (n (o308 P) (n (o564 P) z z) z) (n (o436 P) z z)) (n (o244 P) (n (o372 P) z z) (n (o500 P) z z))))) (n (o28 P) (n (o44 P) (n (o76 P) (n (o140 P) (n (o268 P) (n (o524 P) z z) z) (n (o396 P) z z)) (n (o204 P) (n (o332 P) z z) (n (o460 P) z z))) (n (o108 P) (n (o172 P) (n (o300 P) (n (o556 P) z z) z) (n (o428 P) z z)) (n (o236 P) (n (o364 P) z z) (n (o492 P) z z)))) (n (o60 P) (n (o92 P) (n (o156 P) (n (o284 P) (n (o540 P) z z) z) (n (o412 P) z z)) (n (o220 P) (n (o348 P) z z) (n (o476 P) z z))) (n (o124 P) (n (o188 P) (n (o316 P) (n (o572 P) z z) z) (n (o444 P) z z)) (n (o252 P) (n (o380 P) z z) (n (o508 P) z z))))))) (n (o6 P) (n (o10 P) (n (o18 P) (n (o34 P) (n (o66 P) (n (o130 P) (n (o258 P) (n (o514 P) z z) z) (n (o386 P) z z)) (n (o194 P) (n (o322 P) (n (o578 P) z z) z) (n (o450 P) z z))) (n (o98 P) (n (o162 P) (n (o290 P) (n (o546 P) z z) z) (n (o418 P) z z)) (n (o226 P) (n (o354 P) z z) (n (o482 P) z z)))) (n (o50 P) (n (o82 P) (n (o146 P) (n (o274 P) (n (o530 P) z z) z) (n (o402 P) z z)) (n (o210 P) (n (o338 P) z z) (n (o466 P) z z))) (n (o114 P) (n (o178 P) (n (o306 P) (n (o562 P) z z) z) (n (o434 P) z z)) (n (o242 P) (n (o370 P) z z) (n (o498 P) z z))))) (n (o26 P) (n (o42 P) (n (o74 P) (n (o138 P) (n (o266 P) (n (o522 P) z z) z) (n (o394 P) z z)) (n (o202 P) (n (o330 P) z z) (n (o458 P) z z))) (n (o106 P) (n (o170 P) (n (o298 P) (n (o554 P) z z) z) (n (o426 P) z z)) (n (o234 P) (n (o362 P) z z) (n (o490 P) z z)))) (n (o58 P) (n (o90 P) (n (o154 P) (n (o282 P) (n (o538 P) z z) z) (n (o410 P) z z)) (n (o218 P) (n (o346 P) z z) (n (o474 P) z z))) (n (o122 P) (n (o186 P) (n (o314 P) (n (o570 P) z z) z) (n (o442 P) z z)) (n (o250 P) (n (o378 P) z z) (n (o506 P) z z)))))) (n (o14 P) (n (o22 P) (n (o38 P) (n (o70 P) (n (o134 P) (n (o262 P) (n (o518 P) z z) z) (n (o390 P) z z)) (n (o198 P) (n (o326 P) (n (o582 P) z z) z) (n (o454 P) z z))) (n (o102 P) (n (o166 P) (n (o294 P) (n (o550 P) z z) z) (n (o422 P) z z)) (n (o230 P) (n (o358 P) z z) (n (o486 P) z z)))) (n (o54 P) (n (o86 P) (n (o150 P) (n (o278 P) (n (o534 P) z z) z) (n (o406 P) z z)) (n (o214 P) (n (o342 P) z z) (n (o470 P) z z))) (n (o118 P) (n (o182 P) (n (o310 P) (n (o566 P) z z) z) (n (o438 P) z z)) (n (o246 P) (n (o374 P) z z) (n (o502 P) z z))))) (n (o30 P) (n (o46 P) (n (o78 P) (n (o142 P) (n (o270 P) (n (o526 P) z z) z) (n (o398 P) z z)) (n (o206 P) (n (o334 P) z z) (n (o462 P) z z))) (n (o110 P) (n (o174 P) (n (o302 P) (n (o558 P) z z) z) (n (o430 P) z z)) (n (o238 P) (n (o366 P) z z) (n (o494 P) z z)))) (n (o62 P) (n (o94 P) (n (o158 P) (n (o286 P) (n (o542 P) z z) z) (n (o414 P) z z)) (n (o222 P) (n (o350 P) z z) (n (o478 P) z z))) (n (o126 P) (n (o190 P) (n (o318 P) (n (o574 P) z z) z) (n (o446 P) z z)) (n (o254 P) (n (o382 P) z z) (n (o510 P) z z)))))))))
noncomputable def Xf (w : World) (os : OsState) : SharedT := ⟨tf w.params, 584, {}, #[], {}, 1130, os⟩
noncomputable def lf (P : Params) : List Obj := [o0 P, o1 P, o2_2 P, o3_5 P, o4 P, o5 P, o6 P, o7 P, o8 P, o9 P, o10 P, o11 P, o12_0 P, o13 P, o14 P, o15 P, o16 P, o17 P, o18 P, o19 P, o20 P, o21 P, o22 P, o23 P, o24 P, o25 P, o26 P, o27 P, o28 P, o29 P, o30 P, o31 P, o32 P, o33 P, o34 P, o35 P, o36 P, o37 P, o38 P, o39 P, o40_5 P, o41 P, o42 P, o43 P, o44 P, o45 P, o46 P, o47 P, o48 P, o49 P, o50 P, o51 P, o52_2 P, o53 P, o54 P, o55 P, o56 P, o57 P, o58 P, o59 P, o60 P, o61 P, o62 P, o63 P, o64 P, o65 P, o66 P, o67 P, o68 P, o69 P, o70 P, o71 P, o72 P, o73 P, o74 P, o75 P, o76 P, o77 P, o78 P, o79 P, o80 P, o81 P, o82 P, o83 P, o84 P, o85 P, o86 P, o87 P, o88 P, o89 P, o90 P, o91 P, o92 P, o93 P, o94 P, o95 P, o96 P, o97 P, o98 P, o99 P, o100 P, o101 P, o102 P, o103 P, o104 P, o105 P, o106 P, o107 P, o108 P, o109 P, o110 P, o111 P, o112 P, o113 P, o114 P, o115 P, o116 P, o117 P, o118 P, o119 P, o120 P, o121 P, o122 P, o123 P, o124 P, o125 P, o126 P, o127 P, o128 P, o129 P, o130 P, o131 P, o132 P, o133 P, o134 P, o135 P, o136 P, o137 P, o138 P, o139 P, o140 P, o141 P, o142 P, o143 P, o144 P, o145 P, o146 P, o147 P, o148 P, o149 P, o150 P, o151 P, o152 P, o153 P, o154 P, o155 P, o156 P, o157 P, o158 P, o159 P, o160 P, o161 P, o162 P, o163 P, o164 P, o165 P, o166 P, o167 P, o168 P, o169 P, o170 P, o171 P, o172 P, o173 P, o174 P, o175 P, o176 P, o177 P, o178 P, o179 P, o180 P, o181 P, o182 P, o183 P, o184 P, o185 P, o186 P, o187 P, o188 P, o189 P, o190 P, o191 P, o192 P, o193 P, o194 P, o195 P, o196 P, o197 P, o198 P, o199 P, o200 P, o201 P, o202 P, o203 P, o204 P, o205 P, o206 P, o207 P, o208 P, o209 P, o210 P, o211 P, o212 P, o213 P, o214 P, o215 P, o216 P, o217 P, o218 P, o219 P, o220 P, o221 P, o222 P, o223 P, o224 P, o225 P, o226 P, o227 P, o228 P, o229 P, o230 P, o231 P, o232 P, o233 P, o234 P, o235 P, o236 P, o237 P, o238 P, o239 P, o240 P, o241 P, o242 P, o243 P, o244 P, o245 P, o246 P, o247 P, o248 P, o249 P, o250 P, o251 P, o252 P, o253 P, o254 P, o255 P, o256 P, o257 P, o258 P, o259 P, o260 P, o261 P, o262 P, o263 P, o264 P, o265 P, o266 P, o267 P, o268 P, o269 P, o270 P, o271 P, o272 P, o273 P, o274 P, o275 P, o276 P, o277 P, o278 P, o279 P, o280 P, o281 P, o282 P, o283 P, o284 P, o285 P, o286 P, o287 P, o288 P, o289 P, o290 P, o291 P, o292 P, o293 P, o294 P, o295 P, o296 P, o297 P, o298 P, o299 P, o300 P, o301 P, o302 P, o303 P, o304 P, o305 P, o306 P, o307 P, o308 P, o309 P, o310 P, o311 P, o312 P, o313 P, o314 P, o315 P, o316 P, o317 P, o318 P, o319 P, o320 P, o321 P, o322 P, o323 P, o324 P, o325 P, o326 P, o327 P, o328 P, o329 P, o330 P, o331 P, o332 P, o333 P, o334 P, o335 P, o336 P, o337 P, o338 P, o339 P, o340 P, o341 P, o342 P, o343 P, o344 P, o345 P, o346 P, o347 P, o348 P, o349 P, o350 P, o351 P, o352 P, o353 P, o354 P, o355 P, o356 P, o357 P, o358 P, o359 P, o360 P, o361 P, o362 P, o363 P, o364 P, o365 P, o366 P, o367 P, o368 P, o369 P, o370 P, o371 P, o372 P, o373 P, o374 P, o375 P, o376 P, o377 P, o378 P, o379 P, o380 P, o381 P, o382 P, o383 P, o384 P, o385 P, o386 P, o387 P, o388 P, o389 P, o390 P, o391 P, o392 P, o393 P, o394 P, o395 P, o396 P, o397 P, o398 P, o399 P, o400 P, o401 P, o402 P, o403 P, o404 P, o405 P, o406 P, o407 P, o408 P, o409 P, o410 P, o411 P, o412 P, o413 P, o414 P, o415 P, o416 P, o417 P, o418 P, o419 P, o420 P, o421 P, o422 P, o423 P, o424 P, o425 P, o426 P, o427 P, o428 P, o429 P, o430 P, o431 P, o432 P, o433 P, o434 P, o435 P, o436 P, o437 P, o438 P, o439 P, o440 P, o441 P, o442 P, o443 P, o444 P, o445 P, o446 P, o447 P, o448 P, o449 P, o450 P, o451 P, o452 P, o453 P, o454 P, o455 P, o456 P, o457 P, o458 P, o459 P, o460 P, o461 P, o462 P, o463 P, o464 P, o465 P, o466 P, o467 P, o468 P, o469 P, o470 P, o471 P, o472 P, o473 P, o474 P, o475 P, o476 P, o477 P, o478 P, o479 P, o480 P, o481 P, o482 P, o483 P, o484 P, o485 P, o486 P, o487 P, o488 P, o489 P, o490 P, o491 P, o492 P, o493 P, o494 P, o495 P, o496 P, o497 P, o498 P, o499 P, o500 P, o501 P, o502 P, o503 P, o504 P, o505 P, o506 P, o507 P, o508 P, o509 P, o510 P, o511 P, o512 P, o513 P, o514 P, o515 P, o516 P, o517 P, o518 P, o519 P, o520 P, o521 P, o522 P, o523 P, o524 P, o525 P, o526 P, o527 P, o528 P, o529 P, o530 P, o531 P, o532 P, o533 P, o534 P, o535 P, o536 P, o537 P, o538 P, o539 P, o540 P, o541 P, o542 P, o543 P, o544 P, o545 P, o546 P, o547 P, o548 P, o549 P, o550 P, o551 P, o552 P, o553 P, o554 P, o555 P, o556 P, o557 P, o558 P, o559 P, o560 P, o561 P, o562 P, o563 P, o564 P, o565 P, o566 P, o567 P, o568 P, o569 P, o570 P, o571 P, o572 P, o573 P, o574 P, o575 P, o576 P, o577 P, o578 P, o579 P, o580 P, o581 P, o582 P, o583 P]
noncomputable def Yf (w : World) (os : OsState) : Shared := ⟨⟨⟨lf w.params⟩, {}⟩, #[], {}, 1130, os⟩
noncomputable def K (P : Params) : Frag := [(2, o2_2 P), (3, o3_5 P), (43, o43 P), (50, o50 P), (51, o51 P), (52, o52_2 P), (53, o53 P), (56, o56 P), (63, o63 P), (65, o65 P), (66, o66 P), (68, o68 P), (69, o69 P), (70, o70 P), (71, o71 P), (72, o72 P), (75, o75 P), (82, o82 P), (84, o84 P), (85, o85 P), (87, o87 P), (88, o88 P), (89, o89 P), (90, o90 P), (91, o91 P), (94, o94 P), (101, o101 P), (103, o103 P), (104, o104 P), (106, o106 P), (107, o107 P), (108, o108 P), (109, o109 P), (110, o110 P), (113, o113 P), (120, o120 P), (122, o122 P), (123, o123 P), (125, o125 P), (126, o126 P), (127, o127 P), (128, o128 P), (129, o129 P), (132, o132 P), (139, o139 P), (140, o140 P), (141, o141 P), (142, o142 P), (145, o145 P), (152, o152 P), (154, o154 P), (155, o155 P), (157, o157 P), (158, o158 P), (159, o159 P), (160, o160 P), (161, o161 P), (164, o164 P), (171, o171 P), (173, o173 P), (174, o174 P), (176, o176 P), (177, o177 P), (178, o178 P), (179, o179 P), (180, o180 P), (183, o183 P), (185, o185 P), (186, o186 P), (188, o188 P), (189, o189 P), (190, o190 P), (192, o192 P), (193, o193 P), (195, o195 P), (196, o196 P), (197, o197 P), (200, o200 P), (201, o201 P), (202, o202 P), (205, o205 P), (206, o206 P), (207, o207 P), (210, o210 P), (211, o211 P), (212, o212 P), (214, o214 P), (215, o215 P), (217, o217 P), (218, o218 P), (219, o219 P), (221, o221 P), (222, o222 P), (224, o224 P), (225, o225 P), (226, o226 P), (228, o228 P), (229, o229 P), (231, o231 P), (232, o232 P), (233, o233 P), (235, o235 P), (236, o236 P), (238, o238 P), (239, o239 P), (240, o240 P), (242, o242 P), (243, o243 P), (245, o245 P), (246, o246 P), (247, o247 P), (249, o249 P), (250, o250 P), (252, o252 P), (253, o253 P), (254, o254 P), (256, o256 P), (257, o257 P), (259, o259 P), (260, o260 P), (261, o261 P), (264, o264 P), (265, o265 P), (266, o266 P), (268, o268 P), (269, o269 P), (271, o271 P), (272, o272 P), (273, o273 P), (275, o275 P), (276, o276 P), (278, o278 P), (279, o279 P), (280, o280 P), (282, o282 P), (283, o283 P), (285, o285 P), (286, o286 P), (287, o287 P), (290, o290 P), (291, o291 P), (292, o292 P), (294, o294 P), (295, o295 P), (297, o297 P), (298, o298 P), (299, o299 P), (302, o302 P), (303, o303 P), (304, o304 P), (306, o306 P), (307, o307 P), (309, o309 P), (310, o310 P), (311, o311 P), (313, o313 P), (314, o314 P), (316, o316 P), (317, o317 P), (318, o318 P), (320, o320 P), (321, o321 P), (323, o323 P), (324, o324 P), (325, o325 P), (327, o327 P), (328, o328 P), (330, o330 P), (331, o331 P), (332, o332 P), (334, o334 P), (335, o335 P), (337, o337 P), (338, o338 P), (339, o339 P), (342, o342 P), (343, o343 P), (344, o344 P), (347, o347 P), (348, o348 P), (349, o349 P), (351, o351 P), (352, o352 P), (354, o354 P), (355, o355 P), (356, o356 P), (358, o358 P), (359, o359 P), (361, o361 P), (362, o362 P), (363, o363 P), (365, o365 P), (366, o366 P), (368, o368 P), (369, o369 P), (370, o370 P), (372, o372 P), (373, o373 P), (375, o375 P), (376, o376 P), (377, o377 P), (379, o379 P), (380, o380 P), (382, o382 P), (383, o383 P), (384, o384 P), (386, o386 P), (387, o387 P), (389, o389 P), (390, o390 P), (391, o391 P), (393, o393 P), (394, o394 P), (396, o396 P), (397, o397 P), (398, o398 P), (400, o400 P), (401, o401 P), (403, o403 P), (404, o404 P), (412, o412 P), (414, o414 P), (415, o415 P), (417, o417 P), (418, o418 P), (419, o419 P), (422, o422 P), (423, o423 P), (424, o424 P), (425, o425 P), (426, o426 P), (427, o427 P), (429, o429 P), (430, o430 P), (432, o432 P), (433, o433 P), (434, o434 P), (435, o435 P), (437, o437 P), (438, o438 P), (440, o440 P), (441, o441 P), (442, o442 P), (443, o443 P), (445, o445 P), (446, o446 P), (448, o448 P), (449, o449 P), (450, o450 P), (451, o451 P), (453, o453 P), (454, o454 P), (456, o456 P), (457, o457 P), (458, o458 P), (459, o459 P), (461, o461 P), (462, o462 P), (464, o464 P), (465, o465 P), (466, o466 P), (468, o468 P), (469, o469 P), (471, o471 P), (472, o472 P), (473, o473 P), (475, o475 P), (476, o476 P), (478, o478 P), (479, o479 P), (480, o480 P), (481, o481 P), (482, o482 P), (483, o483 P), (484, o484 P), (487, o487 P), (489, o489 P), (490, o490 P), (492, o492 P), (493, o493 P), (494, o494 P), (496, o496 P), (497, o497 P), (499, o499 P), (500, o500 P), (501, o501 P), (503, o503 P), (504, o504 P), (506, o506 P), (507, o507 P), (508, o508 P), (510, o510 P), (511, o511 P), (513, o513 P), (514, o514 P), (515, o515 P), (517, o517 P), (518, o518 P), (520, o520 P), (521, o521 P), (522, o522 P), (524, o524 P), (525, o525 P), (527, o527 P), (528, o528 P), (529, o529 P), (532, o532 P), (533, o533 P), (534, o534 P), (536, o536 P), (537, o537 P), (539, o539 P), (540, o540 P), (541, o541 P), (544, o544 P), (545, o545 P), (546, o546 P), (548, o548 P), (549, o549 P), (551, o551 P), (552, o552 P), (553, o553 P), (555, o555 P), (556, o556 P), (558, o558 P), (559, o559 P), (560, o560 P), (562, o562 P), (563, o563 P), (565, o565 P), (566, o566 P), (567, o567 P), (569, o569 P), (570, o570 P), (572, o572 P), (573, o573 P), (574, o574 P), (577, o577 P), (578, o578 P), (579, o579 P), (582, o582 P), (583, o583 P)]
noncomputable def as : List Addr := [2, 3, 43, 50, 51, 52, 53, 56, 63, 65, 66, 68, 69, 70, 71, 72, 75, 82, 84, 85, 87, 88, 89, 90, 91, 94, 101, 103, 104, 106, 107, 108, 109, 110, 113, 120, 122, 123, 125, 126, 127, 128, 129, 132, 139, 140, 141, 142, 145, 152, 154, 155, 157, 158, 159, 160, 161, 164, 171, 173, 174, 176, 177, 178, 179, 180, 183, 185, 186, 188, 189, 190, 192, 193, 195, 196, 197, 200, 201, 202, 205, 206, 207, 210, 211, 212, 214, 215, 217, 218, 219, 221, 222, 224, 225, 226, 228, 229, 231, 232, 233, 235, 236, 238, 239, 240, 242, 243, 245, 246, 247, 249, 250, 252, 253, 254, 256, 257, 259, 260, 261, 264, 265, 266, 268, 269, 271, 272, 273, 275, 276, 278, 279, 280, 282, 283, 285, 286, 287, 290, 291, 292, 294, 295, 297, 298, 299, 302, 303, 304, 306, 307, 309, 310, 311, 313, 314, 316, 317, 318, 320, 321, 323, 324, 325, 327, 328, 330, 331, 332, 334, 335, 337, 338, 339, 342, 343, 344, 347, 348, 349, 351, 352, 354, 355, 356, 358, 359, 361, 362, 363, 365, 366, 368, 369, 370, 372, 373, 375, 376, 377, 379, 380, 382, 383, 384, 386, 387, 389, 390, 391, 393, 394, 396, 397, 398, 400, 401, 403, 404, 412, 414, 415, 417, 418, 419, 422, 423, 424, 425, 426, 427, 429, 430, 432, 433, 434, 435, 437, 438, 440, 441, 442, 443, 445, 446, 448, 449, 450, 451, 453, 454, 456, 457, 458, 459, 461, 462, 464, 465, 466, 468, 469, 471, 472, 473, 475, 476, 478, 479, 480, 481, 482, 483, 484, 487, 489, 490, 492, 493, 494, 496, 497, 499, 500, 501, 503, 504, 506, 507, 508, 510, 511, 513, 514, 515, 517, 518, 520, 521, 522, 524, 525, 527, 528, 529, 532, 533, 534, 536, 537, 539, 540, 541, 544, 545, 546, 548, 549, 551, 552, 553, 555, 556, 558, 559, 560, 562, 563, 565, 566, 567, 569, 570, 572, 573, 574, 577, 578, 579, 582, 583]

/-! ### the run -/
noncomputable def q : Program := view T ([0, 2, 3, 4, 5, 6, 7, 8, 9, 11, 12, 13, 14, 15, 16, 17, 18, 19, 21, 22, 23, 24, 25, 26, 27, 28, 29, 30, 32, 33, 34, 35, 36, 37, 39, 40, 41, 42, 43, 44] ++ [45, 46, 47, 48, 49, 50, 52, 53, 54, 55, 56, 57, 58, 59, 60, 61, 62, 64, 65, 66, 67, 68])
noncomputable def loose : List PySem.Str := [s "Shape"]
theorem ek : ∀ P, as = (K P).map (·.1) := fun _ => by kernel_rfl
noncomputable abbrev hk : Hook := kHook K as ek
noncomputable def ob (s : SharedT) : hk.α := as.map (HeadRun.getT s)
theorem ob_eq (s : SharedT) : ob s = hk.obs s.abs := List.map_congr_left fun a _ => HeadRun.getT_eq s a
noncomputable def ann : Option Value := (some (.ref 6))
noncomputable def B : List Stmt := behindTheImports T
noncomputable def E : Env := { scope := T.main.scope, locals := mainNs, globals := mainNs, cells := [], code := (.ref 41), frame := some 42 }
noncomputable abbrev C : Code := .body B E
noncomputable abbrev F : List Frame := [topFrame ⟨0, 0, 0, 0⟩]
noncomputable def os0 : OsState := (start (opening T)).1.os
noncomputable abbrev Xt (s : Shared) : Bool := xlAt q [] s && recOk R.toRowW.records s
theorem e_imp (w : World) : HeadRun.impF (stQ (opening T) w) 1121 (HeadRun.startT (opening T)) (start (opening T)).2 = some (Xi w os0) := by kernel_rfl
theorem a_i (w : World) (os : OsState) : (Xi w os).abs = Yi w os := by kernel_rfl
theorem a_0 (w : World) (os : OsState) : (X0 w os).abs = Y0 w os := by kernel_rfl
theorem e_fence (w : World) : HeadRun.fenceQ T (Yi w os0) = some (Y0 w os0) := by kernel_rfl
theorem e_ns (w : World) (os : OsState) : ((Y0 w os).heap.isNs mainGlobals && (Y0 w os).gens.size == 0) = true := by kernel_rfl
theorem e_ann (w : World) (os : OsState) : (Y0 w os).heap.nsMap mainGlobals "__annotations__" = ann := by kernel_rfl
theorem e_pre (w : World) (os : OsState) : goK (stQ T w) (okQ 39 ann) 12 (X0 w os) (topStub T) = some (Xa w os, ⟨HeadRun.denQ HeadRun.tabQ C, C, ⟨0, 0, 0, 0⟩, F⟩) := by kernel_rfl
theorem e_block (w : World) (os : OsState) : segF (stQ T w) (okQ 39 ann) 1 (Xa w os) ⟨(blockQ B E).wrap (fun _ => doneF .next) deadEnd id id, C, ⟨0, 0, 0, 0⟩, F⟩ = some (.next, Xb w os, C, ⟨0, 0, 0, 0⟩) := by kernel_rfl
noncomputable def L1 : List Stmt := [hT 1, hT 2, hT 3, hT 4, hT 5]
noncomputable abbrev S1 (w : World) (os : OsState) : Prop := segF (stQ T w) (okQ 39 ann) 931 (Xb w os) ⟨(execsQ L1 E).wrap doneF deadEnd id id, C, ⟨0, 0, 0, 0⟩, F⟩ = some (.next, X1 w os, C, ⟨15, 0, 19, 26⟩)
theorem e1 (w : World) (os : OsState) : S1 w os := by kernel_rfl
noncomputable def L2 : List Stmt := [hT 6, hT 7, hT 8, hT 9, hT 10, hT 11, hT 12]
noncomputable abbrev S2 (w : World) (os : OsState) : Prop := segF (stQ T w) (okQ 39 ann) 1000 (X1 w os) ⟨(execsQ L2 E).wrap doneF deadEnd id id, C, ⟨15, 0, 19, 26⟩, F⟩ = some (.next, X2 w os, C, ⟨42, 0, 46, 17⟩)
theorem e2 (w : World) (os : OsState) : S2 w os := by kernel_rfl
noncomputable def L3 : List Stmt := [hT 13, hT 14, hT 15, hT 16, hT 17, hT 18, hT 19, hT 20, hT 21, hT 22, hT 23, hT 24, hT 25, hT 26, hT 27, hT 28, hT 29, hT 30, hT 31, hT 32, hT 33, hT 34, hT 35, hT 36, hT 37, hT 38, hT 39, hT 40, hT 41, hT 42, hT 43, hT 44, hT 45, hT 46, hT 47, hT 48, hT 49]
noncomputable abbrev S3 (w : World) (os : OsState) : Prop := segF (stQ T w) (okQ 39 ann) 1001 (X2 w os) ⟨(execsQ L3 E).wrap doneF deadEnd id id, C, ⟨42, 0, 46, 17⟩, F⟩ = some (.next, X3 w os, C, ⟨214, 0, 225, 32⟩)
theorem e3 (w : World) (os : OsState) : S3 w os := by kernel_rfl
noncomputable def L4 : List Stmt := [hT 50, hT 51, hT 52, hT 53, hT 54, hT 55]
noncomputable abbrev S4 (w : World) (os : OsState) : Prop := segF (stQ T w) (okQ 39 ann) 982 (X3 w os) ⟨(execsQ L4 E).wrap doneF deadEnd id id, C, ⟨214, 0, 225, 32⟩, F⟩ = some (.next, X4 w os, C, ⟨299, 0, 301, 30⟩)
theorem e4 (w : World) (os : OsState) : S4 w os := by kernel_rfl
noncomputable def L5 : List Stmt := [hT 56, hT 57, hT 58, hT 59, hT 60, hT 61, hT 62, hT 63, hT 64, hT 65, hT 66, hT 67, hT 68]
noncomputable abbrev S5 (w : World) (os : OsState) : Prop := segF (stQ T w) (okQ 39 ann) 365 (X4 w os) ⟨(execsQ L5 E).wrap doneF deadEnd id id, C, ⟨299, 0, 301, 30⟩, F⟩ = some (.next, X5 w os, C, ⟨389, 0, 390, 87⟩)
theorem e5 (w : World) (os : OsState) : S5 w os := by kernel_rfl
theorem e_fin (w : World) (os : OsState) : HeadRun.goF (stQ T w) 39 ann 2 (X5 w os) ⟨doneF .next, C, ⟨389, 0, 390, 87⟩, F⟩ = some (Xf w os) := by kernel_rfl
theorem e_body : B = (L1 ++ (L2 ++ (L3 ++ (L4 ++ (L5 ++ []))))) := by kernel_rfl
theorem a_f (w : World) (os : OsState) : (Xf w os).abs = Yf w os := by kernel_rfl
theorem l_stat (w : World) (os : OsState) : staticsQ (importedModules T.main.body) (Y0 w os).heap (Yf w os).heap = true := by kernel_rfl
theorem l_names (w : World) (os : OsState) : namesQ T (Yf w os).heap = true := by kernel_rfl
theorem l_gens (w : World) (os : OsState) : gensDone (Yf w os) = true := by kernel_rfl
theorem l_laid (w : World) (os : OsState) : laidQ (Y0 w os).heap (Yf w os).heap = true := by kernel_rfl
theorem c1 (w : World) (os : OsState) : seen ((recsOf q).map (·.name)) (ownsOf q) [] { (Yf w os) with gens := #[] } = expectedOf q := by
  rw [PySem.W.Fast.te5160383126252970620, PySem.W.Fast.te3399658132070893891, PySem.W.Fast.te5991557255702980513, PySem.W.Fast.te17202137643295693207]
  kernel_rfl
theorem c2 (w : World) (os : OsState) : (Yf w os).heap.bltView = bltViewBooted := by
  rw [PySem.W.Fast.te3886120067097387239]
  kernel_rfl
theorem c3 (w : World) (os : OsState) : (Yf w os).heap.keysOk (looseW q loose) ((recsOf q).map (·.name)) ((litsOf q).map (·.1)) ((clssOf q (looseW q loose)).map (·.name)) = true := by
  rw [PySem.W.Fast.te10880121769531294198, PySem.W.Fast.te821141287760084731, PySem.W.Fast.te3399658132070893891, PySem.W.Fast.te7409074990110511671, PySem.W.Fast.te13664370479719496447]
  kernel_rfl
theorem c4 (w : World) (os : OsState) : (Yf w os).heap.accountedOkI (importedModules T.main.body) = true := by
  rw [PySem.W.Fast.te14722251495701143533]
  kernel_rfl
theorem c5 (w : World) (os : OsState) : tablesOk q (Yf w os).heap = true := by
  rw [PySem.W.Fast.te10994771534591457954]
  kernel_rfl
theorem c6 (w : World) (os : OsState) : Xt (Yf w os) = true := by kernel_rfl
theorem c7 (w : World) (os : OsState) : tabsOk q (Yf w os) = true := by
  rw [PySem.W.Fast.te479339242167458305]
  kernel_rfl
theorem c8 (w : World) (os : OsState) : pinSeenD q (drecsOf q) (Yf w os) = pinGoodD (drecsOf q) := by
  rw [PySem.W.Fast.te16090120013241838585, PySem.W.Fast.te3247288618530077131, PySem.W.Fast.te15722437165473765228]
  kernel_rfl
theorem c9 (w : World) (os : OsState) : plainSeenE q (looseW q loose) (Yf w os) = plainGoodE q (looseW q loose) := by
  rw [PySem.W.Fast.te2386780881361962483, PySem.W.Fast.te821141287760084731, PySem.W.Fast.te11434641657110253636]
  kernel_rfl
theorem c10 (w : World) (os : OsState) : plainSeenD q loose (Yf w os) = plainGoodD q loose := by
  rw [PySem.W.Fast.te11698064438423848299, PySem.W.Fast.te6545441873122501937]
  kernel_rfl
theorem c11 (w : World) (os : OsState) : wideSeen q (Yf w os) = wideGood q := by
  rw [PySem.W.Fast.te7317090234206586261, PySem.W.Fast.te9017663842625078692]
  kernel_rfl
theorem c12 (w : World) (os : OsState) : clsSeenW q loose (Yf w os) = clsGoodW q loose := by
  rw [PySem.W.Fast.te7369524293546568484, PySem.W.Fast.te17432349009858465958]
  kernel_rfl
theorem c13 (w : World) (os : OsState) : ((Yf w os).heap.isNs mainGlobals && (Yf w os).heap.isNs builtinsNs) = true := by kernel_rfl
theorem l_seen (w : World) (os : OsState) : openSeen q loose (importedModules T.main.body) Xt true (Yf w os) = openGood q loose := seen_ok (c1 w os) (c2 w os) (c3 w os) (c4 w os) (c5 w os) (c6 w os) (c7 w os) (c8 w os) (c9 w os) (c10 w os) (c11 w os) (c12 w os) (c13 w os) rfl
theorem l_ob (w : World) (os : OsState) : ob (Xf w os) = hk.val w := by kernel_rfl
theorem r_fin (w : World) (os : OsState) : topRun treeTable T w 39 ann 2 (X5 w os).abs (restOf [] E C ⟨389, 0, 390, 87⟩ F) = some (Xf w os).abs := fin_ok (e_fin w os)
theorem r5 (w : World) (os : OsState) : topRun treeTable T w 39 ann (365 + 2) (X4 w os).abs (restOf (L5 ++ []) E C ⟨299, 0, 301, 30⟩ F) = some (Xf w os).abs := some_ok (rest := []) (e5 w os) (r_fin w os)
theorem r4 (w : World) (os : OsState) : topRun treeTable T w 39 ann (982 + 367) (X3 w os).abs (restOf (L4 ++ (L5 ++ [])) E C ⟨214, 0, 225, 32⟩ F) = some (Xf w os).abs := some_ok (rest := (L5 ++ [])) (e4 w os) (r5 w os)
theorem r3 (w : World) (os : OsState) : topRun treeTable T w 39 ann (1001 + 1349) (X2 w os).abs (restOf (L3 ++ (L4 ++ (L5 ++ []))) E C ⟨42, 0, 46, 17⟩ F) = some (Xf w os).abs := some_ok (rest := (L4 ++ (L5 ++ []))) (e3 w os) (r4 w os)
theorem r2 (w : World) (os : OsState) : topRun treeTable T w 39 ann (1000 + 2350) (X1 w os).abs (restOf (L2 ++ (L3 ++ (L4 ++ (L5 ++ [])))) E C ⟨15, 0, 19, 26⟩ F) = some (Xf w os).abs := some_ok (rest := (L3 ++ (L4 ++ (L5 ++ [])))) (e2 w os) (r3 w os)
theorem r1 (w : World) (os : OsState) : topRun treeTable T w 39 ann (931 + 3350) (Xb w os).abs (restOf (L1 ++ (L2 ++ (L3 ++ (L4 ++ (L5 ++ []))))) E C ⟨0, 0, 0, 0⟩ F) = some (Xf w os).abs := some_ok (rest := (L2 ++ (L3 ++ (L4 ++ (L5 ++ []))))) (e1 w os) (r2 w os)
theorem r_block (w : World) (os : OsState) : topRun treeTable T w 39 ann (1 + 4281) (Xa w os).abs ⟨denote treeTable (.body B E), C, ⟨0, 0, 0, 0⟩, F⟩ = some (Xf w os).abs := block_ok (e_block w os) (by rw [show restOf B E C ⟨0, 0, 0, 0⟩ F = restOf (L1 ++ (L2 ++ (L3 ++ (L4 ++ (L5 ++ []))))) E C ⟨0, 0, 0, 0⟩ F from congrArg (fun b => restOf b E C ⟨0, 0, 0, 0⟩ F) e_body]; exact r1 w os)
theorem r_all (w : World) (os : OsState) : topRun treeTable T w 39 ann (12 + 4282) (X0 w os).abs (topStub T) = some (Xf w os).abs := pre_ok (e_pre w os) (r_block w os)
theorem left_T : LeftO T q loose Xt hk.obs hk.val 9374 true := left_cut fun w => ⟨X0 w os0, Y0 w os0, Yf w os0, ann, open_ok (imp_mono 8253 _ _ _ _ (e_imp w)) (a_i w os0) (e_fence w) (a_0 w os0), a_0 w os0, e_ns w os0, e_ann w os0,
  (topRun_mono 5080 _ _ _ _ (r_all w os0)).trans (congrArg some (a_f w os0)), l_stat w os0, l_names w os0, l_gens w os0, l_laid w os0, l_seen w os0, by rw [← a_f w os0]; exact (ob_eq _).symm.trans (l_ob w os0)⟩
theorem left : LeftO R.prog q loose Xt hk.obs hk.val 9374 true := by
  rw [pT]
  exact left_T
noncomputable abbrev d : DefRec := HeadRun.topDef R.prog 68
theorem hd (said : R.wellSaid = true) (hw : R.toRowW.promised) (hc : WalkO q loose (XL q []) hk.says R.toRowW d [] (fun f vs => PySem.call f vs)) : R.Holds :=
  holds_open (r := R) (q := q) (loose := loose) (XP := XL q []) (YP := hk.says) (d := d) (kwd := []) left hk.of hk.keeps (fun s z => xl_of s (Bool.and_eq_true_iff.mp z).1) XL.keeps (by kernel_rfl) (by kernel_rfl) (by rfl) (fun s z => recFacts_of (Bool.and_eq_true_iff.mp z).2) (by rfl) said (by decide +kernel) ⟨rfl, rfl, rfl, rfl, rfl, by decide +kernel⟩ hw hc
end Hd

/-! repr of data; lists whose place is told; defs run where no repr is under way. -/
namespace Xk
open PySem PySem.Spec PyProof.Rows L2
section
variable {X : Cx} {pins : List (Addr × Obj)} {σ : L2.St} {H : Hp} {s : Shared} {es : List Expr} {t : TA} {pos : Pos}
theorem past1 (I : Inv X pins σ H s) : ∀ p, s.heap.objs.size ≤ p → p ≠ sysModules := fun p hp e => by
  have h1 : mainGlobals < X.base.objs.size := I.ok.mod.glob.lt
  have h2 := I.ok.bsz
  have h3 := I.sz
  have e1 : p = (1 : Nat) := e
  have h4 : (3 : Nat) < X.base.objs.size := h1
  omega
/-- [e, ..], its place -/
def tLstN (t : TA) : TE := fun σ H Q => t σ H fun xs H1 => xs.length ≤ sizeLine ∧ ∀ p, H1 p = none → p ≠ sysModules → Q (.ref p) (upd H1 p (.lst xs))
theorem pe_lstN (h : PA X es t) : PE X (.List es pos) (tLstN t) := by
  refine ⟨fun pins s σ H Q I hq => ?_⟩
  refine wpAny_List_spliced (thn (h.run pos pins s σ H _ I hq) fun us s1 hh => ?_)
  obtain ⟨xs, H1, I1, r, z, q⟩ := hh
  refine ⟨by rw [← r.length]; exact z, ?_⟩
  have hf : H1 s1.heap.objs.size = none := I1.hok.fresh (Nat.le_refl _)
  refine ⟨.ref s1.heap.objs.size, upd H1 s1.heap.objs.size (.lst xs),
    I1.laid (t' := s1.toks) (fun b u e => Heap.get?_push_of_some _ e) (Nat.le_refl _) ?_, rfl, q _ hf (past1 I1 _ (Nat.le_refl _))⟩
  exact ⟨z, us, 0, r, Heap.get?_push_size _ rfl⟩
/-- xs * k, its place -/
def rRepN : R2 := fun x y H Q => ∃ l k xs, x = .ref l ∧ y = .int k ∧ H l = some (.lst xs) ∧ -(2 ^ 63) ≤ k ∧ k < 2 ^ 63 ∧ xs.length * k.toNat ≤ sizeLine ∧
  ∀ p, H p = none → p ≠ sysModules → Q (.ref p) (upd H p (.lst (List.replicate k.toNat xs).flatten))
theorem op_repN : OpR X (binaryOp .Mult) rRepN := by
  intro pins s σ H x y v u Q I rx ry h
  obtain ⟨l, k, xs, rfl, rfl, hH, h1, h2, hz, q⟩ := h
  cases rx
  obtain ⟨t, rfl⟩ := ry
  obtain ⟨z, its, n, r, hl, e⟩ := I.lstM hH
  have a1 : its.toArray.size * k.toNat ≤ sizeLine := by
    rw [List.size_toArray, ← hl]
    exact hz
  have a2 : ¬ its.toArray.size * k.toNat > (2 ^ 63 - 1) / 8 := by
    have h8 : (sizeLine : Nat) ≤ (2 ^ 63 - 1) / 8 := by decide
    omega
  have a3 : ¬ (!Builtin.List.listFitsIndex k) = true := by
    rw [fitsIndex_both h1 h2]; exact Bool.false_ne_true
  have a4 : ¬ Builtin.List.listTooLong (its.toArray.size * k.toNat) = true := by
    rw [notLongL a1]; exact Bool.false_ne_true
  have a5 : List.foldl (fun x1 x2 => x1 ++ x2) #[] (List.replicate (if its.toArray.isEmpty = true then 0 else k.toNat) its.toArray) =
      (List.replicate k.toNat its).flatten.toArray := by
    have f0 : ∀ m : Nat, List.foldl (fun x1 x2 => x1 ++ x2) #[] (List.replicate m its.toArray) = (List.replicate m its).flatten.toArray := fun m => by
      have := foldl_rep its m []
      rw [List.nil_append] at this; exact this
    rw [f0]
    cases its with
    | nil => simp
    | cons a r' => rw [if_neg (by simp)]
  refine wpAny_binaryOp_repeat_ref (T := "list") (U := "int") (by decide) ⟨_, e, rfl⟩ (fun s' => typeIs_int s' k t) noFill_list_mul F.fills_int_mul
    F.slot_int_rmul repeat_list F.slot_int_index.lookup
    (call_meets F.slot_int_rmul (typeIs_int s k t) F.entry_int_rmul (F.args_int_rmul_2 _ _) (int___rmul___int_list k t l its.toArray n)
      ⟨e, rfl, ⟨_, e, rfl⟩, call_meets F.slot_list_mul ⟨_, e, rfl⟩ F.entry_list_mul (F.args_list_mul_2 _ _)
        (AutoListH.list___mul___list_int_3 l its.toArray n k t a3 a2 a4) ⟨e, ?_⟩⟩)
  rw [a5]
  exact ⟨.ref _, _, I.lnew (t' := s.toks) (r.rep k.toNat) (by rw [PyProof.Rows.lm_len_rep_flat, Nat.mul_comm]; exact hz), rfl,
    q _ I.fresh (past1 I _ (Nat.le_refl _))⟩
end

/-! ### data -/
mutual
inductive Sh (H : Hp) : V → PyData → Prop
  | non : Sh H .non .none
  | bl (b : Bool) : Sh H (.bl b) (.bool b)
  | int (i : Int) : Sh H (.int i) (.int i)
  | str (x : Str) : Sh H (.str x) (.str x)
  | lst {a : Addr} {xs : List V} {ds : List PyData} : H a = some (.lst xs) → a ≠ sysModules → ShA H xs ds → Sh H (.ref a) (.list ds)
  | tup {a : Addr} {xs : List V} {ds : List PyData} : H a = some (.tup xs) → ShA H xs ds → Sh H (.ref a) (.tuple ds)
  | dct {a : Addr} {kvs : List (Int × Int)} : H a = some (.dK (kvs.map fun p => (Sum.inl p.1, V.int p.2))) →
      Sh H (.ref a) (.dict (kvs.map fun p => (PyData.int p.1, PyData.int p.2)))
inductive ShA (H : Hp) : List V → List PyData → Prop
  | nil : ShA H [] []
  | cons {v : V} {vs : List V} {d : PyData} {ds : List PyData} : Sh H v d → ShA H vs ds → ShA H (v :: vs) (d :: ds)
end
section
variable {H H' : Hp}
mutual
theorem Sh.same (k : Same H H') : ∀ (d : PyData) (v : V), Sh H v d → Sh H' v d
  | .none, _, h => by cases h; exact .non
  | .bool b, _, h => by cases h; exact .bl b
  | .int i, _, h => by cases h; exact .int i
  | .str x, _, h => by cases h; exact .str x
  | .list ds, _, h => by
    cases h with
    | lst e n a => exact .lst (k _ _ e) n (ShA.same k ds _ a)
  | .tuple ds, _, h => by
    cases h with
    | tup e a => exact .tup (k _ _ e) (ShA.same k ds _ a)
  | .dict _, _, h => by
    cases h with
    | dct e => exact .dct (k _ _ e)
theorem ShA.same (k : Same H H') : ∀ (ds : List PyData) (vs : List V), ShA H vs ds → ShA H' vs ds
  | [], _, h => by cases h; exact .nil
  | d :: ds, _, h => by
    cases h with
    | cons a b => exact .cons (Sh.same k d _ a) (ShA.same k ds _ b)
end
end
section
variable {X : Cx} {pins : List (Addr × Obj)} {σ : L2.St} {H : Hp} {s : Shared}
theorem ints_reads {h : Heap} : ∀ (l : List Int) (us : List Value), Vals (l.map V.int) us → ReadsAll h us (l.map PyData.int) []
  | [], _, r => by cases r; exact .nil
  | i :: l, _, r => by
    cases r with
    | cons r1 r2 =>
      obtain ⟨t, rfl⟩ := r1
      exact ReadsAll.cons (Reads.int i t) (ints_reads l _ r2)
theorem kv_reads {P : Program} {w : World} {h : Heap} : ∀ (kvs : List (Int × Int)) (es : List DictEntry) (vs : List (Key × Value)),
    KV (kvs.map fun p => ((Sum.inl p.1 : Key), V.int p.2)) vs → PySem.Pairs (mixKind P w) es vs →
    ReadsAll h (es.map (·.key)) (kvs.map fun p => PyData.int p.1) [] ∧ ReadsAll h (es.map (·.val)) (kvs.map fun p => PyData.int p.2) []
  | [], _, _, r, q => by
    cases r; cases q
    exact ⟨.nil, .nil⟩
  | (i, j) :: l, _, _, r, q => by
    cases r with
    | cons r1 r2 =>
      cases q with
      | cons q1 q2 q3 =>
        obtain ⟨h1, h2⟩ := kv_reads l _ _ r2 q3
        obtain ⟨e1, t, e2⟩ := r1
        rw [← e1] at q1
        obtain ⟨t2, e3⟩ := Value.isInt_shape (show Value.isInt i _ = true from q1)
        refine ⟨?_, ?_⟩
        · rw [List.map_cons, List.map_cons, e3]
          exact ReadsAll.cons (Reads.int i t2) h1
        · rw [List.map_cons, List.map_cons, q2, e2]
          exact ReadsAll.cons (Reads.int j t) h2
mutual
theorem Sh.reads (I : Inv X pins σ H s) : ∀ (d : PyData) (v : V) (u : Value), Sh H v d → RelV v u → ∃ as, Reads s.heap u d as ∧ sysModules ∉ as
  | .none, _, _, h, r => by
    cases h; cases r
    exact ⟨_, Reads.none, nofun⟩
  | .bool b, _, _, h, r => by
    cases h; cases r
    exact ⟨_, Reads.bool b, nofun⟩
  | .int i, _, _, h, r => by
    cases h
    obtain ⟨t, rfl⟩ := r
    exact ⟨_, Reads.int i t, nofun⟩
  | .str x, _, _, h, r => by
    cases h
    obtain ⟨t, rfl⟩ := r
    exact ⟨_, Reads.str x t, nofun⟩
  | .list ds, _, _, h, r => by
    cases h with
    | @lst a xs _ e n ha =>
      cases r
      obtain ⟨_, its, m, rv, ho⟩ := (show ObjOk X.prog X.w H s.heap a (.lst xs) from I.hok a _ e)
      obtain ⟨as, hr, hn⟩ := ShA.reads I ds _ its ha rv
      refine ⟨a :: as, Reads.list ho rfl rfl hr, fun hm => ?_⟩
      rcases List.mem_cons.mp hm with q | q
      · exact n q.symm
      · exact hn q
  | .tuple ds, _, _, h, r => by
    cases h with
    | @tup a xs _ e ha =>
      cases r
      obtain ⟨_, its, rv, o, ho, hc, n, hd⟩ := (show ObjOk X.prog X.w H s.heap a (.tup xs) from I.hok a _ e)
      obtain ⟨as, hr, hn⟩ := ShA.reads I ds _ its ha rv
      exact ⟨as, Reads.tuple ho hc hd hr, hn⟩
  | .dict _, _, _, h, r => by
    cases h with
    | @dct a kvs e =>
      cases r
      obtain ⟨_, hs, vs, rv, o, es, ep, ho, hc, hd, _, hpr, _⟩ := (show ObjOk X.prog X.w H s.heap a (.dK _) from I.hok a _ e)
      obtain ⟨h1, h2⟩ := kv_reads (h := s.heap) kvs _ _ rv hpr
      refine ⟨_, Reads.dict (as := []) (bs := []) ho hc.1 hd ?_ ?_, fun hm => ?_⟩
      · rw [List.map_map]; exact h1
      · rw [List.map_map]; exact h2
      · have q : sysModules = a := by simpa using hm
        rw [← q] at hs
        exact absurd hs (by decide)
theorem ShA.reads (I : Inv X pins σ H s) : ∀ (ds : List PyData) (vs : List V) (us : List Value), ShA H vs ds → Vals vs us → ∃ as, ReadsAll s.heap us ds as ∧ sysModules ∉ as
  | [], _, _, h, r => by
    cases h; cases r
    exact ⟨_, ReadsAll.nil, nofun⟩
  | d :: ds, _, _, h, r => by
    cases h with
    | cons h1 h2 =>
      cases r with
      | cons r1 r2 =>
        obtain ⟨as, q1, n1⟩ := Sh.reads I d _ _ h1 r1
        obtain ⟨bs, q2, n2⟩ := ShA.reads I ds _ _ h2 r2
        exact ⟨_, ReadsAll.cons q1 q2, fun hm => (List.mem_append.mp hm).elim n1 n2⟩
end
/-- repr(v), v an object -/
def rRepr : List V → Hp → VK → Prop := fun xs H Q => ∃ (a : Addr) (d : PyData), xs = [.ref a] ∧ Sh H (.ref a) d ∧ d.showable = true ∧ d.depth ≤ 20 ∧
  d.shown.length ≤ sizeLine ∧ Q (.str d.shown) H
theorem call_repr (hG : X.A.guards = some []) (hu : X.A.units + 21 < cLine) : CallR X (.builtin "repr") rRepr := by
  intro pins s σ H xs us Q I r h
  obtain ⟨a, d, rfl, hd, h1, h2, h3, q⟩ := h
  cases r with
  | cons rx rr =>
    cases rr
    obtain ⟨as, hr, hn⟩ := Sh.reads I d _ _ hd rx
    cases rx
    refine repr_of_reads' hr h1 (fun _ => hn) hG (by omega) (fun _ _ e => e) (fun h' u tk k => ?_) h3
    exact ⟨.str d.shown, H, I.kept k, ⟨u, rfl⟩, q⟩
end

/-! ### defs where no repr is under way -/
/-- the def at f keeps the promise sp wherever no guarded built-in runs -/
structure FnG (P : Program) (w : World) (K : PySem.W.Frag) (mg : Str → Option Value) (base : Heap) (k : Nat) (f : Addr) (fd : FuncData) (ps : List Str) (sp : Sp) : Prop where
  len : ∀ vs H Q E, sp vs H Q E → vs.length = ps.length
  run : ∀ (A : Around) (outer : List Env) (s : Shared) (H : Hp) (args : Args) (us : List Value) (vs : List V) (Q : VK) (E : XK), Room k A → A.guards = some [] →
    Env0 P w K mg base A outer s H → BindsTo s fd args (ps.zip us) → Vals vs us → sp vs H Q E → codeAny (model P w) A (.call (.ref f) args) (CR CX0 outer P w H s Q E) s
theorem fn_g {P : Program} {w : World} {K : PySem.W.Frag} {mg : Str → Option Value} {base : Heap} {k : Nat} {x qual : Str} {st : Stmt} {f : Addr} {fd : FuncData} {N ps : List Str} {sp : Sp}
    (F : Fun K x qual st f fd) (S : FnScope N ps (defScope st)) (len : ∀ vs H Q E, sp vs H Q E → vs.length = ps.length)
    (hbody : ∀ (cdv : Value) (A : Around) (outer : List Env) (s : Shared) (H : Hp) (vs : List V) (Q : VK) (E : XK),
      Room k (A.deeper (envOfC qual (defScope st) s.heap.objs.size f cdv)) → A.guards = some [] → sp vs H Q E →
      ∃ t, PSs (cxOf CX0 P w K mg base N qual (defScope st) f cdv A outer s H E).nox (defBody st) t ∧ t { nx := fun _ H' => Q .non H', rt := Q } (start N vs) H) :
    FnG P w K mg base (k + 1) f fd ps sp := by
  obtain ⟨oc, od, kV, doc, pm, an, cdv, ct, osl, rfl, lk, hcd⟩ := F.ex
  refine ⟨len, fun A outer s H args us vs Q E hr hG e0 hb r hsp => ?_⟩
  have hl := len _ _ _ _ hsp
  have KX : K.In s.heap := e0.mod.kin.keeps fun b o e => (e0.bs b o e).1
  have lim : s.heap.NoLimit := e0.mod.nolimit.keeps fun b o e => (e0.bs b o e).1
  have hkind : ∀ y ∈ ps.zip us, (defScope st).names.lookup y.1 = some .local ∨
      ((defScope st).names.lookup y.1 = some .cell ∧ ((cellsFrom (s.heap.objs.size + 1) (defScope st).names []).lookup y.1).isSome = true) := fun ⟨n, v⟩ hy => by
    rcases S.par n (List.of_mem_zip hy).1 with q | q
    · exact .inl q
    · exact .inr ⟨q, PySem.W.cellsFrom_some _ _ _ (.inl q)⟩
  refine codeAny_call_function hr.depth (KX _ _ lk) rfl S.co S.gen rfl (PySem.W.codeRec_of KX hcd) (hb _ _ _ _ ?_)
  refine wpAny_newFunctionEnv_cells S.kind hkind fun env he s1 x => ?_
  subst he
  refine ⟨lim.keeps x.toInCall.keep, codeAny_func ?_⟩
  obtain ⟨t, ht, hq⟩ := hbody cdv A outer s H vs Q E (hr.deeper _) hG hsp
  have I : Inv (cxOf CX0 P w K mg base N qual (defScope st) f cdv A outer s H E) [] (start N vs) H s1 := inv_start S hr.hd e0 hl r x
  refine wpAny_mono (ht.nox.run [] s1 (start N vs) H _ I hq) (fun fl s' hs => ?_) fun e s' hs => hs
  have fin : ∀ {σ' : L2.St} {H' : Hp} {v : V} {u : Value}, Inv (cxOf CX0 P w K mg base N qual (defScope st) f cdv A outer s H E) [] σ' H' s' → RelV v u → Q v H' → CE outer P w H s Q u s' :=
    fun {σ' H' v u} J rv q => ⟨v, H', J.os, J.bare, J.base, J.hok, rv, q⟩
  cases fl with
  | ret u =>
    obtain ⟨v, σ', H', J, rv, q⟩ := hs
    exact fin J rv q
  | next =>
    obtain ⟨σ', H', J, q⟩ := hs
    exact fin (v := V.non) (u := Value.none) J rfl q
  | brk =>
    obtain ⟨_, _, _, q⟩ := hs
    exact False.elim q
  | cont =>
    obtain ⟨_, _, _, q⟩ := hs
    exact False.elim q
section
variable {X : Cx} {k : Nat} {f : Addr} {fd : FuncData} {ps : List Str} {sp : Sp} {x : Str} {p pos : Pos} {e : Expr} {es : List Expr} {t : TA}
theorem pe_callg (F : FnG X.prog X.w X.K X.mg X.base k f fd ps sp) (hr : Room k X.A) (hG : X.A.guards = some []) (hg : Gl X x) (hm : X.mg x = some (.ref f)) (hk : PySem.W.keepIn X.K (.ref f) = true)
    (hb : Binds X.K fd ps []) (ha : PA X (e :: es) t) (hdb : (x == ("__debug__" : Str)) = false := by decide)
    (he : starEach (e :: es) X.env = (false, eval e X.env) :: starEach es X.env := by rfl) (hpl : (backTo pos (starEach es X.env)).any (·.1) = false := by rfl) :
    PE X (.Call (.Name x p) (e :: es) [] pos) (tCall sp [] E0 t) := by
  refine ⟨fun pins s σ H Q I h => ?_⟩
  refine wpAny_Call_Name_kw (ld_glob I hg hm ?_ hdb)
  refine PySem.W.callWith_K (h₀ := X.base) I.ok.mod.kin hk (thn (ha.run pos pins s σ H _ I h) fun us s1 ⟨vs, H1, I1, r, q⟩ => ⟨I1.kIn, ?_⟩) he hpl
  have q0 : sp (vs ++ []) H1 Q E0 := q
  rw [List.append_nil] at q0
  have hl : us.length = ps.length := by
    rw [← r.length]; exact F.len _ _ _ _ q0
  refine wpAny_call (codeAny_mono (F.run X.A X.stack s1 H1 ⟨us, []⟩ us vs Q E0 hr hG I1.env0 ?_ r q0) fun r s' hq => ?_)
  · have z := hb s1 us I1.kIn (by rw [List.append_nil]; exact hl)
    rw [List.append_nil] at z
    exact z
  · cases r with
    | error e => exact hq.elim
    | ok fl =>
      cases fl with
      | ret u => exact I1.after hq
      | next => exact False.elim hq
      | brk => exact False.elim hq
      | cont => exact False.elim hq
end
end Xk

/-! Rules of its own: // of any sign, a bool less a bool, a list's item read ahead of +=, enumerate of a tuple, a tuple backwards; loops over few items, turn by turn. -/
namespace Xq
open PySem PySem.Spec PyProof.Rows L2
section
variable {X : Cx}
def CDivX (_ j : Int) : Prop := j ≠ 0 ∧ j.natAbs.log2 < 9000
theorem op_fdivX : OpR X (binaryOp .FloorDiv) (rI CDivX fun i j => .int (i.fdiv j)) := opI fun i j _ _ _ _ _ hc q => floordiv_int hc.1 q (.inl (PyProof.noPylong_of_log2 hc.2))
/-- o[i], a list, by values -/
theorem get_list : PGet X (rIxL X.K) := by
  intro pins s σ H x y v u Q I rx ry h
  obtain ⟨p, xs, i, z, rfl, rfl, hq, he, q⟩ := h
  cases rx
  obtain ⟨t, rfl⟩ := ry
  obtain ⟨its, r, pl, hz⟩ := I.list hq
  obtain ⟨j, h1, h2, h3, h4, h5⟩ := atI_get he
  obtain ⟨w, ew, rw'⟩ := r.get h2
  have hl := r.length
  have hn := line63
  have fin : EP X pins σ Q w s := ⟨z, H, I, rw', q⟩
  by_cases h0 : 0 ≤ i
  · have hj : i.toNat = j := by
      rw [seqIndex_of h0 h5] at h1
      exact Option.some.inj h1
    exact wpAny_getItem_list pl.isList h0 (by omega) (by rw [hj]; simpa using ew) fin
  · have hj : (i + (its.toArray.size : Int)).toNat = j := by
      rw [seqIndex_neg (by omega) h4] at h1
      rw [List.size_toArray, ← hl]
      exact Option.some.inj h1
    exact wpAny_getItem_list_neg pl.isList (by omega) (by rw [List.size_toArray] <;> omega) (by omega) (by rw [hj]; simpa using ew) fin
/-- a bool less a bool -/
def rSubB : R2 := fun x y H Q => ∃ a b : Bool, x = .bl a ∧ y = .bl b ∧ Q (.int (b2i a - b2i b)) H
theorem op_subB : OpR X (binaryOp .Sub) rSubB := by
  intro pins s σ H x y v u Q I rx ry h
  obtain ⟨a, b, rfl, rfl, q⟩ := h
  cases rx
  cases ry
  exact sub_bool ⟨.int _, H, I.tok _, ⟨_, rfl⟩, q⟩
end

/-! ### enumerate(tuple) -/
theorem draws_tup {prog : Program} {w : World} {A : Around} (hh : A.handled = none) (it l : Addr) (hne : l ≠ it) (items : Array Value) :
    Draws prog w A it [it, l] items.size (fun i v => items[i]? = some v) (fun i h => h.IsTupleIter it l i ∧ h.IsTuple l items) where
  live := fun _ _ st => let ⟨o, ho, _⟩ := st.1; ⟨o, ho⟩
  frame := fun _ _ _ st hk => ⟨let ⟨o, ho, r⟩ := st.1; ⟨o, hk it (by simp) o ho, r⟩, let ⟨o, ho, r⟩ := st.2; ⟨o, hk l (by simp) o ho, r⟩⟩
  item := fun i s Q E hi st hQ => by
    refine RZ.nextOf_tuple_item st.1 st.2 (x := items[i]) (by simp [hi]) fun h' hit' hs' => ?_
    exact hQ _ h' s.toks (by simp [hi]) ⟨hit', st.2.extBut hs'.extBut hne⟩ hs'
  done := fun s Q E st hE => RZ.nextOf_tuple_end hh st.1 st.2 (by simp) hE
theorem meets_enumerate_newT (l : Addr) (items : Array Value) (n : Nat) (dct : Option Addr) (sl : Array (Option Value)) :
    Meets (Builtin.«enumerate.__new__» ⟨[.type "enumerate", .ref l], []⟩) (fun _ R s => s.heap.get? l = some { cls := .type "tuple", dict := dct, data := .seq items n, slots := sl } ∧
      R (.ok (.ret (.ref (s.heap.push { cls := .type "tuple_iterator", data := .fields #[.ref l, .int 0 0] }).objs.size)))
        { s with heap := (s.heap.push { cls := .type "tuple_iterator", data := .fields #[.ref l, .int 0 0] }).push { cls := .type "enumerate", data := .fields #[.none, .bool false, .ref s.heap.objs.size, rawInt 0, .none, .none] } }) :=
  .of_wp fun prog w A R s h => by
    obtain ⟨hp, g, d, tk, os⟩ := s; obtain ⟨hl, h⟩ := h
    have hsub := sub_enumerate
    have hL : Heap.IsTuple (Shared.heap ⟨hp, g, d, tk, os⟩) l items := ⟨_, hl, rfl, n, rfl⟩
    wp_walk using AutoSeq1.wpAny_loadPart' hl
    refine wpAny_stack_any fun st => wpAny_pure ?_
    split
    · rename_i c _ _ _ _ _
      cases (c == Value.type "enumerate")
      · wp_walk using AutoSeq1.wpAny_loadPart' hl, wpAny_pyIter_tuple hL
        exact ⟨_, rfl, h⟩
      · wp_walk using AutoSeq1.wpAny_loadPart' hl, wpAny_pyIter_tuple hL
        exact ⟨_, rfl, h⟩
    · wp_walk using AutoSeq1.wpAny_loadPart' hl, wpAny_pyIter_tuple hL
      exact ⟨_, rfl, h⟩
theorem call_enumerate_tuple {prog : Program} {w : World} {A : Around} {E : Value → Shared → Prop} {s : Shared} {l : Addr} {items : Array Value} {Q : Value → Shared → Prop} (hL : s.heap.IsTuple l items)
    (h : ∀ h', IsEnum h' (s.heap.objs.size + 1) s.heap.objs.size 0 .none → h'.IsTupleIter s.heap.objs.size l 0 → h'.objs.size = s.heap.objs.size + 2 →
      (∀ b o, s.heap.get? b = some o → h'.get? b = some o) → Q (.ref (s.heap.objs.size + 1)) { s with heap := h' }) :
    wpAny (model prog w) A (call (.type "enumerate") [.ref l]) Q E s := by
  obtain ⟨⟨c, dct, dt, sl⟩, hl, hc, n, hd⟩ := hL
  replace hc : c = .type "tuple" := hc
  replace hd : dt = .seq items n := hd
  subst hc hd
  refine callType_new F.called_enumerate (by decide) (F.typeCall_enumerate_1 _) (F.newCall_enumerate_1 _) (fun obj => F.args_object_init_2 obj _) F.entry_enumerate_new
    (meets_enumerate_newT l items n dct sl) ⟨hl, ?_⟩
  have hz : (s.heap.push { cls := .type "tuple_iterator", data := .fields #[.ref l, .int 0 0] }).objs.size = s.heap.objs.size + 1 := Heap.size_push ..
  show _ ∧ _
  rw [hz]
  have he : IsEnum ((s.heap.push { cls := .type "tuple_iterator", data := .fields #[.ref l, .int 0 0] }).push
      { cls := .type "enumerate", data := .fields #[.none, .bool false, .ref s.heap.objs.size, rawInt 0, .none, .none] }) (s.heap.objs.size + 1) s.heap.objs.size 0 .none := by
    have := Heap.get?_push_size (s.heap.push { cls := .type "tuple_iterator", data := .fields #[.ref l, .int 0 0] })
      (o := { cls := .type "enumerate", data := .fields #[.none, .bool false, .ref s.heap.objs.size, rawInt 0, .none, .none] }) rfl
    rw [hz] at this; exact this
  refine ⟨⟨_, he, rfl⟩, h _ he ⟨_, Heap.get?_push_of_some _ (Heap.get?_push_size _ rfl), rfl, rfl⟩ (by rw [Heap.size_push, hz]) fun b o x => Heap.get?_push_of_some _ (Heap.get?_push_of_some _ x)⟩
/-- the tuple at a, each item in a new pair -/
def IteT (K : PySem.W.Frag) (a : Addr) : It :=
  ⟨fun i H => ∃ (xs : List V) (x : V), SqT K H a xs ∧ xs[i]? = some x, fun i H v H' => ∃ T x, v = .ref T ∧ H T = none ∧ H' = upd H T (.tup [.int (i : Nat), x]) ∧ ∀ xs, SqT K H a xs → xs[i]? = some x, fun i H => ∃ xs : List V, SqT K H a xs ∧ xs.length ≤ i⟩
theorem isEnum_out {h : Heap} {e it : Addr} {i : Int} {x : Value} {T : Addr} (he : IsEnumOut h e it i x T) : IsEnumOut h e it i x T := he
theorem turn_enumT {P : Program} {w : World} {K : PySem.W.Frag} {elts : List Expr} {kk : Nat} {tpos : Pos} (a e it : Addr) :
    Turn P w K (.Tuple elts kk tpos) (IteT K a) [e, it] e (fun i h => (∃ old, IsEnum h e it ((i : Nat) : Int) old) ∧ h.IsTupleIter it a i ∧ e ≠ it ∧ a ≠ it ∧ a ≠ e) where
  mem := by simp
  obj := fun i h st b hb => by
    obtain ⟨⟨old, he⟩, ⟨o, ho, hc, hd⟩, _⟩ := st
    have e' : b = e ∨ b = it := by simpa using hb
    rcases e' with z | z
    · rw [z]; exact ⟨_, he, fun v q => nomatch q⟩
    · rw [z]; exact ⟨o, ho, fun v q => by rw [hd] at q; cases q⟩
  keep := fun i h h' st k => let ⟨⟨old, he⟩, ⟨o, ho, r⟩, hne⟩ := st; ⟨⟨old, k e (by simp) _ he⟩, ⟨o, k it (by simp) o ho, r⟩, hne⟩
  item := by
    intro X hP hw hK hc i pins s σ H E I hf st hg
    subst hP hw hK
    obtain ⟨⟨old, he⟩, hit, hne, hai, hae⟩ := st
    obtain ⟨xs, x, hq, hx⟩ := hg
    obtain ⟨its, rv, p, hz⟩ := I.tuple hq
    obtain ⟨u, hu, ru⟩ := rv.get hx
    have hel : e < s.heap.objs.size := Heap.lt_size he
    have hil : it < s.heap.objs.size := by obtain ⟨_, q, _⟩ := hit; exact Heap.lt_size q
    have hlt : i < its.toArray.size := by
      have q := List.getElem?_eq_some_iff.mp hu
      rw [List.size_toArray]
      exact q.1
    refine wpAny_pyNext_enum_itemD (draws_tup (prog := X.prog) (w := X.w) (A := X.A.in1) (I.ok.hd hc) it a hai its.toArray) he ⟨hit, (show s.heap.IsTuple a its.toArray from p)⟩ hlt hne (by simp [hne, Ne.symm hae]) fun y h' tk hP ho hit' hT hsz hk => ?_
    have ey : y = u := by
      have q : its.toArray[i]? = some u := by simpa using hu
      rw [q] at hP
      exact (Option.some.inj hP).symm
    subst ey
    refine ⟨_, rfl, wpAny_letOwnedTupleGo_enum (s := { s with heap := h', toks := tk + 1 }) ho fun h'' he' sb => ?_⟩
    have hT2 : h''.get? s.heap.objs.size = some { cls := .type "tuple", data := .seq #[.int i tk, y] } := (sb.2 _ (Nat.ne_of_gt hel)).trans hT
    have new : ObjOk X.prog X.w (upd H s.heap.objs.size (.tup [.int (i : Nat), x])) h'' s.heap.objs.size (.tup [.int (i : Nat), x]) :=
      ⟨by show 2 ≤ sizeLine; decide, [.int i tk, y], .cons ⟨_, rfl⟩ (.cons ru .nil), ⟨_, hT2, rfl, _, rfl⟩⟩
    have I1 : Inv X pins σ (upd H s.heap.objs.size (.tup [.int (i : Nat), x])) { s with heap := h'', toks := tk + 1 } :=
      I.turnedNew (ch := [e, it]) (fun b ob hb q => (sb.2 b (fun z => hb (by simp [z]))).trans (hk b ob (fun z => hb (by simp [z])) (fun z => hb (by simp [z])) q)) hf (Nat.le_refl _) new
    refine ⟨.ref s.heap.objs.size, _, I1, rfl, ⟨_, x, rfl, I.hok.fresh (Nat.le_refl _), rfl, fun ys hy => by rw [I.tuple_inj hy hq]; exact hx⟩, ⟨⟨y, ?_⟩, ?_, hne, hai, hae⟩, fun b hb => ?_⟩
    · have e1 : ((i + 1 : Nat) : Int) = (i : Int) + 1 := by omega
      rw [e1]; exact he'
    · obtain ⟨⟨o, ho2, r2⟩, _⟩ := hit'
      exact ⟨o, (sb.2 it (Ne.symm hne)).trans ho2, r2⟩
    · have hb' : b < s.heap.objs.size := by
        have e' : b = e ∨ b = it := by simpa using hb
        rcases e' with z | z
        · rw [z]; exact hel
        · rw [z]; exact hil
      rw [upd_ne (Nat.ne_of_lt hb')]
      exact (hf b hb).1
  done := by
    intro X hP hw hK hc i pins s σ H E I hf st hg
    subst hP hw hK
    obtain ⟨⟨old, he⟩, hit, hne, hai, hae⟩ := st
    obtain ⟨xs, hq, hx⟩ := hg
    obtain ⟨its, rv, p, hz⟩ := I.tuple hq
    obtain ⟨f0, f1, f2, f3, f4, f5⟩ := hf it (by simp)
    have hl := rv.length
    have hT : s.TypeIs (.ref e) "enumerate" := ⟨_, he, rfl⟩
    unfold pyNext
    refine wpAny_bind (wpAny_attempt (wpAny_callSpecial?_slot (name := Str.ofString "__next__") hT F.slot_enumerate_next
      (wpAny_call_entry F.slot_enumerate_next hT F.entry_enumerate_next ?_ (F.args_enumerate_next_1 _))))
    show wpAny _ _ (field (.ref e) 2 >>= _) _ _ _
    refine wpAny_bind (wpAny_field he rfl (x := .ref it) rfl ?_)
    refine wpAny_bind (RZ.nextOf_tuple_end (A := X.A.in1) (I.ok.hd hc) hit (show s.heap.IsTuple a its.toArray from p) (by simp; omega) fun h' x he' hx' => ?_)
    obtain ⟨o, ho, hc'⟩ := hx'
    refine wpAny_bind (wpAny_isInstance (T := "StopIteration") (b := true) ⟨o, ho, hc'⟩ isSubtype_stop ?_)
    exact wpAny_pure ⟨rfl, I.turned (t' := s.toks) (fun b o hb q => he' b o hb q) f0 f1 f3 f4 f5⟩
  self := fun A i s Q E st h => let ⟨⟨_, he⟩, _⟩ := st; wpAny_pyIter_enum he h
def iEnumT (K : PySem.W.Frag) (ta : TA) : TI := fun σ H R => ta σ H fun vs H1 => ∃ a xs, vs = [.ref a] ∧ SqT K H1 a xs ∧ R (IteT K a) H1
theorem pi_enumT {X : Cx} {e : Expr} {ta : TA} {p pos tpos : Pos} {elts : List Expr} {kk : Nat} (hg : Gl X "enumerate") (hm : X.mg "enumerate" = none) (ha : PA X [e] ta) (hs : starEach [e] X.env = [(false, eval e X.env)] := by rfl) :
    PI X (.Tuple elts kk tpos) (.Call (.Name "enumerate" p) [e] [] pos) (iEnumT X.K ta) := by
  refine ⟨fun pins s σ H R I h => ?_⟩
  refine Call_ (ld_blt I hg hm boot_enumerate (PyProof.Rows.callWith_type1 (thn (ha.run pos pins s σ H _ I h) fun us s1 ⟨vs, H1, I1, r1, q1⟩ => ?_) hs rfl))
  obtain ⟨a, xs, ex, hq, q⟩ := q1
  subst ex
  cases r1 with
  | cons r rr =>
    cases rr
    cases r
    obtain ⟨its, rv, p', hz⟩ := I1.tuple hq
    have hlt : a < s1.heap.objs.size := by
      obtain ⟨o, ho, _⟩ := id p'
      exact Heap.lt_size ho
    refine call_enumerate_tuple (show s1.heap.IsTuple a its.toArray from p') fun h' he hit hsz hk => wpAny_pyIter_enum he ?_
    have I2 : Inv X pins σ H1 { s1 with heap := h' } := I1.kept (t' := s1.toks) hk
    refine ⟨s1.heap.objs.size + 1, [s1.heap.objs.size + 1, s1.heap.objs.size], _, _, H1, rfl, I2, turn_enumT a (s1.heap.objs.size + 1) s1.heap.objs.size, ⟨⟨.none, he⟩, hit, Nat.succ_ne_self _, Nat.ne_of_lt hlt, Nat.ne_of_lt (Nat.lt_succ_of_lt hlt)⟩, fun b hb => ?_, q⟩
    have e' : b = s1.heap.objs.size + 1 ∨ b = s1.heap.objs.size := by simpa using hb
    have hle : s1.heap.objs.size ≤ b := by
      rcases e' with z | z
      · rw [z]; exact Nat.le_add_right _ _
      · rw [z]; exact Nat.le_refl _
    exact I1.fpOk hle (I1.hok.fresh hle)
end Xq

/-! A tuple of one or two backwards; loops turn by turn. -/
namespace Xq
open PySem PySem.Spec PyProof.Rows L2
section
variable {prog : Program} {w : World} {A : Around} {E : Value → Shared → Prop} {s : Shared}
theorem rev_places (n : Nat) (hn : n = 1 ∨ n = 2) : Builtin.Slice.sliceAdjust none none (-1) (n : Int) = ((n : Int) - 1, -1) ∧ Builtin.Slice.slicePlaces ((n : Int) - 1) (-1) (-1) = n := by
  rcases hn with rfl | rfl
  · exact ⟨rfl, rfl⟩
  · exact ⟨rfl, rfl⟩
theorem sliceApplied_rev {sl : Addr} {vl vu vs : Value} {n : Nat} {Q : Int × Int × Nat → Shared → Prop} (hn : n = 1 ∨ n = 2) (hs : s.heap.IsSliceOf sl vl vu vs) (pl : IsPart vl none) (pu : IsPart vu none) (ps : IsPart vs (some (-1)))
    (h : Q ((n : Int) - 1, -1, n) s) : wpAny (model prog w) A (Builtin.Slice.sliceApplied (.ref sl) (pure (n : Int))) Q E s := by
  obtain ⟨os, hos, hcs, hds⟩ := id hs
  unfold Builtin.Slice.sliceApplied Builtin.Slice.sliceFields
  refine wpAny_bind (wpAny_bind (wpAny_field hos hds (x := vl) rfl (wpAny_bind (wpAny_field hos hds (x := vu) rfl (wpAny_bind (wpAny_field hos hds (x := vs) rfl (wpAny_pure ?_)))))))
  refine wpAny_bind (HT.slicePart_ ps ?_)
  show wpAny _ _ (if ((-1 : Int) == 0) = true then _ else _) _ _ s
  rw [if_neg (by decide)]
  refine wpAny_bind (HT.slicePart_ pl (wpAny_bind (HT.slicePart_ pu (wpAny_bind (wpAny_pure ?_)))))
  show wpAny _ _ (match Builtin.Slice.sliceAdjust none none (-1) (n : Int) with | (lo, hi) => pure (lo, (-1 : Int), Builtin.Slice.slicePlaces lo hi (-1))) _ _ s
  rw [(rev_places n hn).1]
  show wpAny _ _ (pure ((n : Int) - 1, (-1 : Int), Builtin.Slice.slicePlaces ((n : Int) - 1) (-1) (-1))) _ _ s
  rw [(rev_places n hn).2]
  exact wpAny_pure h
theorem getItem_tuple_rev {t sl : Addr} {l : List Value} {vl vu vs : Value} {Q : Value → Shared → Prop} (hn : l.length = 1 ∨ l.length = 2) (ht : IsTup s.heap t l.toArray) (hs : s.heap.IsSliceOf sl vl vu vs) (pl : IsPart vl none) (pu : IsPart vu none) (ps : IsPart vs (some (-1)))
    (h : Q (.ref s.heap.objs.size) { s with heap := s.heap.push { cls := .type "tuple", data := .seq l.reverse.toArray } }) : wpAny (model prog w) A (getItem (.ref t) (.ref sl)) Q E s := by
  have htake : sizeOk (.seq l.reverse.toArray) := by
    show l.reverse.toArray.size ≤ sizeLine
    rw [List.size_toArray, List.length_reverse]
    have : 2 ≤ sizeLine := by decide
    omega
  obtain ⟨os, hos, hcs, hds⟩ := id hs
  have hTs : s.TypeIs (.ref sl) "slice" := ⟨os, hos, hcs⟩
  unfold getItem
  try with_reducible refine wpAny_holding ?_
  first | refine wpAny_bind (wpAny_pure ?_) | skip
  refine wpAny_bind (wpAny_sequenceKey ht.typeIs (by decide) ?_)
  refine wpAny_bind (wpAny_callSpecial?_slot (name := Str.ofString "__getitem__") ht.typeIs PyProof.Rows.slot_tuple_getitem
    (wpAny_call_entry PyProof.Rows.slot_tuple_getitem ht.typeIs entry_tuple_getitem ?_ (args_tuple_getitem _ _)))
  show wpAny _ _ (Builtin.Tuple.tupleItemsOf (.ref t) >>= _) _ _ s
  refine wpAny_bind (tupleItemsOf_ ht ?_)
  refine wpAny_bind (wpAny_typeOf hTs ?_)
  rw [if_pos (by decide)]
  refine wpAny_bind (sliceApplied_rev (n := l.toArray.size) (by rw [List.size_toArray]; exact hn) hs pl pu ps ?_)
  have hno : ¬ ((((l.toArray.size : Nat) : Int) - 1 == 0 && (-1 : Int) == 1 && l.toArray.size == l.toArray.size) = true) := by
    intro q
    rw [Bool.and_eq_true, Bool.and_eq_true] at q
    exact absurd q.1.2 (by decide)
  show wpAny _ _ (if (((l.toArray.size : Nat) : Int) - 1 == 0 && (-1 : Int) == 1 && l.toArray.size == l.toArray.size) = true then _ else _) _ _ s
  rw [if_neg hno]
  have pick : ((List.range l.toArray.size).filterMap fun (m : Nat) => l.toArray[((((l.toArray.size : Nat) : Int) - 1) + (m : Int) * (-1)).toNat]?).toArray = l.reverse.toArray := by
    rcases hn with e | e
    · match l, e with
      | [a], _ => rfl
    · match l, e with
      | [a, b], _ => rfl
  rw [pick]
  first
    | exact wpAny_bind (m := Builtin.Tuple.tupleExact _) (wpAny_newObj_type (wpAny_pure ⟨_, rfl, wpAny_pure h⟩) htake)
    | exact wpAny_bind (m := Builtin.Tuple.tupleExact _) (wpAny_newObj_type (wpAny_bind (wpAny_pure (wpAny_pure ⟨_, rfl, wpAny_pure h⟩))) htake)
    | exact wpAny_bind (wpAny_bind (m := Builtin.Tuple.tupleExact _) (wpAny_newObj_type (wpAny_pure (wpAny_pure ⟨_, rfl, wpAny_pure h⟩)) htake))
    | exact wpAny_bind (wpAny_bind (m := Builtin.Tuple.tupleExact _) (wpAny_newObj_type (wpAny_pure ⟨_, rfl, wpAny_pure h⟩) htake))
end
/-- t[::-1], t of one or two -/
def tRevT (K : PySem.W.Frag) (te : TE) : TE := fun σ H Q => te σ H fun x H1 => ∃ a xs, x = .ref a ∧ SqT K H1 a xs ∧ (xs.length = 1 ∨ xs.length = 2) ∧ ∀ p, H1 p = none → Q (.ref p) (upd H1 p (.tup xs.reverse))
theorem pe_revT {X : Cx} {e : Expr} {te : TE} {k : Nat} {p1 p2 p3 pos : Pos} (he : PE X e te) : PE X (.Subscript e (.Slice none none (some (.UnaryOp .USub (.Constant (.int 1) k p1) p2)) p3) pos) (tRevT X.K te) := by
  refine ⟨fun pins s σ H Q I h => ?_⟩
  refine Subscript_ (thn (he.run pins s σ H _ I h) fun v s1 ⟨x, H1, I1, r1, q1⟩ => ?_)
  obtain ⟨a, xs, ex, hx, hl, q⟩ := q1
  subst ex
  cases r1
  have hst : PO X (some (.UnaryOp .USub (.Constant (.int 1) k p1) p2)) (tPart (tUn (rU fun i => .int (-i)) (tC (.int 1)))) := po_some (pe_un un_neg pe_int)
  refine wpAny_Slice (thn (po_none.run pins s1 σ H1 (fun o H2 => o = none ∧ H2 = H1) I1 ⟨rfl, rfl⟩) fun vl s2 ⟨l, H2, I2, pl, el, e2⟩ => ?_)
  subst el e2
  refine thn (po_none.run pins s2 σ H2 (fun o H3 => o = none ∧ H3 = H2) I2 ⟨rfl, rfl⟩) fun vu s3 ⟨u, H3, I3, pu, eu, e3⟩ => ?_
  subst eu e3
  refine thn (hst.run pins s3 σ H3 (fun o H4 => o = some (-1) ∧ H4 = H3) I3 ⟨1, rfl, -1, rfl, rfl, rfl⟩) fun vs s4 ⟨o, H4, I4, ps, eo, e4⟩ => ?_
  subst eo e4
  have I5 : Inv X pins σ H4 { s4 with heap := s4.heap.push { cls := .type "slice", data := .fields #[vl, vu, vs] } } := I4.kept (t' := s4.toks) fun b ob q => Heap.get?_push_of_some _ q
  obtain ⟨its, r, ht, hz⟩ := I5.tuple hx
  have hlen := r.length
  show wpAny (model X.prog X.w) X.A (subscriptTail e (.Slice none none (some (.UnaryOp .USub (.Constant (.int 1) k p1) p2)) p3) (.ref a) (.ref s4.heap.objs.size)) (EP X pins σ Q) X.xe { s4 with heap := s4.heap.push { cls := .type "slice", data := .fields #[vl, vu, vs] } }
  refine tail_any (ops := [.ref a, .ref s4.heap.objs.size]) ht.typeIs (PyProof.Rows.slot_tuple_getitem.lookup) ?_ (by with_unfolding_all rfl)
  refine getItem_tuple_rev (by rw [← hlen]; exact hl) ht (Heap.IsSliceOf.new _ vl vu vs) pl pu ps ?_
  refine ⟨.ref _, _, I5.laid (t' := s4.toks) (o := .tup xs.reverse) (fun b ob q => Heap.get?_push_of_some _ q) (Nat.le_refl _) ?_, rfl, q _ (I5.hok.fresh (Nat.le_refl _))⟩
  exact ⟨by rw [List.length_reverse]; exact hz, _, r.reverse, IsTup.new _ _⟩

/-! ### turn by turn -/
section
variable {J : It} {n : Nat} {G : Hp → Prop} {g : TG} {tb : TS} {D : Ends}
/-- the turns of a for over xs -/
def unr (G : Hp → Prop) (g : TG) (tb : TS) (D : Ends) : List V → L2.St → Hp → Prop
  | [], σ, H => G H ∧ D.nx σ H
  | x :: r, σ, H => G H ∧ g x σ H fun σ2 H2 => tb { D with nx := unr G g tb D r, ct := unr G g tb D r, bk := D.nx } σ2 H2
theorem for_unr {xs : List V} (w : Walk J xs.length G (YAt xs)) {σ : L2.St} {H : Hp} (h : unr G g tb D xs σ H) :
    ∃ W : Nat → Nat → L2.St → Hp → Prop, (∃ m, W 0 m σ H) ∧ ∀ i m σ H, W i m σ H →
      (J.stop i H ∧ D.nx σ H) ∨ (J.go i H ∧ ∃ N : L2.St → Hp → Prop, (∀ σ' H', N σ' H' → ∃ m', m' < m ∧ W (i + 1) m' σ' H') ∧ ∀ x H', J.yld i H x H' → g x σ H' fun σ2 H2 => tb { D with nx := N, ct := N, bk := D.nx } σ2 H2) := by
  refine ⟨fun i m σ H => m = xs.length - i ∧ i ≤ xs.length ∧ unr G g tb D (xs.drop i) σ H, ⟨xs.length, by simp, Nat.zero_le _, h⟩, ?_⟩
  rintro i m σ H ⟨rfl, hi, p⟩
  by_cases hlt : i < xs.length
  · rw [List.drop_eq_getElem_cons hlt] at p
    obtain ⟨gg, p⟩ := p
    refine .inr ⟨w.goes i H hlt gg, unr G g tb D (xs.drop (i + 1)), fun σ' H' p' => ⟨xs.length - (i + 1), by omega, rfl, hlt, p'⟩, fun x H' y => ?_⟩
    obtain ⟨e, y2⟩ := w.yields i H x H' hlt gg y
    subst e
    rw [List.getElem?_eq_getElem hlt] at y2
    cases y2
    exact p
  · have e : i = xs.length := by omega
    subst e
    rw [List.drop_length] at p
    exact .inl ⟨w.stops H p.1, p.2⟩
/-- the turns of a for over enumerate -/
def unrE (G : Hp → Prop) (g : TG) (tb : TS) (D : Ends) : Nat → List V → L2.St → Hp → Prop
  | _, [], σ, H => G H ∧ D.nx σ H
  | i, x :: r, σ, H => G H ∧ ∀ T, H T = none → g (.ref T) σ (upd H T (.tup [.int (i : Nat), x])) fun σ2 H2 => tb { D with nx := unrE G g tb D (i + 1) r, ct := unrE G g tb D (i + 1) r, bk := D.nx } σ2 H2
theorem for_unrE {K : PySem.W.Frag} {a : Addr} {xs : List V} {σ : L2.St} {H : Hp} (h : unrE (fun H => SqT K H a xs) g tb D 0 xs σ H) :
    ∃ W : Nat → Nat → L2.St → Hp → Prop, (∃ m, W 0 m σ H) ∧ ∀ i m σ H, W i m σ H →
      ((IteT K a).stop i H ∧ D.nx σ H) ∨ ((IteT K a).go i H ∧ ∃ N : L2.St → Hp → Prop, (∀ σ' H', N σ' H' → ∃ m', m' < m ∧ W (i + 1) m' σ' H') ∧ ∀ x H', (IteT K a).yld i H x H' → g x σ H' fun σ2 H2 => tb { D with nx := N, ct := N, bk := D.nx } σ2 H2) := by
  refine ⟨fun i m σ H => m = xs.length - i ∧ i ≤ xs.length ∧ unrE (fun H => SqT K H a xs) g tb D i (xs.drop i) σ H, ⟨xs.length, by simp, Nat.zero_le _, h⟩, ?_⟩
  rintro i m σ H ⟨rfl, hi, p⟩
  by_cases hlt : i < xs.length
  · rw [List.drop_eq_getElem_cons hlt] at p
    obtain ⟨gg, p⟩ := p
    refine .inr ⟨⟨xs, xs[i], gg, by simp [hlt]⟩, unrE (fun H => SqT K H a xs) g tb D (i + 1) (xs.drop (i + 1)), fun σ' H' p' => ⟨xs.length - (i + 1), by omega, rfl, hlt, p'⟩, fun x H' y => ?_⟩
    obtain ⟨T, z, rfl, hT, rfl, y⟩ := y
    have y2 := y xs gg
    rw [List.getElem?_eq_getElem hlt] at y2
    cases y2
    exact p T hT
  · have e : i = xs.length := by omega
    subst e
    rw [List.drop_length] at p
    exact .inl ⟨⟨xs, p.1, Nat.le_refl _⟩, p.2⟩
/-- the turns of a comprehension over xs -/
def unrC (G : Hp → Prop) (g : TG) (tt : TT) (te : TE) (D : Addr) (vs : List Nat) (σ : L2.St) (Qd : Hp → Prop) : List V → Hp → Prop
  | [], H => G H ∧ Qd H
  | x :: r, H => G H ∧ g x (wipe σ vs) H fun σ2 H2 => wipe σ2 vs = wipe σ vs ∧ tt σ2 H2 fun b H3 =>
    if b = true then te σ2 H3 fun y H4 => ∃ acc, H4 D = some (.lst acc) ∧ acc.length < sizeLine ∧ unrC G g tt te D vs σ Qd r (upd H4 D (.lst (acc ++ [y]))) else unrC G g tt te D vs σ Qd r H3
theorem lc_unr {xs : List V} (w : Walk J xs.length G (YAt xs)) {tt : TT} {te : TE} {vs : List Nat} {σ : L2.St} {H1 : Hp} {D : Addr} {Qd : Hp → Prop} (h : unrC G g tt te D vs σ Qd xs (upd H1 D (.lst []))) :
    ∃ W : Nat → Nat → Hp → Prop, (∃ m, W 0 m (upd H1 D (.lst []))) ∧ ∀ i m H, W i m H →
      (J.stop i H ∧ Qd H) ∨ (J.go i H ∧ ∃ Nx : Hp → Prop, (∀ H', Nx H' → ∃ m', m' < m ∧ W (i + 1) m' H') ∧ ∀ x H', J.yld i H x H' → g x (wipe σ vs) H' fun σ2 H2 => wipe σ2 vs = wipe σ vs ∧ tt σ2 H2 fun b H3 =>
        if b = true then te σ2 H3 fun y H4 => ∃ acc, H4 D = some (.lst acc) ∧ acc.length < sizeLine ∧ Nx (upd H4 D (.lst (acc ++ [y]))) else Nx H3) := by
  refine ⟨fun i m H => m = xs.length - i ∧ i ≤ xs.length ∧ unrC G g tt te D vs σ Qd (xs.drop i) H, ⟨xs.length, by simp, Nat.zero_le _, h⟩, ?_⟩
  rintro i m H ⟨rfl, hi, p⟩
  by_cases hlt : i < xs.length
  · rw [List.drop_eq_getElem_cons hlt] at p
    obtain ⟨gg, p⟩ := p
    refine .inr ⟨w.goes i H hlt gg, unrC G g tt te D vs σ Qd (xs.drop (i + 1)), fun H' p' => ⟨xs.length - (i + 1), by omega, rfl, hlt, p'⟩, fun x H' y => ?_⟩
    obtain ⟨e, y2⟩ := w.yields i H x H' hlt gg y
    subst e
    rw [List.getElem?_eq_getElem hlt] at y2
    cases y2
    exact p
  · have e : i = xs.length := by omega
    subst e
    rw [List.drop_length] at p
    exact .inl ⟨w.stops H p.1, p.2⟩
/-- .. without a test -/
def unrY (G : Hp → Prop) (g : TG) (te : TE) (D : Addr) (vs : List Nat) (σ : L2.St) (Qd : Hp → Prop) : List V → Hp → Prop
  | [], H => G H ∧ Qd H
  | x :: r, H => G H ∧ g x (wipe σ vs) H fun σ2 H2 => wipe σ2 vs = wipe σ vs ∧ te σ2 H2 fun y H4 => ∃ acc, H4 D = some (.lst acc) ∧ acc.length < sizeLine ∧ unrY G g te D vs σ Qd r (upd H4 D (.lst (acc ++ [y])))
theorem unrY_eq {te : TE} {D : Addr} {vs : List Nat} {σ : L2.St} {Qd : Hp → Prop} : ∀ xs : List V, unrC G g tYes te D vs σ Qd xs = unrY G g te D vs σ Qd xs
  | [] => rfl
  | x :: r => by
    funext H
    unfold unrC unrY
    rw [unrY_eq r]
    simp only [tYes, if_true]
theorem lc_yes {xs : List V} (w : Walk J xs.length G (YAt xs)) {te : TE} {vs : List Nat} {σ : L2.St} {H1 : Hp} {D : Addr} {Qd : Hp → Prop} (h : unrY G g te D vs σ Qd xs (upd H1 D (.lst []))) :
    ∃ W : Nat → Nat → Hp → Prop, (∃ m, W 0 m (upd H1 D (.lst []))) ∧ ∀ i m H, W i m H →
      (J.stop i H ∧ Qd H) ∨ (J.go i H ∧ ∃ Nx : Hp → Prop, (∀ H', Nx H' → ∃ m', m' < m ∧ W (i + 1) m' H') ∧ ∀ x H', J.yld i H x H' → g x (wipe σ vs) H' fun σ2 H2 => wipe σ2 vs = wipe σ vs ∧ tYes σ2 H2 fun b H3 =>
        if b = true then te σ2 H3 fun y H4 => ∃ acc, H4 D = some (.lst acc) ∧ acc.length < sizeLine ∧ Nx (upd H4 D (.lst (acc ++ [y]))) else Nx H3) :=
  lc_unr w (by rw [unrY_eq]; exact h)
/-- the turns of a comprehension over a zip of two lists -/
def unrZ (G : Hp → Prop) (g : TG) (tt : TT) (te : TE) (D : Addr) (vs : List Nat) (σ : L2.St) (Qd : Hp → Prop) : List (V × V) → Hp → Prop
  | [], H => G H ∧ Qd H
  | x :: r, H => G H ∧ ∀ T, H T = none → g (.ref T) (wipe σ vs) (upd H T (.tup [x.1, x.2])) fun σ2 H2 => wipe σ2 vs = wipe σ vs ∧ tt σ2 H2 fun b H3 =>
    if b = true then te σ2 H3 fun y H4 => ∃ acc, H4 D = some (.lst acc) ∧ acc.length < sizeLine ∧ unrZ G g tt te D vs σ Qd r (upd H4 D (.lst (acc ++ [y]))) else unrZ G g tt te D vs σ Qd r H3
theorem lc_unrZ {K : PySem.W.Frag} {a b : Addr} {xs ys : List V} {tt : TT} {te : TE} {vs : List Nat} {σ : L2.St} {H1 : Hp} {D : Addr} {Qd : Hp → Prop}
    (h : unrZ (fun H => SqL K H a xs ∧ SqL K H b ys) g tt te D vs σ Qd (xs.zip ys) (upd H1 D (.lst []))) :
    ∃ W : Nat → Nat → Hp → Prop, (∃ m, W 0 m (upd H1 D (.lst []))) ∧ ∀ i m H, W i m H →
      ((Itz K a b).stop i H ∧ Qd H) ∨ ((Itz K a b).go i H ∧ ∃ Nx : Hp → Prop, (∀ H', Nx H' → ∃ m', m' < m ∧ W (i + 1) m' H') ∧ ∀ x H', (Itz K a b).yld i H x H' → g x (wipe σ vs) H' fun σ2 H2 => wipe σ2 vs = wipe σ vs ∧ tt σ2 H2 fun b H3 =>
        if b = true then te σ2 H3 fun y H4 => ∃ acc, H4 D = some (.lst acc) ∧ acc.length < sizeLine ∧ Nx (upd H4 D (.lst (acc ++ [y]))) else Nx H3) := by
  refine ⟨fun i m H => m = (xs.zip ys).length - i ∧ i ≤ (xs.zip ys).length ∧ unrZ (fun H => SqL K H a xs ∧ SqL K H b ys) g tt te D vs σ Qd ((xs.zip ys).drop i) H, ⟨(xs.zip ys).length, by simp, Nat.zero_le _, h⟩, ?_⟩
  rintro i m H ⟨rfl, hi, p⟩
  by_cases hlt : i < (xs.zip ys).length
  · rw [List.drop_eq_getElem_cons hlt] at p
    obtain ⟨⟨gx, gy⟩, p⟩ := p
    have hl := hlt
    rw [List.length_zip] at hl
    have h1 : i < xs.length := by omega
    have h2 : i < ys.length := by omega
    refine .inr ⟨⟨xs, ys, xs[i], ys[i], gx, gy, List.getElem?_eq_getElem h1, List.getElem?_eq_getElem h2⟩, unrZ (fun H => SqL K H a xs ∧ SqL K H b ys) g tt te D vs σ Qd ((xs.zip ys).drop (i + 1)), fun H' p' => ⟨(xs.zip ys).length - (i + 1), by omega, rfl, hlt, p'⟩, fun x H' y => ?_⟩
    obtain ⟨T, u, v, rfl, hT, rfl, y1, y2⟩ := y
    have e1 := y1 xs gx
    have e2 := y2 ys gy
    rw [List.getElem?_eq_getElem h1] at e1
    rw [List.getElem?_eq_getElem h2] at e2
    cases e1
    cases e2
    have p2 := p T hT
    rw [List.getElem_zip] at p2
    exact p2
  · have e : i = (xs.zip ys).length := by omega
    subst e
    rw [List.drop_length] at p
    refine .inl ⟨⟨xs, ys, p.1.1, p.1.2, ?_⟩, p.2⟩
    rw [List.length_zip]
    omega
/-- a while of at most k turns -/
def unrW (c : TT) (tb : TS) (D : Ends) : Nat → L2.St → Hp → Prop
  | 0, σ, H => c σ H fun b H1 => b = false ∧ D.nx σ H1
  | k + 1, σ, H => c σ H fun b H1 => if b = true then tb { D with nx := unrW c tb D k, ct := unrW c tb D k, bk := D.nx } σ H1 else D.nx σ H1
end
/-- a test's reading that may be weakened -/
def tMnT (t : TT) : TT := fun σ H Q => ∃ Q0 : Bool → Hp → Prop, t σ H Q0 ∧ ∀ b H1, Q0 b H1 → Q b H1
theorem pt_mn {X : Cx} {c : Expr} {t : TT} (h : PT X c t) : PT X c (tMnT t) := by
  refine ⟨fun pins s σ H Q I hq => ?_⟩
  obtain ⟨Q0, q0, im⟩ := hq
  exact thn (h.run pins s σ H Q0 I q0) fun b s1 ⟨H1, I1, q⟩ => ⟨H1, I1, im b H1 q⟩
def tWhU (t : TT) (tb : TS) : TS := fun D σ H => ∃ k, unrW t tb D k σ H
/-- while, a known number of turns at most -/
theorem ps_whU {X : Cx} {c : Expr} {body : List Stmt} {tc : TT} {tb : TS} {pos : Pos} (hp : PassesOwn (model X.prog X.w) X.A X.env X.xe) (hc : PT X c tc) (hb : PSs X body tb) : PS X (.While c body [] pos) (tWhU tc tb) := by
  have h := ps_while (pos := pos) hp (pt_mn hc) hb
  refine ⟨fun pins s σ H D I hq => h.run pins s σ H D I ?_⟩
  obtain ⟨k, hq⟩ := hq
  refine ⟨fun m σ H => unrW tc tb D m σ H, ⟨k, hq⟩, ?_⟩
  intro m σ H p
  cases m with
  | zero =>
    refine ⟨_, p, fun b H1 q => ?_⟩
    obtain ⟨rfl, q⟩ := q
    exact q
  | succ m =>
    refine ⟨_, p, fun b H1 q => ?_⟩
    cases b with
    | true => exact ⟨unrW tc tb D m, fun σ' H' p' => ⟨m, Nat.lt_succ_self m, p'⟩, q⟩
    | false => exact q
def tWhB (t : TT) (tb : TS) : TS := fun D σ H => ∃ (Pv : L2.St → Hp → Prop) (μ : L2.St → Hp → Nat), Pv σ H ∧ ∀ σ H, Pv σ H → t σ H fun b H1 =>
  if b = true then tb { D with nx := fun σ' H' => Pv σ' H' ∧ μ σ' H' < μ σ H, ct := fun σ' H' => Pv σ' H' ∧ μ σ' H' < μ σ H, bk := D.nx } σ H1 else D.nx σ H1
/-- while, by a word and a measure of the state -/
theorem ps_whB {X : Cx} {c : Expr} {body : List Stmt} {tc : TT} {tb : TS} {pos : Pos} (hp : PassesOwn (model X.prog X.w) X.A X.env X.xe) (hc : PT X c tc) (hb : PSs X body tb) : PS X (.While c body [] pos) (tWhB tc tb) := by
  have h := ps_while (pos := pos) hp (pt_mn hc) hb
  refine ⟨fun pins s σ H D I hq => h.run pins s σ H D I ?_⟩
  obtain ⟨Pv, μ, h0, hs⟩ := hq
  refine ⟨fun m σ H => m = μ σ H ∧ Pv σ H, ⟨_, rfl, h0⟩, ?_⟩
  rintro m σ H ⟨rfl, p⟩
  refine ⟨_, hs σ H p, fun b H1 q => ?_⟩
  cases b with
  | true => exact ⟨_, fun σ' H' ⟨p', l⟩ => ⟨_, l, rfl, p'⟩, q⟩
  | false => exact q
/-! ### what is never asked -/
theorem pe_nv {X : Cx} {e : Expr} : PE X e (fun _ _ _ => False) := ⟨fun _ _ _ _ _ _ h => False.elim h⟩
theorem ps_nv {X : Cx} {e : Stmt} : PS X e (fun _ _ _ => False) := ⟨fun _ _ _ _ _ _ h => False.elim h⟩
theorem pss_nv {X : Cx} {e : List Stmt} : PSs X e (fun _ _ _ => False) := ⟨fun _ _ _ _ _ _ h => False.elim h⟩
/-! ### heaps -/
theorem Same.put {H0 H1 : Hp} {p : Addr} {o : HO} (s : Same H0 H1) (h : H0 p = none) : Same H0 (upd H1 p o) := fun b u e => by
  rw [upd_ne (ne_of_none e h)]
  exact s b u e
theorem same_new {H : Hp} {p : Addr} {o : HO} (hp : H p = none) : Same H (upd H p o) := fun b u e => by
  rw [upd_ne (ne_of_none e hp)]
  exact e
theorem Same.new {H0 H1 : Hp} {p : Addr} {o : HO} (s : Same H0 H1) (h : H1 p = none) : Same H0 (upd H1 p o) := s.trans (same_new h)
theorem new_of {H0 H1 : Hp} {p : Addr} (s : Same H0 H1) (h : H1 p = none) : H0 p = none := by
  cases e : H0 p with
  | none => rfl
  | some u =>
    rw [s _ _ e] at h
    cases h
end Xq

/-! The defs' promises in one form; integers, fractions, terms. -/
namespace Xq
open PySem PySem.Spec PyProof.Rows L2
def top (i : Nat) : Stmt := PySem.Challenge.pw_likepanes_k12_known_shapes.main.body.getD i (.Pass ⟨0, 0, 0, 0⟩)
/-- called with args a where pre holds, it gives a value of which post holds; what was tracked is as it was -/
def Prm {α : Type} (args : α → List V) (pre : α → Hp → Prop) (post : α → Hp → V → Hp → Prop) : Sp := fun vs H Q _ => ∃ a, vs = args a ∧ pre a H ∧ ∀ v H', Same H H' → post a H v H' → Q v H'
/-- a def of the module that keeps a promise, as it is called by its name -/
structure Cal (P : Program) (w : World) (K : PySem.W.Frag) (mg : Str → Option Value) (base : Heap) (k : Nat) (x : Str) (ps : List Str) (sp : Sp) : Prop where
  ex : ∃ f fd, FnOk P w K mg base CX0 k f fd ps sp ∧ Binds K fd ps [] ∧ mg x = some (.ref f) ∧ PySem.W.keepIn K (.ref f) = true ∧ ∃ oc od osl, K.lookup f = some ⟨oc, od, .func fd, osl⟩
/-- the def st stands under its name -/
structure Df (K : PySem.W.Frag) (mg : Str → Option Value) (x : Str) (st : Stmt) : Prop where
  ex : ∃ f fd, Fun K x x st f fd ∧ mg x = some (.ref f)
section
variable {X : Cx} {k j : Nat} {ps : List Str} {sp : Sp} {x : Str} {p pos : Pos} {e : Expr} {es : List Expr} {t : TA}
theorem pe_cl (C : Cal X.prog X.w X.K X.mg X.base k x ps sp) (hr : Room j X.A) (ha : PA X (e :: es) t) (hkj : k ≤ j := by decide) (hg : Gl X x := by rfl) (hdb : (x == ("__debug__" : Str)) = false := by decide)
    (he : starEach (e :: es) X.env = (false, eval e X.env) :: starEach es X.env := by rfl) (hpl : (backTo pos (starEach es X.env)).any (·.1) = false := by rfl) :
    PE X (.Call (.Name x p) (e :: es) [] pos) (tCall sp [] E0 t) := by
  obtain ⟨f, fd, F, b, m, kp, _⟩ := C.ex
  exact pe_call F (hr.mono hkj) hg m kp b .nil pass0 ha hdb he hpl
end
theorem mkC {P : Program} {w : World} {K : PySem.W.Frag} {mg : Str → Option Value} {base : Heap} {α : Type} {args : α → List V} {pre : α → Hp → Prop} {post : α → Hp → V → Hp → Prop} {N ps : List Str} {x : Str} {st : Stmt} {k : Nat}
    (D : Df K mg x st) (S : FnScope N ps (defScope st))
    (hb : ∀ (kV doc pm : Value) (an : Option Addr) (cdv ct : Value) (us : List Value), us.length = ps.length → bindArgs (PySem.W.fnOf x x (defArgs st) (defBody st) (defScope st) .none kV doc pm an cdv ct) ⟨us, []⟩ = pure (ps.zip us))
    (hl : ∀ a : α, (args a).length = ps.length)
    (h : ∀ (f : Addr) (cdv : Value) (A : Around) (outer : List Env) (s : Shared) (H : Hp) (a : α) (Q : VK) (E : XK), Room k (A.deeper (envOfC x (defScope st) s.heap.objs.size f cdv)) → pre a H →
      (∀ v H', Same H H' → post a H v H' → Q v H') →
      ∃ t, PSs (cxOf CX0 P w K mg base N x (defScope st) f cdv A outer s H E).nox (defBody st) t ∧ t { nx := fun _ H' => Q .non H', rt := Q } (L2.start N (args a)) H) :
    Cal P w K mg base (k + 1) x ps (Prm args pre post) := by
  obtain ⟨f, fd, F, m⟩ := D.ex
  have lk : ∃ oc od osl, K.lookup f = some ⟨oc, od, .func fd, osl⟩ := by
    obtain ⟨oc, od, kV, doc, pm, an, cdv, ct, osl, _, lk, _⟩ := F.ex
    exact ⟨oc, od, osl, lk⟩
  refine ⟨f, fd, F.ok S (fun vs H Q E h => ?_) (fun cdv A outer s H vs Q E hr hp => ?_), F.binds hb, m, F.kp, lk⟩
  · obtain ⟨a, rfl, _⟩ := h
    exact hl a
  · obtain ⟨a, rfl, hpre, hk⟩ := hp
    exact h f cdv A outer s H a Q E hr hpre hk
/-- of two promises either -/
def OrS (a b : Sp) : Sp := fun vs H Q E => a vs H Q E ∨ b vs H Q E
theorem Cal.or {P : Program} {w : World} {K : PySem.W.Frag} {mg : Str → Option Value} {base : Heap} {k : Nat} {x : Str} {ps : List Str} {a b : Sp} (C : Cal P w K mg base k x ps a) (C' : Cal P w K mg base k x ps b) : Cal P w K mg base k x ps (OrS a b) := by
  obtain ⟨f, fd, F, bb, m, kp, oc, od, osl, lk⟩ := C.ex
  obtain ⟨f', fd', F', _, m', _, oc', od', osl', lk'⟩ := C'.ex
  rw [m] at m'
  cases m'
  rw [lk] at lk'
  cases lk'
  refine ⟨f, fd, ⟨fun vs H Q E h => h.elim (F.len vs H Q E) (F'.len vs H Q E), ?_⟩, bb, m, kp, oc, od, osl, lk⟩
  intro A outer s H args us vs Q E hr e0 hbd r h
  rcases h with h | h
  · exact F.run A outer s H args us vs Q E hr e0 hbd r h
  · exact F'.run A outer s H args us vs Q E hr e0 hbd r h
/-- the built-ins' names are free -/
structure Bl (mg : Str → Option Value) : Prop where
  isinstance_ : mg "isinstance" = none
  int_ : mg "int" = none
  bool_ : mg "bool" = none
  tuple_ : mg "tuple" = none
  str_ : mg "str" = none
  len_ : mg "len" = none
  all_ : mg "all" = none
  range_ : mg "range" = none
  max_ : mg "max" = none
  min_ : mg "min" = none
  abs_ : mg "abs" = none
  enumerate_ : mg "enumerate" = none
  zip_ : mg "zip" = none
  divmod_ : mg "divmod" = none
  repr_ : mg "repr" = none
  gcd_ : mg "gcd" = some (.builtin "math.gcd")
  deg_ : ∃ t, mg "MOST_DEGREE" = some (.int 5 t)
  term_ : ∃ t, mg "MOST_TERM" = some (.int 1000 t)
  bits_ : ∃ t, mg "FIRST_BITS" = some (.int 64 t)
theorem gn {i : Nat} {v : V} {σ : L2.St} {H : Hp} {Q : L2.St → Hp → Prop} : gName i v σ H Q = Q (σ.set i (some v)) H := rfl
/-- a tuple of ints -/
def TI (H : Hp) (p : Addr) (xs : List Int) : Prop := H p = some (.tup (xs.map V.int))
def LI (H : Hp) (p : Addr) (xs : List Int) : Prop := H p = some (.lst (xs.map V.int))
theorem TI.same {H H' : Hp} {p : Addr} {xs : List Int} (s : Same H H') (h : TI H p xs) : TI H' p xs := s _ _ h
section
variable {P : Program} {w : World} {K : PySem.W.Frag} {mg : Str → Option Value} {base : Heap}
theorem pe_isi {X : Cx} {e : Expr} {te : TE} {p p2 pos : Pos} {x : Str} {v : V} {u : Value} (hg : Gl X "isinstance") (hm : X.mg "isinstance" = none) (he : PE X e te) (hg2 : Gl X x) (hm2 : X.mg x = none) (hv : bootBuiltins x = some u) (r : RelV v u)
    (hst : starEach [e, .Name x p2] X.env = (false, eval e X.env) :: starEach [.Name x p2] X.env := by rfl)
    (hn : x ≠ "__name__" := by decide) (hd : (x == ("__debug__" : Str)) = false := by decide) :
    PE X (.Call (.Name "isinstance" p) [e, .Name x p2] [] pos) (tCB (rIsi X.K) (tCons te (tCons (tC v) tNil))) :=
  pe_callB call_isi hg hm (by decide +kernel) (pa_cons he (pa_cons (pe_bltn hg2 hm2 hv r hn hd) pa_nil) hst) (by decide) (by decide) hst
abbrev spIsInt : Sp := Prm (α := Int) (fun i => [.int i]) (fun _ _ => True) (fun _ H v H' => v = .bl true ∧ H' = H)
theorem c_isint (D : Df K mg "is_integer" (top 32)) (B : Bl mg) : Cal P w K mg base 1 "is_integer" ["value"] spIsInt := by
  refine mkC D (N := ["value"]) (⟨rfl, rfl, rfl, by decide +kernel, rfl, by decide +kernel, by decide +kernel⟩) (fun _ _ _ _ _ _ us hl => match us, hl with | [_], _ => rfl) (fun _ => rfl) (fun f cdv A outer s H a Q E hr _ k => ?_)
  refine ⟨_, pss_one (ps_ret (pe_and (pe_isi (v := .ty "int") (by rfl) B.isinstance_ (pv 0) (by rfl) B.int_ PyProof.Rows.boot_int rfl) (pe_one (pe_not (pe_isi (v := .ty "bool") (by rfl) B.isinstance_ (pv 0) (by rfl) B.bool_ PyProof.Rows.boot_bool rfl))))), ?_⟩
  refine ⟨_, rfl, _, _, _, _, true, rfl, .ty _, .base (.int _), kit_ty (by decide +kernel), _, rfl, iteT ?_⟩
  refine ⟨_, rfl, _, _, _, _, false, rfl, .ty _, .base (.int _), kit_ty (by decide +kernel), _, rfl, k _ _ (Same.refl _) ⟨rfl, rfl⟩⟩
end
end Xq

namespace Xq
open PySem PySem.Spec PyProof.Rows L2
section
variable {P : Program} {w : World} {K : PySem.W.Frag} {mg : Str → Option Value} {base : Heap}
theorem s18 : FnScope ["values", "value"] ["values"] (defScope (top 33)) := (⟨rfl, rfl, rfl, by decide +kernel, rfl, by decide +kernel, by decide +kernel⟩)
/-- a tuple of two ints -/
abbrev pre2 : Addr × Int × Int → Hp → Prop := fun a H => TI H a.1 [a.2.1, a.2.2]
abbrev spAreInts : Sp := Prm (α := Addr × Int × Int) (fun a => [.ref a.1]) pre2 (fun _ H v H' => v = .bl true)
theorem c_areints (D : Df K mg "are_integers" (top 33)) (B : Bl mg) (C : Cal P w K mg base 1 "is_integer" ["value"] spIsInt) : Cal P w K mg base 2 "are_integers" ["values"] spAreInts := by
  refine mkC D s18 (fun _ _ _ _ _ _ us hl => match us, hl with | [_], _ => rfl) (fun _ => rfl) (fun f cdv A outer s H a Q E hr h k => ?_)
  obtain ⟨p, x, y⟩ := a
  refine ⟨_, pss_one (ps_ret (pe_callB (cr_all rfl) (by rfl) B.all_ PyProof.Rows.boot_all (pa_cons
    (pe_lc (own := [("value", 1)]) (g := gName 1) (tt := tYes) (te := tCall spIsInt [] E0 (tCons (tVar 1) tNil)) rfl s18.nd (pi_tup (pv 0))
      (blkOk_by (N := ["values", "value"]) (sc := defScope (top 33)) (by decide +kernel)) (fun _ _ _ _ _ => (pg_name (i := 1) (FnScope.nd s18) rfl (Or.inl rfl))) (fun _ _ _ _ _ => pts_nil)
      (fun _ _ _ _ _ => pe_cl C hr (pa_cons (pv 1) pa_nil))) pa_nil))), ?_⟩
  have h0 : H p = some (.tup [.int x, .int y]) := h
  refine ⟨_, rfl, p, rfl, ⟨_, SqT.of h0⟩, fun D hD => lc_yes (G := fun H => SqT K H p [.int x, .int y]) (xs := [.int x, .int y]) walk_tup ?_⟩
  have s1 := same_new (o := .lst []) hD
  refine ⟨SqT.of (s1 _ _ h0), rfl, _, rfl, x, rfl, trivial, ?_⟩
  rintro _ _ - ⟨rfl, rfl⟩
  refine ⟨_, upd_same, by decide, ?_⟩
  rw [upd_upd]
  have s2 := same_new (o := .lst [.bl true]) hD
  refine ⟨SqT.of (s2 _ _ h0), rfl, _, rfl, y, rfl, trivial, ?_⟩
  rintro _ _ - ⟨rfl, rfl⟩
  refine ⟨_, upd_same, by decide, ?_⟩
  rw [upd_upd]
  have s3 := same_new (o := .lst [.bl true, .bl true]) hD
  refine ⟨SqT.of (s3 _ _ h0), D, [true, true], rfl, SqL.of upd_same, k _ _ s3 rfl⟩
theorem s19 : FnScope ["value", "top", "bottom"] ["value"] (defScope (top 34)) := (⟨rfl, rfl, rfl, by decide +kernel, rfl, by decide +kernel, by decide +kernel⟩)
abbrev spIsFrac : Sp := Prm (α := Addr × Int × Int) (fun a => [.ref a.1]) (fun a H => pre2 a H ∧ 1 ≤ a.2.2 ∧ Nat.gcd a.2.1.natAbs a.2.2.natAbs = 1) (fun _ H v H' => v = .bl true)
theorem c_isfrac (D : Df K mg "is_fraction" (top 34)) (B : Bl mg) (C : Cal P w K mg base 2 "are_integers" ["values"] spAreInts) : Cal P w K mg base 3 "is_fraction" ["value"] spIsFrac := by
  refine mkC D s19 (fun _ _ _ _ _ _ us hl => match us, hl with | [_], _ => rfl) (fun _ => rfl) (fun f cdv A outer s H a Q E hr h k => ?_)
  obtain ⟨p, x, y⟩ := a
  obtain ⟨h, hy, hg⟩ := h
  refine ⟨_, pss_cons (ps_if (PW.pt (pw_or (pt_not (pt_val (pe_isi (v := .ty "tuple") (by rfl) B.isinstance_ (pv 0) (by rfl) B.tuple_ PyProof.Rows.boot_tuple rfl)))
      (pw_or ((pt_cmpR op_ne ((pe_callB call_len_seq (by rfl) (Bl.len_ B) PySem.boot_len (pa_cons (pv 0) pa_nil))) pe_int (nomark _))) (pw_or1 (pt_not (pt_val (pe_cl C hr (pa_cons (pv 0) pa_nil)))))))) pss_nv pss_nil)
    (pss_cons (ps_asg (pv 0) (pg_tup rfl (pgs_cons ((pg_name (i := 1) (FnScope.nd s19) rfl (Or.inl rfl))) (pgs_cons ((pg_name (i := 2) (FnScope.nd s19) rfl (Or.inl rfl))) pgs_nil))))
    (pss_one (ps_ret (pe_and (pe_cmpR op_ge (pv 2) pe_int (nomark _)) (pe_one (pe_cmpR op_eq (pe_callBfun cr_gcd (by rfl) B.gcd_ (pa_cons (pv 1) (pa_cons (pv 2) pa_nil))) pe_int (nomark _))))))), ?_⟩
  have h0 : H p = some (.tup [.int x, .int y]) := h
  refine ⟨_, rfl, _, _, _, _, true, rfl, .ty _, .base (.tup h0), kit_ty (by decide +kernel), _, rfl, iteF ?_⟩
  refine ⟨_, rfl, p, _, rfl, .inr (SqT.of h0), rfl, _, rfl, iteF ?_⟩
  refine ⟨_, rfl, (p, x, y), rfl, h, ?_⟩
  rintro _ H1 s1 rfl
  refine ⟨_, rfl, iteF ?_⟩
  refine ⟨_, rfl, p, _, rfl, SqT.of (s1 _ _ h0), rfl, _, _, rfl, _, _, rfl, rfl, ?_⟩
  refine ⟨_, rfl, _, _, rfl, rfl, _, rfl, ?_⟩
  rw [decide_eq_true (show y ≥ 1 from hy)]
  refine iteT ⟨_, rfl, _, rfl, x, y, rfl, rfl, ?_⟩
  refine k _ _ s1 ?_
  rw [hg]
  rfl
theorem s21 : FnScope ["value"] ["value"] (defScope (top 36)) := (⟨rfl, rfl, rfl, by decide +kernel, rfl, by decide +kernel, by decide +kernel⟩)
abbrev spIsTerm : Sp := Prm (α := Int) (fun i => [.int i]) (fun i _ => -1000 ≤ i ∧ i ≤ 1000) (fun _ H v H' => v = .bl true ∧ H' = H)
theorem c_isterm (D : Df K mg "is_term" (top 36)) (B : Bl mg) (C : Cal P w K mg base 1 "is_integer" ["value"] spIsInt) : Cal P w K mg base 2 "is_term" ["value"] spIsTerm := by
  refine mkC D s21 (fun _ _ _ _ _ _ us hl => match us, hl with | [_], _ => rfl) (fun _ => rfl) (fun f cdv A outer s H i Q E hr h k => ?_)
  obtain ⟨t, ht⟩ := B.term_
  refine ⟨_, pss_one (ps_ret (pe_and (pe_cl C hr (pa_cons (pv 0) pa_nil)) (pe_one (pe_chain op_le op_le (pe_un un_neg (pe_glob (v := .int 1000) (by rfl) ht ⟨_, rfl⟩)) (pv 0) (pe_glob (v := .int 1000) (by rfl) ht ⟨_, rfl⟩))))), ?_⟩
  refine ⟨_, rfl, i, rfl, trivial, ?_⟩
  rintro _ _ - ⟨rfl, rfl⟩
  refine ⟨_, rfl, iteT ?_⟩
  refine ⟨_, rfl, _, rfl, _, _, rfl, rfl, _, rfl, ?_⟩
  rw [decide_eq_true (show -1000 ≤ i from h.1)]
  refine iteT ⟨_, _, rfl, rfl, k _ _ (Same.refl _) ⟨?_, rfl⟩⟩
  show V.bl (decide (i ≤ 1000)) = _
  rw [decide_eq_true h.2]
theorem s22 : FnScope ["equation", "at", "term", "last"] ["equation"] (defScope (top 37)) := (⟨rfl, rfl, rfl, by decide +kernel, rfl, by decide +kernel, by decide +kernel⟩)
abbrev spWrong : Sp := Prm (α := Addr × Int × Int) (fun a => [.ref a.1]) (fun a H => pre2 a H ∧ (-1000 ≤ a.2.1 ∧ a.2.1 ≤ 1000) ∧ (-1000 ≤ a.2.2 ∧ a.2.2 ≤ 1000) ∧ a.2.2 ≠ 0) (fun _ H v H' => v = .non)
theorem c_wrong (D : Df K mg "wrong_term" (top 37)) (B : Bl mg) (C : Cal P w K mg base 2 "is_term" ["value"] spIsTerm) : Cal P w K mg base 3 "wrong_term" ["equation"] spWrong := by
  refine mkC D s22 (fun _ _ _ _ _ _ us hl => match us, hl with | [_], _ => rfl) (fun _ => rfl) (fun f cdv A outer s H a Q E hr h k => ?_)
  obtain ⟨p, x, y⟩ := a
  obtain ⟨h, hx, hy, hz⟩ := h
  obtain ⟨t, ht⟩ := B.deg_
  refine ⟨_, pss_cons (ps_for PassesOwn.never rfl (pi_enumT (by rfl) B.enumerate_ (pa_cons (pv 0) pa_nil)) (pg_tup rfl (pgs_cons ((pg_name (i := 1) (FnScope.nd s22) rfl (Or.inl rfl))) (pgs_cons ((pg_name (i := 2) (FnScope.nd s22) rfl (Or.inl rfl))) pgs_nil)))
      (pss_one (ps_if (PW.pt (pw_or ((pt_cmpR op_gt (pv 1) (pe_glob (v := .int 5) (by rfl) ht ⟨_, rfl⟩) (nomark _))) (pw_or1 (pt_not (pt_val (pe_cl C hr (pa_cons (pv 2) pa_nil))))))) pss_nv pss_nil)))
    (pss_cons ((ps_set (i := 3) (FnScope.nd s22) rfl (Or.inl rfl) (pe_op op_sub ((pe_callB call_len_seq (by rfl) (Bl.len_ B) PySem.boot_len (pa_cons (pv 0) pa_nil))) pe_int)))
    (pss_one (ps_ret (pe_ifExp ((pt_cmpR op_eq ((pe_ix ix_tup (pv 0) (pv 3) (fun _ _ => rfl))) pe_int (nomark _))) pe_nv pe_non)))), ?_⟩
  have h0 : H p = some (.tup [.int x, .int y]) := h
  refine ⟨_, rfl, p, _, rfl, SqT.of h0, for_unrE (xs := [.int x, .int y]) ?_⟩
  refine ⟨SqT.of h0, fun T hT => ⟨T, _, rfl, SqT.of upd_same, rfl, _, _, rfl, _, _, rfl, rfl, ?_⟩⟩
  have s1 := same_new (o := .tup [.int (0 : Nat), .int x]) hT
  refine ⟨_, rfl, _, _, rfl, rfl, _, rfl, iteF ?_⟩
  refine ⟨_, rfl, x, rfl, hx, ?_⟩
  rintro _ _ - ⟨rfl, rfl⟩
  refine ⟨_, rfl, iteF ?_⟩
  have h1 := s1 _ _ h0
  refine ⟨SqT.of h1, fun T2 hT2 => ⟨T2, _, rfl, SqT.of upd_same, rfl, _, _, rfl, _, _, rfl, rfl, ?_⟩⟩
  have s2 := s1.trans (same_new (o := .tup [.int (1 : Nat), .int y]) hT2)
  refine ⟨_, rfl, _, _, rfl, rfl, _, rfl, iteF ?_⟩
  refine ⟨_, rfl, y, rfl, hy, ?_⟩
  rintro _ _ - ⟨rfl, rfl⟩
  refine ⟨_, rfl, iteF ?_⟩
  have h2 := s2 _ _ h0
  refine ⟨SqT.of h2, ?_⟩
  refine ⟨_, rfl, p, _, rfl, .inr (SqT.of h2), _, _, rfl, rfl, ?_⟩
  refine ⟨_, rfl, _, rfl, p, _, 1, .int y, rfl, rfl, SqT.of h2, atI_nat (j := 1) rfl, rfl, _, rfl, ?_⟩
  rw [dec_int, show (y == 0) = false from by simpa using hz]
  exact iteF (k _ _ s2 rfl)
end
end Xq

namespace Xq
open PySem PySem.Spec PyProof.Rows L2
def trimM (xs : List Int) : Nat → Nat
  | 0 => 0
  | m + 1 => if xs.getD m 0 = 0 then trimM xs m else m + 1
def trimI (xs : List Int) : List Int := xs.take (trimM xs xs.length)
theorem trimM_le (xs : List Int) : ∀ m, trimM xs m ≤ m
  | 0 => Nat.le_refl _
  | m + 1 => by
    unfold trimM
    split
    · exact Nat.le_succ_of_le (trimM_le xs m)
    · exact Nat.le_refl _
def gcdL (xs : List Int) : Nat := xs.foldl (fun g x => Nat.gcd g x.natAbs) 0
theorem gcdL_succ {xs : List Int} {i : Nat} {x : Int} (h : xs[i]? = some x) : gcdL (xs.take (i + 1)) = Nat.gcd (gcdL (xs.take i)) x.natAbs := by
  unfold gcdL
  rw [List.take_add_one, h, Option.toList_some, List.foldl_append]
  rfl
section
variable {P : Program} {w : World} {K : PySem.W.Frag} {mg : Str → Option Value} {base : Heap}
theorem s24 : FnScope ["terms", "many"] ["terms"] (defScope (top 11)) := (⟨rfl, rfl, rfl, by decide +kernel, rfl, by decide +kernel, by decide +kernel⟩)
/-- a list or a tuple of ints -/
def Sq (H : Hp) (p : Addr) (xs : List Int) : Prop := LI H p xs ∨ TI H p xs
theorem Sq.len {H : Hp} {p : Addr} {xs : List Int} (h : Sq H p xs) : SqL K H p (xs.map V.int) ∨ SqT K H p (xs.map V.int) := h.elim (fun q => .inl (SqL.of q)) (fun q => .inr (SqT.of q))
abbrev spTrim : Sp := Prm (α := Addr × List Int) (fun a => [.ref a.1]) (fun a H => Sq H a.1 a.2) (fun a H v H' => ∃ q, v = .ref q ∧ TI H' q (trimI a.2))
theorem c_trim (D : Df K mg "trimmed" (top 11)) (B : Bl mg) : Cal P w K mg base 1 "trimmed" ["terms"] spTrim := by
  refine mkC D s24 (fun _ _ _ _ _ _ us hl => match us, hl with | [_], _ => rfl) (fun _ => rfl) (fun f cdv A outer s H a Q E hr h k => ?_)
  obtain ⟨p, xs⟩ := a
  have len0 : SqL K H p (xs.map V.int) ∨ SqT K H p (xs.map V.int) := Sq.len h
  have cut : cutV (xs.map V.int) none (some (trimM xs xs.length : Nat)) = (trimI xs).map V.int := by
    have hl := trimM_le xs xs.length
    have e1 : HT.sIx (xs.map V.int).length 0 none = 0 := rfl
    have e2 : HT.sIx (xs.map V.int).length (xs.map V.int).length (some ((trimM xs xs.length : Nat) : Int)) = trimM xs xs.length := by
      rw [HT.sIx_nat, List.length_map]
      omega
    unfold cutV trimI
    rw [e1, e2, List.drop_zero, Nat.sub_zero, List.map_take]
  have stp : ∀ m : Nat, 0 < m → m ≤ xs.length → ∃ z, xs[m - 1]? = some z ∧ (xs.map V.int)[m - 1]? = some (V.int z) ∧ (z = 0 → trimM xs m = trimM xs (m - 1)) ∧ (z ≠ 0 → trimM xs m = m) := fun m h0 hm => by
    have hlt : m - 1 < xs.length := by omega
    refine ⟨xs[m - 1], List.getElem?_eq_getElem hlt, by rw [List.getElem?_map, List.getElem?_eq_getElem hlt]; rfl, fun hz => ?_, fun hz => ?_⟩
    · obtain ⟨n, rfl⟩ : ∃ n, m = n + 1 := ⟨m - 1, by omega⟩
      have e : xs.getD n 0 = 0 := by
        rw [List.getD_eq_getElem?_getD, List.getElem?_eq_getElem (show n < xs.length from hlt), Option.getD_some]
        exact hz
      show (if xs.getD n 0 = 0 then trimM xs n else n + 1) = trimM xs n
      rw [if_pos e]
    · obtain ⟨n, rfl⟩ : ∃ n, m = n + 1 := ⟨m - 1, by omega⟩
      have e : ¬ xs.getD n 0 = 0 := by
        rw [List.getD_eq_getElem?_getD, List.getElem?_eq_getElem (show n < xs.length from hlt), Option.getD_some]
        exact hz
      show (if xs.getD n 0 = 0 then trimM xs n else n + 1) = n + 1
      rw [if_neg e]
  rcases h with h | h
  · have hq : SqL K H p (xs.map V.int) := SqL.of h
    refine ⟨_, pss_cons ((ps_set (i := 1) (FnScope.nd s24) rfl (Or.inl rfl) ((pe_callB call_len_seq (by rfl) (Bl.len_ B) PySem.boot_len (pa_cons (pv 0) pa_nil)))))
      (pss_cons (ps_whB PassesOwn.never (PW.pt (pw_and ((pt_cmpR op_gt (pv 1) pe_int (nomark _))) (pw_and1 ((pt_cmpR op_eq ((pe_ix ix_list (pv 0) (pe_op op_sub (pv 1) pe_int) (fun _ _ => rfl))) pe_int (nomark _)))))) (pss_one (ps_aug (i := 1) s24.nd rfl (Or.inl rfl) pe_int ip_sub)))
      (pss_one (ps_ret (pe_callTy call_tuple_of (by rfl) B.tuple_ PyProof.Rows.boot_tuple (pa_cons (pe_slice sl_list (pv 0) po_none (po_some (pv 1))) pa_nil))))), ?_⟩
    refine ⟨_, rfl, p, _, rfl, len0, ?_⟩
    refine ⟨fun σ H' => H' = H ∧ ∃ m : Nat, σ = [some (.ref p), some (.int m)] ∧ m ≤ xs.length ∧ trimM xs m = trimM xs xs.length, fun σ _ => (match σ with | [_, some (.int m)] => m.toNat | _ => 0), ⟨rfl, xs.length, by rw [List.length_map]; rfl, Nat.le_refl _, rfl⟩, ?_⟩
    rintro σ H' ⟨rfl, m, rfl, hm, ht⟩
    have fin : m = 0 ∨ trimM xs m = m → Q (.ref p) H' ∨ True := fun _ => .inr trivial
    refine ⟨_, rfl, _, _, rfl, rfl, _, rfl, ?_⟩
    have done : trimM xs m = m → (tRet (tCB (fun xs H Q => ∃ p ys, xs = [.ref p] ∧ ((SqL K H p ys ∧ ∀ l, H l = none → Q (.ref l) (upd H l (.tup ys))) ∨ (SqT K H p ys ∧ Q (.ref p) H))) (tCons (tSl (rSlL K) (tVar 0) tNoPart (tPart (tVar 1))) tNil))) { nx := fun _ H' => Q .non H', rt := Q } [some (.ref p), some (.int m)] H' := fun e => by
      refine ⟨_, rfl, _, rfl, _, rfl, p, _, rfl, hq, fun q hq2 => ?_⟩
      have em : m = trimM xs xs.length := e.symm.trans ht
      subst em
      rw [cut]
      have s1 := same_new (o := .lst ((trimI xs).map V.int)) hq2
      refine ⟨q, _, rfl, .inl ⟨SqL.of upd_same, fun q3 hq3 => ?_⟩⟩
      exact k _ _ (Same.new s1 hq3) ⟨q3, rfl, upd_same⟩
    refine ite2 (fun hb => ?_) (fun hb => ?_)
    · have h0 : 0 < m := by
        have q : ((m : Int) > 0) := of_decide_eq_true hb
        omega
      obtain ⟨z, z1, z2, z3, z4⟩ := stp m h0 hm
      have em : ((m : Int) - 1) = ((m - 1 : Nat) : Int) := by omega
      refine ⟨_, rfl, _, rfl, _, _, rfl, rfl, p, _, _, .int z, rfl, rfl, hq, (by rw [em]; exact atI_nat z2), rfl, _, rfl, ?_⟩
      rw [dec_int]
      refine ite2 (fun hz => ?_) (fun hz => ?_)
      · refine ⟨_, rfl, _, _, rfl, rfl, ?_⟩
        refine ⟨⟨rfl, m - 1, by rw [← em]; rfl, by omega, by rw [← z3 (by simpa using hz)]; exact ht⟩, ?_⟩
        show ((m : Int) - 1).toNat < (m : Int).toNat
        omega
      · exact done (z4 (by simpa using hz))
    · have h0 : m = 0 := by
        have q : ¬ ((m : Int) > 0) := fun q => hb (decide_eq_true q)
        omega
      subst h0
      exact done rfl
  · have hq : SqT K H p (xs.map V.int) := SqT.of h
    refine ⟨_, pss_cons ((ps_set (i := 1) (FnScope.nd s24) rfl (Or.inl rfl) ((pe_callB call_len_seq (by rfl) (Bl.len_ B) PySem.boot_len (pa_cons (pv 0) pa_nil)))))
      (pss_cons (ps_whB PassesOwn.never (PW.pt (pw_and ((pt_cmpR op_gt (pv 1) pe_int (nomark _))) (pw_and1 ((pt_cmpR op_eq ((pe_ix ix_tup (pv 0) (pe_op op_sub (pv 1) pe_int) (fun _ _ => rfl))) pe_int (nomark _)))))) (pss_one (ps_aug (i := 1) s24.nd rfl (Or.inl rfl) pe_int ip_sub)))
      (pss_one (ps_ret (pe_callTy call_tuple_of (by rfl) B.tuple_ PyProof.Rows.boot_tuple (pa_cons (pe_slice sl_tupA (pv 0) po_none (po_some (pv 1))) pa_nil))))), ?_⟩
    refine ⟨_, rfl, p, _, rfl, len0, ?_⟩
    refine ⟨fun σ H' => H' = H ∧ ∃ m : Nat, σ = [some (.ref p), some (.int m)] ∧ m ≤ xs.length ∧ trimM xs m = trimM xs xs.length, fun σ _ => (match σ with | [_, some (.int m)] => m.toNat | _ => 0), ⟨rfl, xs.length, by rw [List.length_map]; rfl, Nat.le_refl _, rfl⟩, ?_⟩
    rintro σ H' ⟨rfl, m, rfl, hm, ht⟩
    refine ⟨_, rfl, _, _, rfl, rfl, _, rfl, ?_⟩
    have done : trimM xs m = m → (tRet (tCB (fun xs H Q => ∃ p ys, xs = [.ref p] ∧ ((SqL K H p ys ∧ ∀ l, H l = none → Q (.ref l) (upd H l (.tup ys))) ∨ (SqT K H p ys ∧ Q (.ref p) H))) (tCons (tSl (rSlA K) (tVar 0) tNoPart (tPart (tVar 1))) tNil))) { nx := fun _ H' => Q .non H', rt := Q } [some (.ref p), some (.int m)] H' := fun e => by
      have em : m = trimM xs xs.length := e.symm.trans ht
      refine ⟨_, rfl, _, rfl, _, rfl, p, _, rfl, hq, fun hw => ?_, fun hw q hq2 => ?_⟩
      · have e2 : HT.sIx (xs.map V.int).length (xs.map V.int).length (some (m : Int)) = (xs.map V.int).length := hw.2
        have hml : m = xs.length := by
          rw [HT.sIx_nat, List.length_map] at e2
          omega
        refine ⟨p, _, rfl, .inr ⟨hq, k _ _ (Same.refl _) ⟨p, rfl, ?_⟩⟩⟩
        have et : trimI xs = xs := by
          unfold trimI
          rw [← em, hml, List.take_length]
        show TI H' p (trimI xs)
        rw [et]
        exact h
      · subst em
        rw [cut]
        have s1 := same_new (o := .tup ((trimI xs).map V.int)) hq2
        exact ⟨q, _, rfl, .inr ⟨SqT.of upd_same, k _ _ s1 ⟨q, rfl, upd_same⟩⟩⟩
    refine ite2 (fun hb => ?_) (fun hb => ?_)
    · have h0 : 0 < m := by
        have q : ((m : Int) > 0) := of_decide_eq_true hb
        omega
      obtain ⟨z, z1, z2, z3, z4⟩ := stp m h0 hm
      have em : ((m : Int) - 1) = ((m - 1 : Nat) : Int) := by omega
      refine ⟨_, rfl, _, rfl, _, _, rfl, rfl, p, _, _, .int z, rfl, rfl, hq, (by rw [em]; exact atI_nat z2), rfl, _, rfl, ?_⟩
      rw [dec_int]
      refine ite2 (fun hz => ?_) (fun hz => ?_)
      · refine ⟨_, rfl, _, _, rfl, rfl, ?_⟩
        refine ⟨⟨rfl, m - 1, by rw [← em]; rfl, by omega, by rw [← z3 (by simpa using hz)]; exact ht⟩, ?_⟩
        show ((m : Int) - 1).toNat < (m : Int).toNat
        omega
      · exact done (z4 (by simpa using hz))
    · have h0 : m = 0 := by
        have q : ¬ ((m : Int) > 0) := fun q => hb (decide_eq_true q)
        omega
      subst h0
      exact done rfl
theorem s25 : FnScope ["terms", "common", "term"] ["terms"] (defScope (top 12)) := (⟨rfl, rfl, rfl, by decide +kernel, rfl, by decide +kernel, by decide +kernel⟩)
abbrev spGcd : Sp := Prm (α := Addr × List Int) (fun a => [.ref a.1]) (fun a H => Sq H a.1 a.2) (fun a H v H' => v = .int (gcdL a.2 : Nat) ∧ H' = H)
theorem c_gcd (D : Df K mg "common_divisor" (top 12)) (B : Bl mg) : Cal P w K mg base 1 "common_divisor" ["terms"] spGcd := by
  refine mkC D s25 (fun _ _ _ _ _ _ us hl => match us, hl with | [_], _ => rfl) (fun _ => rfl) (fun f cdv A outer s H a Q E hr h k => ?_)
  obtain ⟨p, xs⟩ := a
  have turn : ∀ (i : Nat) (x : V) (g : Nat), (xs.map V.int)[i]? = some x → ∃ z, xs[i]? = some z ∧ x = .int z := fun i x g hx => by
    rw [List.getElem?_map] at hx
    cases e : xs[i]? with
    | none => rw [e] at hx; cases hx
    | some z => rw [e] at hx; exact ⟨z, rfl, (Option.some.inj hx).symm⟩
  rcases h with h | h
  · have hq : SqL K H p (xs.map V.int) := SqL.of h
    refine ⟨_, pss_cons ((ps_set (i := 1) (FnScope.nd s25) rfl (Or.inl rfl) pe_int)) (pss_cons (ps_for PassesOwn.never rfl (pi_list (pv 0)) ((pg_name (i := 2) (FnScope.nd s25) rfl (Or.inl rfl)))
        (pss_one ((ps_set (i := 1) (FnScope.nd s25) rfl (Or.inl rfl) (pe_callBfun cr_gcd (by rfl) B.gcd_ (pa_cons (pv 1) (pa_cons (pv 2) pa_nil))))))) (pss_one (ps_ret (pv 1)))), ?_⟩
    refine ⟨_, rfl, p, rfl, ⟨_, hq⟩, for_list (xs := xs.map V.int) (fun i σ H' => H' = H ∧ ∃ z, σ = [some (.ref p), some (.int (gcdL (xs.take i) : Nat)), z]) ⟨rfl, none, rfl⟩ (fun i σ H' _ q => by rw [q.1]; exact hq) ?_ ?_⟩
    · rintro i x σ H' hx ⟨rfl, z, rfl⟩
      obtain ⟨y, hy, rfl⟩ := turn i x 0 hx
      refine ⟨_, rfl, _, rfl, _, _, rfl, ?_⟩
      refine ⟨rfl, some (.int y), ?_⟩
      rw [gcdL_succ hy]
      rfl
    · rintro σ H' ⟨rfl, z, rfl⟩
      refine ⟨_, rfl, k _ _ (Same.refl _) ⟨?_, rfl⟩⟩
      rw [List.length_map, List.take_length]
  · have hq : SqT K H p (xs.map V.int) := SqT.of h
    refine ⟨_, pss_cons ((ps_set (i := 1) (FnScope.nd s25) rfl (Or.inl rfl) pe_int)) (pss_cons (ps_for PassesOwn.never rfl (pi_tup (pv 0)) ((pg_name (i := 2) (FnScope.nd s25) rfl (Or.inl rfl)))
        (pss_one ((ps_set (i := 1) (FnScope.nd s25) rfl (Or.inl rfl) (pe_callBfun cr_gcd (by rfl) B.gcd_ (pa_cons (pv 1) (pa_cons (pv 2) pa_nil))))))) (pss_one (ps_ret (pv 1)))), ?_⟩
    refine ⟨_, rfl, p, rfl, ⟨_, hq⟩, for_tup (xs := xs.map V.int) (fun i σ H' => H' = H ∧ ∃ z, σ = [some (.ref p), some (.int (gcdL (xs.take i) : Nat)), z]) ⟨rfl, none, rfl⟩ (fun i σ H' _ q => by rw [q.1]; exact hq) ?_ ?_⟩
    · rintro i x σ H' hx ⟨rfl, z, rfl⟩
      obtain ⟨y, hy, rfl⟩ := turn i x 0 hx
      refine ⟨_, rfl, _, rfl, _, _, rfl, ?_⟩
      refine ⟨rfl, some (.int y), ?_⟩
      rw [gcdL_succ hy]
      rfl
    · rintro σ H' ⟨rfl, z, rfl⟩
      refine ⟨_, rfl, k _ _ (Same.refl _) ⟨?_, rfl⟩⟩
      rw [List.length_map, List.take_length]
theorem s26 : FnScope ["terms", "common", "term"] ["terms"] (defScope (top 13)) := (⟨rfl, rfl, rfl, by decide +kernel, rfl, by decide +kernel, by decide +kernel⟩)
/-- asked here of () alone -/
abbrev spPrim : Sp := Prm (α := Addr) (fun a => [.ref a]) (fun a H => TI H a []) (fun a H v H' => v = .ref a ∧ H' = H)
theorem c_prim (D : Df K mg "primitive" (top 13)) (B : Bl mg) (C : Cal P w K mg base 1 "common_divisor" ["terms"] spGcd) : Cal P w K mg base 2 "primitive" ["terms"] spPrim := by
  refine mkC D s26 (fun _ _ _ _ _ _ us hl => match us, hl with | [_], _ => rfl) (fun _ => rfl) (fun f cdv A outer s H p Q E hr h k => ?_)
  refine ⟨_, pss_cons (ps_set (i := 1) s26.nd rfl (Or.inr rfl) (pe_cl C hr (pa_cons (pv 0) pa_nil))) (pss_one (ps_ret (pe_ifExp ((pt_cmpR op_gt (pv 1) pe_int (nomark _))) pe_nv (pv 0)))), ?_⟩
  refine ⟨_, rfl, (p, []), rfl, .inr h, ?_⟩
  rintro _ _ - ⟨rfl, rfl⟩
  exact ⟨_, rfl, _, _, rfl, rfl, _, rfl, iteF ⟨_, rfl, k _ _ (Same.refl _) ⟨rfl, rfl⟩⟩⟩
theorem s27 : FnScope ["terms", "term"] ["terms"] (defScope (top 14)) := (⟨rfl, rfl, rfl, by decide +kernel, rfl, by decide +kernel, by decide +kernel⟩)
abbrev spNeg : Sp := Prm (α := Addr × List Int) (fun a => [.ref a.1]) (fun a H => TI H a.1 a.2 ∧ a.2.length ≤ 1) (fun a H v H' => ∃ q, v = .ref q ∧ TI H' q (a.2.map fun x => -x))
theorem c_neg (D : Df K mg "negative" (top 14)) (B : Bl mg) : Cal P w K mg base 1 "negative" ["terms"] spNeg := by
  refine mkC D s27 (fun _ _ _ _ _ _ us hl => match us, hl with | [_], _ => rfl) (fun _ => rfl) (fun f cdv A outer s H a Q E hr h k => ?_)
  obtain ⟨p, xs⟩ := a
  obtain ⟨h, hl⟩ := h
  refine ⟨_, pss_one (ps_ret (pe_callTy call_tuple_of (by rfl) B.tuple_ PyProof.Rows.boot_tuple (pa_cons (pe_lc (own := [("term", 1)]) (g := gName 1) (tt := tYes) (te := tUn (rU fun i => .int (-i)) (tVar 1)) rfl s27.nd (pi_tup (pv 0))
      (blkOk_by (N := ["terms", "term"]) (sc := defScope (top 14)) (by decide +kernel)) (fun _ _ _ _ _ => (pg_name (i := 1) (FnScope.nd s27) rfl (Or.inl rfl))) (fun _ _ _ _ _ => pts_nil)
      (fun _ _ _ _ _ => pe_un un_neg (pv 1))) pa_nil))), ?_⟩
  have hq : SqT K H p (xs.map V.int) := SqT.of h
  refine ⟨_, rfl, p, rfl, ⟨_, hq⟩, fun D hD => lc_yes (G := fun H => SqT K H p (xs.map V.int)) (xs := xs.map V.int) walk_tup ?_⟩
  have s1 := same_new (o := .lst []) hD
  have fin : ∀ ys : List Int, ys = xs.map (fun x => -x) → ∀ q, upd H D (.lst (ys.map V.int)) q = none → Q (.ref q) (upd (upd H D (.lst (ys.map V.int))) q (.tup (ys.map V.int))) := fun ys e q hq => by
    refine k _ _ (Same.new (same_new hD) hq) ⟨q, rfl, ?_⟩
    rw [← e]
    exact upd_same
  rcases xs with _ | ⟨x, _ | ⟨y, t⟩⟩
  · refine ⟨SqT.of (s1 _ _ h), D, [], rfl, .inl ⟨SqL.of upd_same, fun q hq => ?_⟩⟩
    exact fin [] rfl q hq
  · refine ⟨SqT.of (s1 _ _ h), rfl, _, rfl, x, rfl, _, upd_same, by decide, ?_⟩
    rw [upd_upd]
    have s2 := same_new (o := .lst [.int (-x)]) hD
    refine ⟨SqT.of (s2 _ _ h), D, [.int (-x)], rfl, .inl ⟨SqL.of upd_same, fun q hq => ?_⟩⟩
    exact fin [-x] rfl q hq
  · exact absurd (show t.length + 1 + 1 ≤ 1 from hl) (by omega)
theorem s28 : FnScope ["terms", "at"] ["terms"] (defScope (top 15)) := (⟨rfl, rfl, rfl, by decide +kernel, rfl, by decide +kernel, by decide +kernel⟩)
abbrev spDer : Sp := Prm (α := Addr × Int × Int) (fun a => [.ref a.1]) pre2 (fun a H v H' => ∃ q, v = .ref q ∧ TI H' q [a.2.2])
theorem c_der (D : Df K mg "derivative" (top 15)) (B : Bl mg) : Cal P w K mg base 1 "derivative" ["terms"] spDer := by
  refine mkC D s28 (fun _ _ _ _ _ _ us hl => match us, hl with | [_], _ => rfl) (fun _ => rfl) (fun f cdv A outer s H a Q E hr h k => ?_)
  obtain ⟨p, x, y⟩ := a
  have h0 : H p = some (.tup [.int x, .int y]) := h
  refine ⟨_, pss_one (ps_ret (pe_callTy call_tuple_of (by rfl) B.tuple_ PyProof.Rows.boot_tuple (pa_cons (pe_lc (own := [("at", 1)]) (g := gName 1) (tt := tYes) (te := tOp (rI CMul fun i j => .int (i * j)) (tVar 1) (tOp (rIxT K) (tVar 0) (tVar 1))) rfl s28.nd
      (pi_range2 (by rfl) B.range_ (pa_cons pe_int (pa_cons ((pe_callB call_len_seq (by rfl) (Bl.len_ B) PySem.boot_len (pa_cons (pv 0) pa_nil))) pa_nil)))
      (blkOk_by (N := ["terms", "at"]) (sc := defScope (top 15)) (by decide +kernel)) (fun _ _ _ _ _ => (pg_name (i := 1) (FnScope.nd s28) rfl (Or.inl rfl))) (fun _ _ _ _ _ => pts_nil)
      (fun _ _ _ _ _ => pe_op op_mul (pv 1) ((pe_ix ix_tup (pv 0) (pv 1) (fun _ _ => rfl))))) pa_nil))), ?_⟩
  refine ⟨_, rfl, p, _, rfl, .inr (SqT.of h0), _, _, rfl, ⟨by decide, by decide, (by show -2 ^ 62 ≤ (2 : Int); decide), (by show (2 : Int) < 2 ^ 62; decide)⟩, fun D hD => lc_range (lo := 1) (n := 1) (fun i H' => (i = 0 ∧ H' = upd H D (.lst [])) ∨ (i = 1 ∧ H' = upd H D (.lst [.int y]))) (.inl ⟨rfl, rfl⟩) ?_ ?_⟩
  · rintro i H' hi (⟨rfl, rfl⟩ | ⟨rfl, rfl⟩)
    · have s1 := same_new (o := .lst []) hD
      refine ⟨rfl, ?_⟩
      simp only [tYes, if_true]
      refine ⟨_, rfl, _, rfl, _, rfl, p, _, _, .int y, rfl, rfl, SqT.of (s1 _ _ h0), atI_nat (j := 1) rfl, _, _, rfl, rfl, .inl ⟨by decide, by decide⟩, _, upd_same, by decide, .inr ⟨trivial, ?_⟩⟩
      rw [upd_upd]
      show upd H D (.lst [.int (1 * y)]) = _
      rw [Int.one_mul]
    · exact absurd hi (by decide)
  · rintro H' (⟨e, _⟩ | ⟨_, rfl⟩)
    · cases e
    · have s1 := same_new (o := .lst [.int y]) hD
      exact ⟨D, [.int y], rfl, .inl ⟨SqL.of upd_same, fun q hq => k _ _ (Same.new s1 hq) ⟨q, rfl, upd_same⟩⟩⟩
end
end Xq

/-! Polynomials of any degree: what negative, primitive, derivative do to any list of ints. -/
namespace Xq
open PySem PySem.Spec PyProof.Rows L2
section
variable {P : Program} {w : World} {K : PySem.W.Frag} {mg : Str → Option Value} {base : Heap}
theorem at_map {xs : List Int} {i : Nat} {x : V} (h : (xs.map V.int)[i]? = some x) : ∃ z, xs[i]? = some z ∧ x = .int z := by
  rw [List.getElem?_map] at h
  cases e : xs[i]? with
  | none => rw [e] at h; cases h
  | some z => rw [e] at h; exact ⟨z, rfl, (Option.some.inj h).symm⟩
theorem take_map {f : Int → Int} {xs : List Int} {i : Nat} {z : Int} (h : xs[i]? = some z) : ((xs.take (i + 1)).map f).map V.int = ((xs.take i).map f).map V.int ++ [V.int (f z)] := by
  rw [List.take_succ, h]
  simp
theorem sz_lt {n : Nat} (h : n ≤ 1000) : n < sizeLine := Nat.lt_of_le_of_lt h (by decide)
abbrev spNegG : Sp := Prm (α := Addr × List Int) (fun a => [.ref a.1]) (fun a H => TI H a.1 a.2 ∧ a.2.length ≤ 1000) (fun a H v H' => ∃ q, v = .ref q ∧ TI H' q (a.2.map fun x => -x))
theorem c_negG (D : Df K mg "negative" (top 14)) (B : Bl mg) : Cal P w K mg base 1 "negative" ["terms"] spNegG := by
  refine mkC D s27 (fun _ _ _ _ _ _ us hl => match us, hl with | [_], _ => rfl) (fun _ => rfl) (fun f cdv A outer s H a Q E hr h k => ?_)
  obtain ⟨p, xs⟩ := a
  obtain ⟨h, hl⟩ := h
  have hl : xs.length ≤ 1000 := hl
  refine ⟨_, pss_one (ps_ret (pe_callTy call_tuple_of (by rfl) B.tuple_ PyProof.Rows.boot_tuple (pa_cons (pe_lc (own := [("term", 1)]) (g := gName 1) (tt := tYes) (te := tUn (rU fun i => .int (-i)) (tVar 1)) rfl s27.nd (pi_tup (pv 0))
      (blkOk_by (N := ["terms", "term"]) (sc := defScope (top 14)) (by decide +kernel)) (fun _ _ _ _ _ => (pg_name (i := 1) (FnScope.nd s27) rfl (Or.inl rfl))) (fun _ _ _ _ _ => pts_nil)
      (fun _ _ _ _ _ => pe_un un_neg (pv 1))) pa_nil))), ?_⟩
  have h0 : H p = some (.tup (xs.map V.int)) := h
  have hq : SqT K H p (xs.map V.int) := SqT.of h
  refine ⟨_, rfl, p, rfl, ⟨_, hq⟩, fun D hD => lc_tup (xs := xs.map V.int) (fun i H' => H' = upd H D (.lst (((xs.take i).map fun x => -x).map V.int))) rfl (fun i H' _ e => by rw [e]; exact SqT.of ((same_new hD) _ _ h0)) (fun i x H' hx e => ?_) (fun H' e => ?_)⟩
  · subst e
    obtain ⟨z, hz, rfl⟩ := at_map hx
    refine ⟨rfl, ?_⟩
    simp only [tYes, if_true]
    refine ⟨_, rfl, _, rfl, _, upd_same, ?_, ?_⟩
    · rw [List.length_map, List.length_map, List.length_take]
      exact sz_lt (by omega)
    · rw [upd_upd, take_map hz]
  · subst e
    rw [List.length_map, List.take_length]
    refine ⟨D, _, rfl, .inl ⟨SqL.of upd_same, fun q hq2 => k _ _ (Same.new (same_new hD) hq2) ⟨q, rfl, upd_same⟩⟩⟩
/-- divided by the common divisor where it is above 1 -/
def primL (xs : List Int) : List Int := if 1 < (gcdL xs : Nat) then xs.map (fun x => Int.fdiv x (gcdL xs : Nat)) else xs
def derL (xs : List Int) : List Int := (List.range (xs.length - 1)).map fun i => ((1 + i : Nat) : Int) * xs.getD (1 + i) 0
abbrev spDerG : Sp := Prm (α := Addr × List Int) (fun a => [.ref a.1]) (fun a H => TI H a.1 a.2 ∧ 1 ≤ a.2.length ∧ a.2.length ≤ 1000) (fun a H v H' => ∃ q, v = .ref q ∧ TI H' q (derL a.2))
theorem c_derG (D : Df K mg "derivative" (top 15)) (B : Bl mg) : Cal P w K mg base 1 "derivative" ["terms"] spDerG := by
  refine mkC D s28 (fun _ _ _ _ _ _ us hl => match us, hl with | [_], _ => rfl) (fun _ => rfl) (fun f cdv A outer s H a Q E hr h k => ?_)
  obtain ⟨p, xs⟩ := a
  obtain ⟨h, h1, hl⟩ := h
  have hl : xs.length ≤ 1000 := hl
  have h1 : 1 ≤ xs.length := h1
  have h0 : H p = some (.tup (xs.map V.int)) := h
  refine ⟨_, pss_one (ps_ret (pe_callTy call_tuple_of (by rfl) B.tuple_ PyProof.Rows.boot_tuple (pa_cons (pe_lc (own := [("at", 1)]) (g := gName 1) (tt := tYes) (te := tOp (rI CMul fun i j => .int (i * j)) (tVar 1) (tOp (rIxT K) (tVar 0) (tVar 1))) rfl s28.nd
      (pi_range2 (by rfl) B.range_ (pa_cons pe_int (pa_cons ((pe_callB call_len_seq (by rfl) (Bl.len_ B) PySem.boot_len (pa_cons (pv 0) pa_nil))) pa_nil)))
      (blkOk_by (N := ["terms", "at"]) (sc := defScope (top 15)) (by decide +kernel)) (fun _ _ _ _ _ => (pg_name (i := 1) (FnScope.nd s28) rfl (Or.inl rfl))) (fun _ _ _ _ _ => pts_nil)
      (fun _ _ _ _ _ => pe_op op_mul (pv 1) ((pe_ix ix_tup (pv 0) (pv 1) (fun _ _ => rfl))))) pa_nil))), ?_⟩
  have en : (((xs.map V.int).length : Int) - 1).toNat = xs.length - 1 := by
    rw [List.length_map]
    omega
  refine ⟨_, rfl, p, _, rfl, .inr (SqT.of h0), _, _, rfl, ⟨by decide, by decide, (by show -2 ^ 62 ≤ (((xs.map V.int).length : Nat) : Int); rw [List.length_map]; omega), (by show (((xs.map V.int).length : Nat) : Int) < 2 ^ 62; rw [List.length_map]; omega)⟩, fun D hD => ?_⟩
  rw [en]
  refine lc_range (lo := 1) (fun i H' => H' = upd H D (.lst (((List.range i).map fun i => ((1 + i : Nat) : Int) * xs.getD (1 + i) 0).map V.int))) rfl (fun i H' hi e => ?_) (fun H' e => ?_)
  · subst e
    have s1 := same_new (o := .lst (((List.range i).map fun i => ((1 + i : Nat) : Int) * xs.getD (1 + i) 0).map V.int)) hD
    have hlt : 1 + i < xs.length := by omega
    have ex : (xs.map V.int)[1 + i]? = some (V.int (xs.getD (1 + i) 0)) := by
      rw [List.getElem?_map, List.getElem?_eq_getElem hlt, List.getD_eq_getElem?_getD, List.getElem?_eq_getElem hlt]
      rfl
    refine ⟨rfl, ?_⟩
    simp only [tYes, if_true]
    have ei : ((1 : Int) + (i : Int)) = ((1 + i : Nat) : Int) := by omega
    refine ⟨_, rfl, _, rfl, _, rfl, p, _, _, .int (xs.getD (1 + i) 0), rfl, rfl, SqT.of (s1 _ _ h0), (by rw [ei]; exact atI_nat ex), _, _, rfl, rfl, .inl ⟨by omega, by omega⟩, _, upd_same, ?_, ?_⟩
    · rw [List.length_map, List.length_map, List.length_range]
      exact sz_lt (by omega)
    · rw [upd_upd, List.range_succ, List.map_append, List.map_append, ei]
      rfl
  · subst e
    refine ⟨D, _, rfl, .inl ⟨SqL.of upd_same, fun q hq2 => k _ _ (Same.new (same_new hD) hq2) ⟨q, rfl, upd_same⟩⟩⟩
abbrev spPrimG : Sp := Prm (α := Addr × List Int) (fun a => [.ref a.1]) (fun a H => TI H a.1 a.2 ∧ a.2.length ≤ 1000) (fun a H v H' => ∃ q, v = .ref q ∧ TI H' q (primL a.2))
end
end Xq

/-! t[::-1], t of any length. -/
namespace Xq
open PySem PySem.Spec PyProof.Rows L2
theorem rev_pick {α : Type} (l : List α) : ((List.range l.length).filterMap fun (m : Nat) => l.toArray[((((l.length : Nat) : Int) - 1) + (m : Int) * (-1)).toNat]?) = l.reverse := by
  have e : ∀ k, k ≤ l.length → ((List.range k).filterMap fun (m : Nat) => l.toArray[((((l.length : Nat) : Int) - 1) + (m : Int) * (-1)).toNat]?) = l.reverse.take k := by
    intro k
    induction k with
    | zero => intro _; rfl
    | succ k ih =>
      intro hk
      have hlt : k < l.reverse.length := by rw [List.length_reverse]; omega
      have en : ((((l.length : Nat) : Int) - 1) + (k : Int) * (-1)).toNat = l.length - 1 - k := by omega
      rw [List.range_succ, List.filterMap_append, ih (by omega), List.take_succ, List.getElem?_eq_getElem hlt]
      have ex : l.toArray[((((l.length : Nat) : Int) - 1) + (k : Int) * (-1)).toNat]? = some l.reverse[k] := by
        rw [en, List.getElem?_toArray, List.getElem_reverse, List.getElem?_eq_getElem (by omega)]
      simp only [List.filterMap_cons, List.filterMap_nil, ex, Option.toList]
  rw [e _ (Nat.le_refl _), ← List.length_reverse, List.take_length]
section
variable {prog : Program} {w : World} {A : Around} {E : Value → Shared → Prop} {s : Shared}
theorem rev_placesG (n : Nat) (hn : 1 ≤ n) : Builtin.Slice.sliceAdjust none none (-1) (n : Int) = ((n : Int) - 1, -1) ∧ Builtin.Slice.slicePlaces ((n : Int) - 1) (-1) (-1) = n := by
  refine ⟨?_, ?_⟩
  · unfold Builtin.Slice.sliceAdjust
    simp
  · unfold Builtin.Slice.slicePlaces
    simp
    omega
theorem sliceApplied_revG {sl : Addr} {vl vu vs : Value} {n : Nat} {Q : Int × Int × Nat → Shared → Prop} (hn : 1 ≤ n) (hs : s.heap.IsSliceOf sl vl vu vs) (pl : IsPart vl none) (pu : IsPart vu none) (ps : IsPart vs (some (-1)))
    (h : Q ((n : Int) - 1, -1, n) s) : wpAny (model prog w) A (Builtin.Slice.sliceApplied (.ref sl) (pure (n : Int))) Q E s := by
  obtain ⟨os, hos, hcs, hds⟩ := id hs
  unfold Builtin.Slice.sliceApplied Builtin.Slice.sliceFields
  refine wpAny_bind (wpAny_bind (wpAny_field hos hds (x := vl) rfl (wpAny_bind (wpAny_field hos hds (x := vu) rfl (wpAny_bind (wpAny_field hos hds (x := vs) rfl (wpAny_pure ?_)))))))
  refine wpAny_bind (HT.slicePart_ ps ?_)
  show wpAny _ _ (if ((-1 : Int) == 0) = true then _ else _) _ _ s
  rw [if_neg (by decide)]
  refine wpAny_bind (HT.slicePart_ pl (wpAny_bind (HT.slicePart_ pu (wpAny_bind (wpAny_pure ?_)))))
  show wpAny _ _ (match Builtin.Slice.sliceAdjust none none (-1) (n : Int) with | (lo, hi) => pure (lo, (-1 : Int), Builtin.Slice.slicePlaces lo hi (-1))) _ _ s
  rw [(rev_placesG n hn).1]
  show wpAny _ _ (pure ((n : Int) - 1, (-1 : Int), Builtin.Slice.slicePlaces ((n : Int) - 1) (-1) (-1))) _ _ s
  rw [(rev_placesG n hn).2]
  exact wpAny_pure h
theorem getItem_tuple_revG {t sl : Addr} {l : List Value} {vl vu vs : Value} {Q : Value → Shared → Prop} (hn : 1 ≤ l.length) (hm : l.length ≤ 1000) (ht : IsTup s.heap t l.toArray) (hs : s.heap.IsSliceOf sl vl vu vs) (pl : IsPart vl none) (pu : IsPart vu none) (ps : IsPart vs (some (-1)))
    (h : Q (.ref s.heap.objs.size) { s with heap := s.heap.push { cls := .type "tuple", data := .seq l.reverse.toArray } }) : wpAny (model prog w) A (getItem (.ref t) (.ref sl)) Q E s := by
  have htake : sizeOk (.seq l.reverse.toArray) := by
    show l.reverse.toArray.size ≤ sizeLine
    rw [List.size_toArray, List.length_reverse]
    have : 1000 ≤ sizeLine := by decide
    omega
  obtain ⟨os, hos, hcs, hds⟩ := id hs
  have hTs : s.TypeIs (.ref sl) "slice" := ⟨os, hos, hcs⟩
  unfold getItem
  try with_reducible refine wpAny_holding ?_
  first | refine wpAny_bind (wpAny_pure ?_) | skip
  refine wpAny_bind (wpAny_sequenceKey ht.typeIs (by decide) ?_)
  refine wpAny_bind (wpAny_callSpecial?_slot (name := Str.ofString "__getitem__") ht.typeIs PyProof.Rows.slot_tuple_getitem
    (wpAny_call_entry PyProof.Rows.slot_tuple_getitem ht.typeIs entry_tuple_getitem ?_ (args_tuple_getitem _ _)))
  show wpAny _ _ (Builtin.Tuple.tupleItemsOf (.ref t) >>= _) _ _ s
  refine wpAny_bind (tupleItemsOf_ ht ?_)
  refine wpAny_bind (wpAny_typeOf hTs ?_)
  rw [if_pos (by decide)]
  refine wpAny_bind (sliceApplied_revG (n := l.toArray.size) (by rw [List.size_toArray]; exact hn) hs pl pu ps ?_)
  have hno : ¬ ((((l.toArray.size : Nat) : Int) - 1 == 0 && (-1 : Int) == 1 && l.toArray.size == l.toArray.size) = true) := by
    intro q
    rw [Bool.and_eq_true, Bool.and_eq_true] at q
    exact absurd q.1.2 (by decide)
  show wpAny _ _ (if (((l.toArray.size : Nat) : Int) - 1 == 0 && (-1 : Int) == 1 && l.toArray.size == l.toArray.size) = true then _ else _) _ _ s
  rw [if_neg hno]
  have pick : ((List.range l.toArray.size).filterMap fun (m : Nat) => l.toArray[((((l.toArray.size : Nat) : Int) - 1) + (m : Int) * (-1)).toNat]?).toArray = l.reverse.toArray := by
    rw [List.size_toArray]
    exact congrArg List.toArray (rev_pick l)
  rw [pick]
  first
    | exact wpAny_bind (m := Builtin.Tuple.tupleExact _) (wpAny_newObj_type (wpAny_pure ⟨_, rfl, wpAny_pure h⟩) htake)
    | exact wpAny_bind (m := Builtin.Tuple.tupleExact _) (wpAny_newObj_type (wpAny_bind (wpAny_pure (wpAny_pure ⟨_, rfl, wpAny_pure h⟩))) htake)
    | exact wpAny_bind (wpAny_bind (m := Builtin.Tuple.tupleExact _) (wpAny_newObj_type (wpAny_pure (wpAny_pure ⟨_, rfl, wpAny_pure h⟩)) htake))
    | exact wpAny_bind (wpAny_bind (m := Builtin.Tuple.tupleExact _) (wpAny_newObj_type (wpAny_pure ⟨_, rfl, wpAny_pure h⟩) htake))
end
/-- t[::-1], t of one at least -/
def tRevG (K : PySem.W.Frag) (te : TE) : TE := fun σ H Q => te σ H fun x H1 => ∃ a xs, x = .ref a ∧ SqT K H1 a xs ∧ (1 ≤ xs.length ∧ xs.length ≤ 1000) ∧ ∀ p, H1 p = none → Q (.ref p) (upd H1 p (.tup xs.reverse))
theorem pe_revG {X : Cx} {e : Expr} {te : TE} {k : Nat} {p1 p2 p3 pos : Pos} (he : PE X e te) : PE X (.Subscript e (.Slice none none (some (.UnaryOp .USub (.Constant (.int 1) k p1) p2)) p3) pos) (tRevG X.K te) := by
  refine ⟨fun pins s σ H Q I h => ?_⟩
  refine Subscript_ (thn (he.run pins s σ H _ I h) fun v s1 ⟨x, H1, I1, r1, q1⟩ => ?_)
  obtain ⟨a, xs, ex, hx, hl, q⟩ := q1
  subst ex
  cases r1
  have hst : PO X (some (.UnaryOp .USub (.Constant (.int 1) k p1) p2)) (tPart (tUn (rU fun i => .int (-i)) (tC (.int 1)))) := po_some (pe_un un_neg pe_int)
  refine wpAny_Slice (thn (po_none.run pins s1 σ H1 (fun o H2 => o = none ∧ H2 = H1) I1 ⟨rfl, rfl⟩) fun vl s2 ⟨l, H2, I2, pl, el, e2⟩ => ?_)
  subst el e2
  refine thn (po_none.run pins s2 σ H2 (fun o H3 => o = none ∧ H3 = H2) I2 ⟨rfl, rfl⟩) fun vu s3 ⟨u, H3, I3, pu, eu, e3⟩ => ?_
  subst eu e3
  refine thn (hst.run pins s3 σ H3 (fun o H4 => o = some (-1) ∧ H4 = H3) I3 ⟨1, rfl, -1, rfl, rfl, rfl⟩) fun vs s4 ⟨o, H4, I4, ps, eo, e4⟩ => ?_
  subst eo e4
  have I5 : Inv X pins σ H4 { s4 with heap := s4.heap.push { cls := .type "slice", data := .fields #[vl, vu, vs] } } := I4.kept (t' := s4.toks) fun b ob q => Heap.get?_push_of_some _ q
  obtain ⟨its, r, ht, hz⟩ := I5.tuple hx
  have hlen := r.length
  show wpAny (model X.prog X.w) X.A (subscriptTail e (.Slice none none (some (.UnaryOp .USub (.Constant (.int 1) k p1) p2)) p3) (.ref a) (.ref s4.heap.objs.size)) (EP X pins σ Q) X.xe { s4 with heap := s4.heap.push { cls := .type "slice", data := .fields #[vl, vu, vs] } }
  refine tail_any (ops := [.ref a, .ref s4.heap.objs.size]) ht.typeIs (PyProof.Rows.slot_tuple_getitem.lookup) ?_ (by with_unfolding_all rfl)
  refine getItem_tuple_revG (by rw [← hlen]; exact hl.1) (by rw [← hlen]; exact hl.2) ht (Heap.IsSliceOf.new _ vl vu vs) pl pu ps ?_
  refine ⟨.ref _, _, I5.laid (t' := s4.toks) (o := .tup xs.reverse) (fun b ob q => Heap.get?_push_of_some _ q) (Nat.le_refl _) ?_, rfl, q _ (I5.hok.fresh (Nat.le_refl _))⟩
  exact ⟨by rw [List.length_reverse]; exact hz, _, r.reverse, IsTup.new _ _⟩

end Xq

/-! Polynomials of any degree: primitive, value_at. -/
namespace Xq
open PySem PySem.Spec PyProof.Rows L2
/-! ### how great -/
abbrev Sm (n : Nat) (i : Int) : Prop := i.natAbs < 2 ^ n
theorem sm_mul {i j : Int} {a b : Nat} (ha : Sm a i) (hb : Sm b j) : Sm (a + b) (i * j) := wide_lt ha hb
theorem sm_le {i : Int} {a b : Nat} (ha : Sm a i) (h : a ≤ b) : Sm b i := Nat.lt_of_lt_of_le ha (Nat.pow_le_pow_right (by decide) h)
theorem cm {i j : Int} {a b : Nat} (ha : Sm a i) (hb : Sm b j) (h0 : 0 < a := by decide) (h1 : 0 < b := by decide) (h : a + b ≤ 1000000 := by decide) : CMulW i j := wide_mul ha hb h0 h1 h
theorem iop_mulW {X : Cx} : OpR X (inplaceOp .Mult) (rI CMulW fun i j => .int (i * j)) := opI fun _ _ _ _ _ _ _ hc q => imul_int q hc.ok
section
variable {P : Program} {w : World} {K : PySem.W.Frag} {mg : Str → Option Value} {base : Heap}
theorem log_lt {n a : Nat} (h : n < 2 ^ a) (h0 : 0 < a) : n.log2 < a := by
  by_cases e : n = 0
  · subst e
    simpa using h0
  · exact (Nat.log2_lt e).mpr h
theorem c_primG (D : Df K mg "primitive" (top 13)) (B : Bl mg) (C : Cal P w K mg base 1 "common_divisor" ["terms"] spGcd) : Cal P w K mg base 2 "primitive" ["terms"] (Prm (α := Addr × List Int) (fun a => [.ref a.1]) (fun a H => TI H a.1 a.2 ∧ a.2.length ≤ 1000 ∧ Sm 9000 (gcdL a.2 : Nat)) (fun a H v H' => ∃ q, v = .ref q ∧ TI H' q (primL a.2))) := by
  refine mkC D s26 (fun _ _ _ _ _ _ us hl => match us, hl with | [_], _ => rfl) (fun _ => rfl) (fun f cdv A outer s H a Q E hr h k => ?_)
  obtain ⟨p, xs⟩ := a
  obtain ⟨h, hl, hb⟩ := h
  have hl : xs.length ≤ 1000 := hl
  have hb : Sm 9000 ((gcdL xs : Nat) : Int) := hb
  have h0 : H p = some (.tup (xs.map V.int)) := h
  refine ⟨_, pss_cons (ps_set (i := 1) s26.nd rfl (Or.inr rfl) (pe_cl C hr (pa_cons (pv 0) pa_nil))) (pss_one (ps_ret (pe_ifExp ((pt_cmpR op_gt (pv 1) pe_int (nomark _)))
    (pe_callTy call_tuple_of (by rfl) B.tuple_ PyProof.Rows.boot_tuple (pa_cons (pe_lc (own := [("term", 2)]) (g := gName 2) (tt := tYes) (te := tOp (rI CDivX fun i j => .int (i.fdiv j)) (tVar 2) (tVar 1)) rfl s26.nd (pi_tup (pv 0))
      (blkOk_by (N := ["terms", "common", "term"]) (sc := defScope (top 13)) (by decide +kernel)) (fun _ _ _ _ _ => (pg_name (i := 2) (FnScope.nd s26) rfl (Or.inl rfl))) (fun _ _ _ _ _ => pts_nil)
      (fun _ _ _ _ _ => pe_op op_fdivX (pv 2) (pv 1))) pa_nil)) (pv 0)))), ?_⟩
  refine ⟨_, rfl, (p, xs), rfl, .inr h, ?_⟩
  rintro _ H - ⟨rfl, rfl⟩
  refine ⟨_, rfl, _, _, rfl, rfl, _, rfl, ?_⟩
  by_cases hg : 1 < gcdL xs
  · rw [decide_eq_true (show ((gcdL xs : Nat) : Int) > 1 by omega)]
    have hq : SqT K H p (xs.map V.int) := SqT.of h
    have cd : CDivX 0 ((gcdL xs : Nat) : Int) := ⟨by omega, log_lt hb (by decide)⟩
    refine iteT ⟨_, rfl, p, rfl, ⟨_, hq⟩, fun D hD => lc_tup (xs := xs.map V.int) (fun i H' => H' = upd H D (.lst (((xs.take i).map fun x => Int.fdiv x (gcdL xs : Nat)).map V.int))) rfl (fun i H' _ e => by rw [e]; exact SqT.of ((same_new hD) _ _ h0)) (fun i x H' hx e => ?_) (fun H' e => ?_)⟩
    · subst e
      obtain ⟨z, hz, rfl⟩ := at_map hx
      refine ⟨rfl, ?_⟩
      simp only [tYes, if_true]
      refine ⟨_, rfl, _, rfl, _, _, rfl, rfl, cd, _, upd_same, ?_, ?_⟩
      · rw [List.length_map, List.length_map, List.length_take]
        exact sz_lt (by omega)
      · rw [upd_upd, take_map hz]
    · subst e
      rw [List.length_map, List.take_length]
      refine ⟨D, _, rfl, .inl ⟨SqL.of upd_same, fun q hq2 => k _ _ (Same.new (same_new hD) hq2) ⟨q, rfl, ?_⟩⟩⟩
      show upd _ q _ q = _
      rw [upd_same]
      unfold primL
      rw [if_pos hg]
  · rw [decide_eq_false (show ¬ ((gcdL xs : Nat) : Int) > 1 by omega)]
    refine iteF ⟨_, rfl, k _ _ (Same.refl _) ⟨p, rfl, ?_⟩⟩
    unfold primL
    rw [if_neg hg]
    exact h
/-! ### value_at -/
def stV (t b : Int) (a : Int × Int) (x : Int) : Int × Int := (a.1 * t + x * a.2, a.2 * b)
def foV (t b : Int) (l : List Int) : Int × Int := l.foldl (stV t b) (0, 1)
/-- what value_at tells -/
def valL (xs : List Int) (t b : Int) : Int := (foV t b xs.reverse).1
theorem foV_succ {t b : Int} {l : List Int} {i : Nat} {z : Int} (h : l[i]? = some z) : foV t b (l.take (i + 1)) = stV t b (foV t b (l.take i)) z := by
  unfold foV
  rw [List.take_succ, h, List.foldl_append]
  rfl
/-- what is reckoned on the way is not too great -/
def okV (n : Nat) (xs : List Int) (t b : Int) : Prop := Sm n t ∧ Sm n b ∧ (∀ x ∈ xs, Sm n x) ∧ ∀ i, i < xs.length → Sm n (foV t b (xs.reverse.take i)).1 ∧ Sm n (foV t b (xs.reverse.take i)).2
abbrev nVa : List Str := ["terms", "top", "bottom", "value", "scale", "term"]
theorem g33 : FnScope nVa ["terms", "top", "bottom"] (defScope (top 16)) := (⟨rfl, rfl, rfl, by decide +kernel, rfl, by decide +kernel, by decide +kernel⟩)
abbrev spValG : Sp := Prm (α := Addr × List Int × Int × Int) (fun a => [.ref a.1, .int a.2.2.1, .int a.2.2.2]) (fun a H => TI H a.1 a.2.1 ∧ 1 ≤ a.2.1.length ∧ a.2.1.length ≤ 1000 ∧ okV 400000 a.2.1 a.2.2.1 a.2.2.2) (fun a H v H' => v = .int (valL a.2.1 a.2.2.1 a.2.2.2))
theorem c_valG (D : Df K mg "value_at" (top 16)) : Cal P w K mg base 1 "value_at" ["terms", "top", "bottom"] spValG := by
  refine mkC D g33 (fun _ _ _ _ _ _ us hl => match us, hl with | [_, _, _], _ => rfl) (fun _ => rfl) (fun f cdv A outer s H a Q E hr h k => ?_)
  obtain ⟨p, xs, t, b⟩ := a
  obtain ⟨h, h1, hl, ht, hb, hx, ho⟩ := h
  have ht : Sm 400000 t := ht
  have hb : Sm 400000 b := hb
  have h0 : H p = some (.tup (xs.map V.int)) := h
  refine ⟨_, pss_cons (ps_asg (pe_tup (pa_cons pe_int (pa_cons pe_int pa_nil))) (pg_tup rfl (pgs_cons ((pg_name (i := 3) (FnScope.nd g33) rfl (Or.inl rfl))) (pgs_cons ((pg_name (i := 4) (FnScope.nd g33) rfl (Or.inl rfl))) pgs_nil))))
    (pss_cons (ps_for PassesOwn.never rfl (pi_tup (pe_revG (pv 0))) ((pg_name (i := 5) (FnScope.nd g33) rfl (Or.inl rfl)))
      (pss_cons ((ps_set (i := 3) (FnScope.nd g33) rfl (Or.inl rfl) (pe_op op_add (pe_op op_mulW (pv 3) (pv 1)) (pe_op op_mulW (pv 5) (pv 4))))) (pss_one (ps_aug (i := 4) g33.nd rfl (Or.inl rfl) (pv 2) iop_mulW))))
    (pss_one (ps_ret (pv 3)))), ?_⟩
  refine ⟨by decide, fun z hz => ⟨z, _, rfl, SqT.of upd_same, rfl, _, _, rfl, _, _, rfl, rfl, ?_⟩⟩
  have s0 := same_new (o := .tup [.int 0, .int 1]) hz
  have hL : (xs.map V.int).length = xs.length := List.length_map ..
  refine ⟨_, rfl, p, _, rfl, SqT.of (s0 _ _ h0), ⟨by rw [hL]; exact h1, by rw [hL]; exact hl⟩, fun q hq => ?_⟩
  rw [← List.map_reverse]
  have s1 := Same.new (o := .tup (xs.reverse.map V.int)) s0 hq
  have hu := upd_same (H := upd H z (.tup [.int 0, .int 1])) (a := q) (o := .tup (xs.reverse.map V.int))
  refine ⟨q, rfl, ⟨_, SqT.of hu⟩, for_tup (xs := xs.reverse.map V.int) (fun i σ H' => H' = upd (upd H z (.tup [.int 0, .int 1])) q (.tup (xs.reverse.map V.int)) ∧ ∃ y, σ = [some (.ref p), some (.int t), some (.int b), some (.int (foV t b (xs.reverse.take i)).1), some (.int (foV t b (xs.reverse.take i)).2), y]) ⟨rfl, none, rfl⟩ (fun i σ H' _ e => by rw [e.1]; exact SqT.of hu) ?_ ?_⟩
  · rintro i x σ H' hx2 ⟨rfl, y, rfl⟩
    obtain ⟨c, hc, rfl⟩ := at_map hx2
    have hi : i < xs.length := by
      rcases Nat.lt_or_ge i xs.reverse.length with hlt | hge
      · rw [List.length_reverse] at hlt
        exact hlt
      · rw [List.getElem?_eq_none hge] at hc
        cases hc
    obtain ⟨o1, o2⟩ := ho i hi
    have oc : Sm 400000 c := hx c (List.mem_reverse.mp (List.mem_of_getElem? hc))
    refine ⟨_, rfl, _, rfl, _, _, rfl, rfl, cm o1 ht, _, rfl, _, rfl, _, _, rfl, rfl, cm oc o2, _, _, rfl, rfl, ?_⟩
    refine ⟨_, rfl, _, rfl, _, _, rfl, rfl, cm o2 hb, ?_⟩
    refine ⟨rfl, some (.int c), ?_⟩
    rw [foV_succ hc]
    rfl
  · rintro σ H' ⟨rfl, y, rfl⟩
    refine ⟨_, rfl, k _ _ s1 ?_⟩
    rw [List.length_map, List.take_length]
    rfl
end
end Xq

/-! Polynomials of any degree: combined, multiplied. -/
namespace Xq
open PySem PySem.Spec PyProof.Rows L2
section
variable {g : TG} {tb : TS} {D : Ends}
theorem for_enum {K : PySem.W.Frag} {a : Addr} {xs : List V} {σ : L2.St} {H : Hp} (Pv : Nat → L2.St → Hp → Prop) (h0 : Pv 0 σ H) (hl : ∀ i σ H, i ≤ xs.length → Pv i σ H → SqT K H a xs)
    (hs : ∀ i x σ H, xs[i]? = some x → Pv i σ H → ∀ T, H T = none → g (.ref T) σ (upd H T (.tup [.int (i : Nat), x])) fun σ2 H2 => tb { D with nx := Pv (i + 1), ct := Pv (i + 1), bk := D.nx } σ2 H2) (hd : ∀ σ H, Pv xs.length σ H → D.nx σ H) :
    ∃ W : Nat → Nat → L2.St → Hp → Prop, (∃ m, W 0 m σ H) ∧ ∀ i m σ H, W i m σ H →
      ((IteT K a).stop i H ∧ D.nx σ H) ∨ ((IteT K a).go i H ∧ ∃ N : L2.St → Hp → Prop, (∀ σ' H', N σ' H' → ∃ m', m' < m ∧ W (i + 1) m' σ' H') ∧ ∀ x H', (IteT K a).yld i H x H' → g x σ H' fun σ2 H2 => tb { D with nx := N, ct := N, bk := D.nx } σ2 H2) := by
  refine ⟨fun i m σ H => m = xs.length - i ∧ i ≤ xs.length ∧ Pv i σ H, ⟨xs.length, by simp, Nat.zero_le _, h0⟩, ?_⟩
  rintro i m σ H ⟨rfl, hi, p⟩
  have q := hl i σ H hi p
  by_cases hlt : i < xs.length
  · refine .inr ⟨⟨xs, xs[i], q, by simp [hlt]⟩, Pv (i + 1), fun σ' H' p' => ⟨xs.length - (i + 1), by omega, rfl, hlt, p'⟩, fun x H' y => ?_⟩
    obtain ⟨T, z, rfl, hT, rfl, y⟩ := y
    exact hs i z σ H (y xs q) p T hT
  · have e : i = xs.length := by omega
    subst e
    exact .inl ⟨⟨xs, q, Nat.le_refl _⟩, hd σ H p⟩
end
/-- places i + sh of a turned by g, term by term -/
def stG (g : Int → Int → Int) (xs : List Int) (sh : Nat) (a : List Int) : Nat → List Int
  | 0 => a
  | i + 1 => (stG g xs sh a i).set (i + sh) (g ((stG g xs sh a i).getD (i + sh) 0) (xs.getD i 0))
theorem stG_len (g : Int → Int → Int) (xs : List Int) (sh : Nat) (a : List Int) : ∀ i, (stG g xs sh a i).length = a.length
  | 0 => rfl
  | i + 1 => by
    show (List.set _ _ _).length = _
    rw [List.length_set, stG_len g xs sh a i]
theorem zeros (n : Nat) : (List.replicate n [V.int 0]).flatten = (List.replicate n (0 : Int)).map V.int := by
  induction n with
  | zero => rfl
  | succ n ih => rw [List.replicate_succ, List.flatten_cons, ih, List.replicate_succ, List.map_cons]; rfl
theorem getD_map {xs : List Int} {i : Nat} (h : i < xs.length) : (xs.map V.int)[i]? = some (V.int (xs.getD i 0)) := by
  rw [List.getElem?_map, List.getElem?_eq_getElem h, List.getD_eq_getElem?_getD, List.getElem?_eq_getElem h]
  rfl
theorem getD_of {xs : List Int} {i : Nat} {z : Int} (h : xs[i]? = some z) : xs.getD i 0 = z := by
  rw [List.getD_eq_getElem?_getD, h]
  rfl
theorem lt_of_at {xs : List Int} {i : Nat} {z : Int} (h : xs[i]? = some z) : i < xs.length := by
  rcases Nat.lt_or_ge i xs.length with q | q
  · exact q
  · rw [List.getElem?_eq_none q] at h
    cases h
theorem set_map (xs : List Int) (i : Nat) (z : Int) : (xs.map V.int).set i (V.int z) = (xs.set i z).map V.int := by
  rw [List.map_set]
theorem ixN_nat {n i : Nat} (h : i < n) : ixN n (i : Int) = some i := by
  unfold ixN
  simp
  omega
def combA (c : Int) (xs : List Int) (ys : List Int) (sh : Nat) : List Int := stG (fun o x => o + c * x) xs 0 (List.replicate (max xs.length (ys.length + sh)) 0) xs.length
def combL (c : Int) (xs : List Int) (wt : Int) (ys : List Int) (sh : Nat) : List Int := trimI (stG (fun o y => o - wt * y) ys sh (combA c xs ys sh) ys.length)
section
variable {P : Program} {w : World} {K : PySem.W.Frag} {mg : Str → Option Value} {base : Heap}
abbrev nCo : List Str := ["factor", "one", "weight", "other", "shift", "result", "at", "term"]
theorem g35 : FnScope nCo ["factor", "one", "weight", "other", "shift"] (defScope (top 17)) := (⟨rfl, rfl, rfl, by decide +kernel, rfl, by decide +kernel, by decide +kernel⟩)
abbrev spCombG : Sp := Prm (α := Int × Addr × Int × Addr × Nat × List Int × List Int) (fun ⟨c, p, wt, q, sh, xs, ys⟩ => [.int c, .ref p, .int wt, .ref q, .int (sh : Int)])
  (fun ⟨c, p, wt, q, sh, xs, ys⟩ H => TI H p xs ∧ TI H q ys ∧ Sm 400000 c ∧ Sm 400000 wt ∧ (∀ x ∈ xs, Sm 400000 x) ∧ (∀ y ∈ ys, Sm 400000 y) ∧ xs.length ≤ 1000 ∧ ys.length + sh ≤ 1000)
  (fun ⟨c, p, wt, q, sh, xs, ys⟩ H v H' => ∃ r, v = .ref r ∧ TI H' r (combL c xs wt ys sh))
theorem c_combG (D : Df K mg "combined" (top 17)) (B : Bl mg) (C : Cal P w K mg base 1 "trimmed" ["terms"] spTrim) : Cal P w K mg base 2 "combined" ["factor", "one", "weight", "other", "shift"] spCombG := by
  refine mkC D g35 (fun _ _ _ _ _ _ us hl => match us, hl with | [_, _, _, _, _], _ => rfl) (fun _ => rfl) (fun f cdv A outer s H a Q E hr h k => ?_)
  obtain ⟨c, p, wt, q, sh, xs, ys⟩ := a
  obtain ⟨h1, h2, bc, bw, bx, by', lx, ly⟩ := h
  refine ⟨_, pss_cons ((ps_set (i := 5) (FnScope.nd g35) rfl (Or.inl rfl) (pe_op op_rep (pe_lst (pa_cons pe_int pa_nil)) (pe_callB (call_max2 rfl) (by rfl) B.max_ PyProof.Rows.boot_max (pa_cons ((pe_callB call_len_seq (by rfl) (Bl.len_ B) PySem.boot_len (pa_cons (pv 1) pa_nil))) (pa_cons (pe_op op_add ((pe_callB call_len_seq (by rfl) (Bl.len_ B) PySem.boot_len (pa_cons (pv 3) pa_nil))) (pv 4)) pa_nil))))))
    (pss_cons (ps_for PassesOwn.never rfl (pi_enumT (by rfl) B.enumerate_ (pa_cons (pv 1) pa_nil)) (pg_tup rfl (pgs_cons ((pg_name (i := 6) (FnScope.nd g35) rfl (Or.inl rfl))) (pgs_cons ((pg_name (i := 7) (FnScope.nd g35) rfl (Or.inl rfl))) pgs_nil)))
        (pss_one (ps_augS (pv 5) (pv 6) get_list (pe_op op_mulW (pv 0) (pv 7)) ip_add set_list)))
    (pss_cons (ps_for PassesOwn.never rfl (pi_enumT (by rfl) B.enumerate_ (pa_cons (pv 3) pa_nil)) (pg_tup rfl (pgs_cons ((pg_name (i := 6) (FnScope.nd g35) rfl (Or.inl rfl))) (pgs_cons ((pg_name (i := 7) (FnScope.nd g35) rfl (Or.inl rfl))) pgs_nil)))
        (pss_one (ps_augS (pv 5) (pe_op op_add (pv 6) (pv 4)) get_list (pe_op op_mulW (pv 2) (pv 7)) ip_sub set_list)))
    (pss_one (ps_ret (pe_cl C hr (pa_cons (pv 5) pa_nil)))))), ?_⟩
  have h10 : H p = some (.tup (xs.map V.int)) := h1
  have h20 : H q = some (.tup (ys.map V.int)) := h2
  have lx' : (xs.map V.int).length = xs.length := List.length_map ..
  have ly' : (ys.map V.int).length = ys.length := List.length_map ..
  refine ⟨by decide, fun l hl => ?_⟩
  have s1 := same_new (o := .lst [.int 0]) hl
  have n1 : (if (((ys.map V.int).length : Nat) : Int) + (sh : Int) > (((xs.map V.int).length : Nat) : Int) then (((ys.map V.int).length : Nat) : Int) + (sh : Int) else (((xs.map V.int).length : Nat) : Int)) = ((max xs.length (ys.length + sh) : Nat) : Int) := by
    rw [lx', ly']
    split <;> omega
  have nm : max xs.length (ys.length + sh) ≤ 1000 := by omega
  refine ⟨_, rfl, p, _, rfl, .inr (SqT.of (s1 _ _ h10)), _, rfl, q, _, rfl, .inr (SqT.of (s1 _ _ h20)), _, rfl, _, _, rfl, rfl, _, _, rfl, ?_⟩
  refine ⟨l, ((max xs.length (ys.length + sh) : Nat) : Int), _, rfl, congrArg V.int n1, upd_same, by omega, by omega, ?_, fun m hm => ?_⟩
  · show 1 * ((max xs.length (ys.length + sh) : Nat) : Int).toNat ≤ sizeLine
    have : 1000 ≤ sizeLine := by decide
    omega
  have s2 := Same.new (o := .lst (List.replicate ((max xs.length (ys.length + sh) : Nat) : Int).toNat [V.int 0]).flatten) s1 hm
  have hm0 : H m = none := new_of s1 hm
  have em := upd_same (H := upd H l (.lst [.int 0])) (a := m) (o := .lst (List.replicate ((max xs.length (ys.length + sh) : Nat) : Int).toNat [V.int 0]).flatten)
  generalize upd (upd H l (.lst [.int 0])) m (.lst (List.replicate ((max xs.length (ys.length + sh) : Nat) : Int).toNat [V.int 0]).flatten) = H2 at *
  rw [zeros, Int.toNat_natCast] at em
  have la : (combA c xs ys sh).length = max xs.length (ys.length + sh) := by
    unfold combA
    rw [stG_len, List.length_replicate]
  refine ⟨_, rfl, p, _, rfl, SqT.of (s2 _ _ h10), for_enum (xs := xs.map V.int) (fun i σ H' => Same H H' ∧ H' m = some (.lst ((stG (fun o x => o + c * x) xs 0 (List.replicate (max xs.length (ys.length + sh)) 0) i).map V.int)) ∧ ∃ y z : Option V, σ = [some (.int c), some (.ref p), some (.int wt), some (.ref q), some (.int (sh : Int)), some (.ref m), y, z]) ⟨s2, em, none, none, rfl⟩ (fun i σ H' _ e => SqT.of (e.1 _ _ h10)) ?_ ?_⟩
  · rintro i x σ H3 hx ⟨s3, e3, y, z, rfl⟩ T hT
    obtain ⟨b, hb, rfl⟩ := at_map hx
    have hi := lt_of_at hb
    have s4 := Same.new (o := .tup [.int (i : Nat), .int b]) s3 hT
    have nT : m ≠ T := ne_of_none e3 hT
    have e4 : upd H3 T (.tup [.int (i : Nat), .int b]) m = _ := (upd_ne nT).trans e3
    have li : i < (stG (fun o x => o + c * x) xs 0 (List.replicate (max xs.length (ys.length + sh)) 0) i).length := by
      rw [stG_len, List.length_replicate]
      omega
    refine ⟨T, _, rfl, SqT.of upd_same, rfl, _, _, rfl, _, _, rfl, rfl, _, rfl, _, rfl, m, _, _, _, rfl, rfl, SqL.of e4, atI_nat (getD_map li), ?_⟩
    refine ⟨_, rfl, _, rfl, _, _, rfl, rfl, cm bc (bx b (List.mem_of_getElem? hb)), _, _, rfl, rfl, m, _, _, i, rfl, rfl, e4, ixN_nat (by rw [List.length_map]; exact li), ?_⟩
    refine ⟨Same.put s4 hm0, ?_, _, _, rfl⟩
    rw [upd_same, set_map]
    show some (HO.lst _) = some (HO.lst (List.map V.int (List.set _ (i + 0) _)))
    rw [getD_of hb]
    rfl
  · rintro σ H3 ⟨s3, e3, y, z, rfl⟩
    rw [lx'] at e3
    have e3 : H3 m = some (.lst ((combA c xs ys sh).map V.int)) := e3
    refine ⟨_, rfl, q, _, rfl, SqT.of (s3 _ _ h20), for_enum (xs := ys.map V.int) (fun i σ H' => Same H H' ∧ H' m = some (.lst ((stG (fun o y => o - wt * y) ys sh (combA c xs ys sh) i).map V.int)) ∧ ∃ y z : Option V, σ = [some (.int c), some (.ref p), some (.int wt), some (.ref q), some (.int (sh : Int)), some (.ref m), y, z]) ⟨s3, e3, y, z, rfl⟩ (fun i σ H' _ e => SqT.of (e.1 _ _ h20)) ?_ ?_⟩
    · rintro i x σ H4 hx ⟨s4, e4, y, z, rfl⟩ T hT
      obtain ⟨b, hb, rfl⟩ := at_map hx
      have hi := lt_of_at hb
      have s5 := Same.new (o := .tup [.int (i : Nat), .int b]) s4 hT
      have nT : m ≠ T := ne_of_none e4 hT
      have e5 : upd H4 T (.tup [.int (i : Nat), .int b]) m = _ := (upd_ne nT).trans e4
      have li : i + sh < (stG (fun o y => o - wt * y) ys sh (combA c xs ys sh) i).length := by
        rw [stG_len, la]
        omega
      have ei : ((i : Int) + (sh : Int)) = ((i + sh : Nat) : Int) := by omega
      refine ⟨T, _, rfl, SqT.of upd_same, rfl, _, _, rfl, _, _, rfl, rfl, _, rfl, _, rfl, _, rfl, _, _, rfl, rfl, m, _, _, V.int ((stG (fun o y => o - wt * y) ys sh (combA c xs ys sh) i).getD (i + sh) 0), rfl, rfl, SqL.of e5, by rw [ei]; exact atI_nat (getD_map li), ?_⟩
      refine ⟨_, rfl, _, rfl, _, _, rfl, rfl, cm bw (by' b (List.mem_of_getElem? hb)), _, _, rfl, rfl, m, _, _, i + sh, rfl, rfl, e5, by rw [ei]; exact ixN_nat (by rw [List.length_map]; exact li), ?_⟩
      refine ⟨Same.put s5 hm0, ?_, _, _, rfl⟩
      rw [upd_same, set_map]
      show some (HO.lst _) = some (HO.lst (List.map V.int (List.set _ (i + sh) _)))
      rw [getD_of hb]
    · rintro σ H4 ⟨s4, e4, y, z, rfl⟩
      rw [ly'] at e4
      refine ⟨_, rfl, (m, _), rfl, .inl e4, ?_⟩
      rintro _ H9 s9 ⟨r, rfl, hr9⟩
      exact k _ _ (s4.trans s9) ⟨r, rfl, hr9⟩
end
end Xq

/-! Polynomials of any degree: remainder. -/
namespace Xq
open PySem PySem.Spec PyProof.Rows L2
def tWhI (t : TT) (tb : TS) : TS := fun D σ H => ∃ W : Nat → L2.St → Hp → Prop, (∃ m, W m σ H) ∧ ∀ m σ H, W m σ H → t σ H fun b H1 =>
  if b = true then tb { D with nx := fun σ' H' => ∃ m', m' < m ∧ W m' σ' H', ct := fun σ' H' => ∃ m', m' < m ∧ W m' σ' H', bk := D.nx } σ H1 else D.nx σ H1
/-- while, by a word that counts down -/
theorem ps_whI {X : Cx} {c : Expr} {body : List Stmt} {tc : TT} {tb : TS} {pos : Pos} (hp : PassesOwn (model X.prog X.w) X.A X.env X.xe) (hc : PT X c tc) (hb : PSs X body tb) : PS X (.While c body [] pos) (tWhI tc tb) := by
  have h := ps_while (pos := pos) hp (pt_mn hc) hb
  refine ⟨fun pins s σ H D I hq => h.run pins s σ H D I ?_⟩
  obtain ⟨W, w0, hw⟩ := hq
  refine ⟨W, w0, fun m σ H p => ⟨_, hw m σ H p, fun b H1 q => ?_⟩⟩
  cases b with
  | true => exact ⟨fun σ' H' => ∃ m', m' < m ∧ W m' σ' H', fun σ' H' p' => p', q⟩
  | false => exact q
theorem at_lastD {xs : List Int} (h : 1 ≤ xs.length) : atI (xs.map V.int) (-1) = some (V.int (xs.getLastD 0)) := by
  rcases List.eq_nil_or_concat xs with e | ⟨l, z, e⟩
  · rw [e] at h
    exact absurd h (by decide)
  · rw [e, List.concat_eq_append, List.map_append]
    rw [show List.map V.int [z] = [V.int z] from rfl, atI_last]
    simp
def smB (n : Nat) (xs : List Int) : Bool := xs.all fun x => decide (x.natAbs < 2 ^ n)
theorem smB_ok {n : Nat} {xs : List Int} (h : smB n xs = true) {a : Nat} (ha : n ≤ a) : ∀ x ∈ xs, Sm a x := fun x hx => sm_le (of_decide_eq_true (List.all_eq_true.mp h x hx)) ha
theorem last_mem {xs : List Int} (h : 1 ≤ xs.length) : xs.getLastD 0 ∈ xs := by
  rcases List.eq_nil_or_concat xs with e | ⟨l, z, e⟩
  · rw [e] at h
    exact absurd h (by decide)
  · rw [e, List.concat_eq_append]
    simp
/-- one turn of remainder -/
def nxt (ys xs : List Int) : List Int := combL (if ys.getLastD 0 < 0 then -(ys.getLastD 0) else ys.getLastD 0) xs (if ys.getLastD 0 > 0 then xs.getLastD 0 else -(xs.getLastD 0)) ys (xs.length - ys.length)
def remS (ys : List Int) : Nat → List Int → List Int
  | 0, xs => xs
  | n + 1, xs => if xs.length < ys.length then xs else remS ys n (nxt ys xs)
/-- so many turns are enough, and nothing grows too great -/
def okR (ys : List Int) : Nat → List Int → Bool
  | 0, xs => decide (xs.length < ys.length) && decide (gcdL xs < 2 ^ 9000)
  | n + 1, xs => (decide (xs.length < ys.length) && decide (gcdL xs < 2 ^ 9000)) || (decide (ys.length ≤ xs.length) && smB 4000 xs && decide (xs.length ≤ 1000) && okR ys n (nxt ys xs))
/-- what remainder tells -/
def remL (ys : List Int) (n : Nat) (xs : List Int) : List Int := primL (remS ys n xs)
theorem nxt_sm {b c : Int} {n : Nat} (h : Sm n b) : Sm n (if c < 0 then -b else b) := by
  split
  · unfold Sm at *
    rw [Int.natAbs_neg]
    exact h
  · exact h
section
variable {P : Program} {w : World} {K : PySem.W.Frag} {mg : Str → Option Value} {base : Heap}
abbrev nRe : List Str := ["one", "other", "factor", "weight"]
theorem g36 : FnScope nRe ["one", "other"] (defScope (top 18)) := (⟨rfl, rfl, rfl, by decide +kernel, rfl, by decide +kernel, by decide +kernel⟩)
abbrev spPrimH : Sp := Prm (α := Addr × List Int) (fun a => [.ref a.1]) (fun a H => TI H a.1 a.2 ∧ a.2.length ≤ 1000 ∧ Sm 9000 (gcdL a.2 : Nat)) (fun a H v H' => ∃ q, v = .ref q ∧ TI H' q (primL a.2))
abbrev spRemG : Sp := Prm (α := Addr × Addr × List Int × List Int × Nat) (fun ⟨p, q, xs, ys, n⟩ => [.ref p, .ref q])
  (fun ⟨p, q, xs, ys, n⟩ H => TI H p xs ∧ TI H q ys ∧ 1 ≤ ys.length ∧ ys.length ≤ 1000 ∧ smB 4000 ys = true ∧ okR ys n xs = true) (fun ⟨p, q, xs, ys, n⟩ H v H' => ∃ r, v = .ref r ∧ TI H' r (remL ys n xs))
theorem c_remG (D : Df K mg "remainder" (top 18)) (B : Bl mg) (C : Cal P w K mg base 2 "combined" ["factor", "one", "weight", "other", "shift"] spCombG) (CP : Cal P w K mg base 2 "primitive" ["terms"] spPrimH) : Cal P w K mg base 3 "remainder" ["one", "other"] spRemG := by
  refine mkC D g36 (fun _ _ _ _ _ _ us hl => match us, hl with | [_, _], _ => rfl) (fun _ => rfl) (fun f cdv A outer s H a Q E hr h k => ?_)
  obtain ⟨p, q, xs, ys, n⟩ := a
  obtain ⟨h1, h2, l1, l2, by', ok⟩ := h
  refine ⟨_, pss_cons ((ps_set (i := 2) (FnScope.nd g36) rfl (Or.inl rfl) (pe_callB call_abs (by rfl) B.abs_ PyProof.Rows.boot_abs (pa_cons ((pe_ix ix_tup (pv 1) (pe_un un_neg pe_int) (fun _ _ => rfl))) pa_nil))))
    (pss_cons (ps_whI PassesOwn.never ((pt_cmpR op_ge ((pe_callB call_len_seq (by rfl) (Bl.len_ B) PySem.boot_len (pa_cons (pv 0) pa_nil))) ((pe_callB call_len_seq (by rfl) (Bl.len_ B) PySem.boot_len (pa_cons (pv 1) pa_nil))) (nomark _)))
      (pss_cons ((ps_set (i := 3) (FnScope.nd g36) rfl (Or.inl rfl) (pe_ifExp ((pt_cmpR op_gt ((pe_ix ix_tup (pv 1) (pe_un un_neg pe_int) (fun _ _ => rfl))) pe_int (nomark _))) ((pe_ix ix_tup (pv 0) (pe_un un_neg pe_int) (fun _ _ => rfl))) (pe_un un_neg ((pe_ix ix_tup (pv 0) (pe_un un_neg pe_int) (fun _ _ => rfl)))))))
      (pss_one ((ps_set (i := 0) (FnScope.nd g36) rfl (Or.inl rfl) (pe_cl C hr (pa_cons (pv 2) (pa_cons (pv 0) (pa_cons (pv 3) (pa_cons (pv 1) (pa_cons (pe_op op_sub ((pe_callB call_len_seq (by rfl) (Bl.len_ B) PySem.boot_len (pa_cons (pv 0) pa_nil))) ((pe_callB call_len_seq (by rfl) (Bl.len_ B) PySem.boot_len (pa_cons (pv 1) pa_nil)))) pa_nil)))))))))))
    (pss_one (ps_ret (pe_cl CP hr (pa_cons (pv 0) pa_nil))))), ?_⟩
  have h20 : H q = some (.tup (ys.map V.int)) := h2
  have sy := smB_ok (a := 400000) by' (by decide)
  have sl := sy _ (last_mem l1)
  refine ⟨_, rfl, _, rfl, q, _, _, _, rfl, rfl, SqT.of h20, at_lastD l1, _, rfl, ?_⟩
  refine ⟨fun m σ H' => ∃ xs' p' z, σ = [some (.ref p'), some (.ref q), some (.int (if ys.getLastD 0 < 0 then -(ys.getLastD 0) else ys.getLastD 0)), z] ∧ Same H H' ∧ TI H' p' xs' ∧ okR ys m xs' = true ∧ primL (remS ys m xs') = remL ys n xs, ⟨n, xs, p, none, rfl, Same.refl _, h1, ok, rfl⟩, ?_⟩
  rintro m σ H1 ⟨xs', p', z, rfl, s1, h1', ok1, e1⟩
  have h10 : H1 p' = some (.tup (xs'.map V.int)) := h1'
  have h21 := s1 _ _ h20
  have lx' : (xs'.map V.int).length = xs'.length := List.length_map ..
  have ly' : (ys.map V.int).length = ys.length := List.length_map ..
  refine ⟨_, rfl, p', _, rfl, .inr (SqT.of h10), _, rfl, q, _, rfl, .inr (SqT.of h21), _, _, rfl, rfl, _, rfl, ?_⟩
  by_cases hlt : xs'.length < ys.length
  · rw [decide_eq_false (show ¬ ((((xs'.map V.int).length : Nat) : Int) ≥ (((ys.map V.int).length : Nat) : Int)) by rw [lx', ly']; omega)]
    have er : remS ys m xs' = xs' := by
      cases m with
      | zero => rfl
      | succ m => exact if_pos hlt
    have gb : gcdL xs' < 2 ^ 9000 := by
      cases m with
      | zero => exact of_decide_eq_true (Bool.and_eq_true_iff.mp ok1).2
      | succ m =>
        rcases Bool.or_eq_true_iff.mp ok1 with z | z
        · exact of_decide_eq_true (Bool.and_eq_true_iff.mp z).2
        · have z1 := (Bool.and_eq_true_iff.mp (Bool.and_eq_true_iff.mp (Bool.and_eq_true_iff.mp z).1).1).1
          exact absurd (of_decide_eq_true z1) (by omega)
    rw [er] at e1
    refine iteF ⟨_, rfl, (p', xs'), rfl, ⟨h1', by show xs'.length ≤ 1000; omega, gb⟩, ?_⟩
    rintro _ H9 s9 ⟨r, rfl, hr9⟩
    refine k _ _ (s1.trans s9) ⟨r, rfl, ?_⟩
    rw [← e1]
    exact hr9
  · rw [decide_eq_true (show ((((xs'.map V.int).length : Nat) : Int) ≥ (((ys.map V.int).length : Nat) : Int)) by rw [lx', ly']; omega)]
    cases m with
    | zero =>
      exact absurd (of_decide_eq_true (Bool.and_eq_true_iff.mp ok1).1) hlt
    | succ m =>
      have z : (decide (ys.length ≤ xs'.length) && smB 4000 xs' && decide (xs'.length ≤ 1000) && okR ys m (nxt ys xs')) = true := by
        rcases Bool.or_eq_true_iff.mp ok1 with z | z
        · exact absurd (of_decide_eq_true (Bool.and_eq_true_iff.mp z).1) hlt
        · exact z
      obtain ⟨z3, z4⟩ := Bool.and_eq_true_iff.mp z
      obtain ⟨z1, z3⟩ := Bool.and_eq_true_iff.mp z3
      obtain ⟨z0, z2⟩ := Bool.and_eq_true_iff.mp z1
      have sx := smB_ok (a := 400000) z2 (by decide)
      have lx : xs'.length ≤ 1000 := of_decide_eq_true z3
      have l1x : 1 ≤ xs'.length := by omega
      have er : remS ys (m + 1) xs' = remS ys m (nxt ys xs') := if_neg hlt
      rw [er] at e1
      have sw : Sm 400000 (if ys.getLastD 0 > 0 then xs'.getLastD 0 else -(xs'.getLastD 0)) := by
        have := sx _ (last_mem l1x)
        split
        · exact this
        · unfold Sm at *
          rw [Int.natAbs_neg]
          exact this
      have en : ((((xs'.map V.int).length : Nat) : Int) - (((ys.map V.int).length : Nat) : Int)) = ((xs'.length - ys.length : Nat) : Int) := by
        rw [lx', ly']
        omega
      refine iteT ⟨_, rfl, _, rfl, q, _, _, _, rfl, rfl, SqT.of h21, at_lastD l1, _, _, rfl, rfl, _, rfl, ?_⟩
      by_cases hp : ys.getLastD 0 > 0
      · rw [decide_eq_true hp]
        have ew : xs'.getLastD 0 = (if ys.getLastD 0 > 0 then xs'.getLastD 0 else -(xs'.getLastD 0)) := (if_pos hp).symm
        refine iteT ⟨_, rfl, _, rfl, p', _, _, _, rfl, rfl, SqT.of h10, at_lastD l1x, ?_⟩
        refine ⟨_, rfl, _, rfl, _, rfl, _, rfl, _, rfl, p', _, rfl, .inr (SqT.of h10), _, rfl, q, _, rfl, .inr (SqT.of h21), _, _, rfl, rfl, ?_⟩
        refine ⟨((if ys.getLastD 0 < 0 then -(ys.getLastD 0) else ys.getLastD 0), p', xs'.getLastD 0, q, xs'.length - ys.length, xs', ys), ?_, ⟨h1', TI.same s1 h2, nxt_sm sl, by rw [ew]; exact sw, sx, sy, lx, by show ys.length + (xs'.length - ys.length) ≤ 1000; omega⟩, ?_⟩
        · show [V.int _, V.ref p', V.int _, V.ref q, V.int ((((xs'.map V.int).length : Nat) : Int) - (((ys.map V.int).length : Nat) : Int))] = _
          rw [en]
        rintro _ H2 s2 ⟨r, rfl, hr2⟩
        refine ⟨m, Nat.lt_succ_self m, nxt ys xs', r, _, rfl, s1.trans s2, ?_, z4, e1⟩
        unfold nxt
        rw [← ew]
        exact hr2
      · rw [decide_eq_false hp]
        have ew : -(xs'.getLastD 0) = (if ys.getLastD 0 > 0 then xs'.getLastD 0 else -(xs'.getLastD 0)) := (if_neg hp).symm
        refine iteF ⟨_, rfl, _, rfl, p', _, _, _, rfl, rfl, SqT.of h10, at_lastD l1x, _, rfl, ?_⟩
        refine ⟨_, rfl, _, rfl, _, rfl, _, rfl, _, rfl, p', _, rfl, .inr (SqT.of h10), _, rfl, q, _, rfl, .inr (SqT.of h21), _, _, rfl, rfl, ?_⟩
        refine ⟨((if ys.getLastD 0 < 0 then -(ys.getLastD 0) else ys.getLastD 0), p', -(xs'.getLastD 0), q, xs'.length - ys.length, xs', ys), ?_, ⟨h1', TI.same s1 h2, nxt_sm sl, by rw [ew]; exact sw, sx, sy, lx, by show ys.length + (xs'.length - ys.length) ≤ 1000; omega⟩, ?_⟩
        · show [V.int _, V.ref p', V.int _, V.ref q, V.int ((((xs'.map V.int).length : Nat) : Int) - (((ys.map V.int).length : Nat) : Int))] = _
          rw [en]
        rintro _ H2 s2 ⟨r, rfl, hr2⟩
        refine ⟨m, Nat.lt_succ_self m, nxt ys xs', r, _, rfl, s1.trans s2, ?_, z4, e1⟩
        unfold nxt
        rw [← ew]
        exact hr2
end
end Xq

/-! Polynomials of any degree: sturm_chain. -/
namespace Xq
open PySem PySem.Spec PyProof.Rows L2
/-- rows of ints at places -/
inductive Rw (H : Hp) : List Addr → List (List Int) → Prop
  | nil : Rw H [] []
  | cons {p : Addr} {ps : List Addr} {xs : List Int} {cs : List (List Int)} : TI H p xs → Rw H ps cs → Rw H (p :: ps) (xs :: cs)
theorem Rw.same {H H' : Hp} (s : Same H H') {ps : List Addr} {cs : List (List Int)} (h : Rw H ps cs) : Rw H' ps cs := by
  induction h with
  | nil => exact .nil
  | cons h _ ih => exact .cons (TI.same s h) ih
theorem Rw.put {H : Hp} {c : Addr} {zs : List V} {o : HO} (hc : H c = some (.lst zs)) {ps : List Addr} {cs : List (List Int)} (h : Rw H ps cs) : Rw (upd H c o) ps cs := by
  induction h with
  | nil => exact .nil
  | @cons p _ xs _ h _ ih =>
    refine .cons ?_ ih
    have n : p ≠ c := fun e => by
      have h0 : H p = some (.tup (xs.map V.int)) := h
      rw [e, hc] at h0
      cases h0
    exact (upd_ne n).trans h
theorem Rw.len {H : Hp} {ps : List Addr} {cs : List (List Int)} (h : Rw H ps cs) : ps.length = cs.length := by
  induction h with
  | nil => rfl
  | cons _ _ ih => rw [List.length_cons, List.length_cons, ih]
def dT (xs : List Int) : PyData := .tuple (xs.map PyData.int)
theorem dp_ints {K : PySem.W.Frag} {H : Hp} : ∀ xs : List Int, DpAll K H (xs.map V.int) (xs.map PyData.int)
  | [] => .nil
  | x :: xs => .cons (.int x) (dp_ints xs)
/-- the chain, its last one first, after so many turns -/
def chS : Nat → List (List Int) → List (List Int)
  | n + 1, b :: a :: r => if b.isEmpty then b :: a :: r else chS n (((remL b 20 a).map fun x => -x) :: b :: a :: r)
  | _, c => c
def okC : Nat → List (List Int) → Bool
  | n + 1, b :: a :: r => SeqAt.shaped (dT b) && (PyData.eqv (dT b) (.tuple []) == b.isEmpty) && (b.isEmpty || (decide (b.length ≤ 1000) && smB 4000 b && okR b 20 a && decide ((remL b 20 a).length ≤ 1000) && decide (r.length ≤ 100) && okC n (((remL b 20 a).map fun x => -x) :: b :: a :: r)))
  | 0, b :: _ => SeqAt.shaped (dT b) && (PyData.eqv (dT b) (.tuple []) == b.isEmpty) && b.isEmpty
  | _, _ => false
/-- what sturm_chain tells -/
def sturmL (xs : List Int) : List (List Int) := (chS 10 [derL xs, xs]).tail.reverse
def okS (xs : List Int) : Bool := decide (2 ≤ xs.length) && decide (xs.length ≤ 1000) && okC 10 [derL xs, xs]
theorem atI_last2 {α : Type} (xs : List α) (u v : α) : atI (xs ++ [u] ++ [v]) (-2) = some u := by
  have hl : (xs ++ [u] ++ [v]).length = xs.length + 2 := by simp
  have e : ixN (xs ++ [u] ++ [v]).length (-2) = some xs.length := by
    unfold ixN
    rw [hl, if_neg (by decide), if_pos (by omega)]
    congr 1
    omega
  unfold atI
  rw [e]
  simp
theorem chS_two : ∀ (n : Nat) (b a : List Int) (r : List (List Int)), ∃ b' a' r', chS n (b :: a :: r) = b' :: a' :: r'
  | 0, b, a, r => ⟨b, a, r, rfl⟩
  | n + 1, b, a, r => by
    show ∃ b' a' r', (if b.isEmpty then b :: a :: r else chS n (((remL b 20 a).map fun x => -x) :: b :: a :: r)) = b' :: a' :: r'
    split
    · exact ⟨b, a, r, rfl⟩
    · exact chS_two n _ _ _
theorem rev2 (q p : Addr) (ps : List Addr) : ((q :: p :: ps).reverse.map V.ref) = (ps.reverse.map V.ref ++ [V.ref p]) ++ [V.ref q] := by simp
section
variable {P : Program} {w : World} {K : PySem.W.Frag} {mg : Str → Option Value} {base : Heap}
theorem g40 : FnScope ["terms", "chain"] ["terms"] (defScope (top 40)) := (⟨rfl, rfl, rfl, by decide +kernel, rfl, by decide +kernel, by decide +kernel⟩)
/-- a chain's list at c -/
def Chn (H : Hp) (c : Addr) (cs : List (List Int)) : Prop := ∃ ps, H c = some (.lst (ps.map V.ref)) ∧ Rw H ps cs
abbrev spSturmG : Sp := Prm (α := Addr × List Int) (fun a => [.ref a.1]) (fun a H => TI H a.1 a.2 ∧ okS a.2 = true) (fun a H v H' => ∃ c, v = .ref c ∧ Chn H' c (sturmL a.2))
theorem Rw.snoc {H : Hp} {p : Addr} {xs : List Int} {ps : List Addr} {cs : List (List Int)} (h : Rw H ps cs) (t : TI H p xs) : Rw H (ps ++ [p]) (cs ++ [xs]) := by
  induction h with
  | nil => exact .cons t .nil
  | cons h _ ih => exact .cons h ih
theorem Rw.rev {H : Hp} {ps : List Addr} {cs : List (List Int)} (h : Rw H ps cs) : Rw H ps.reverse cs.reverse := by
  induction h with
  | nil => exact .nil
  | cons h _ ih =>
    rw [List.reverse_cons, List.reverse_cons]
    exact ih.snoc h
theorem c_sturmG (D : Df K mg "sturm_chain" (top 40)) (B : Bl mg) (CD : Cal P w K mg base 1 "derivative" ["terms"] spDerG) (CR : Cal P w K mg base 3 "remainder" ["one", "other"] spRemG) (CN : Cal P w K mg base 1 "negative" ["terms"] spNegG) : Cal P w K mg base 4 "sturm_chain" ["terms"] spSturmG := by
  refine mkC D g40 (fun _ _ _ _ _ _ us hl => match us, hl with | [_], _ => rfl) (fun _ => rfl) (fun f cdv A outer s H a Q E hr h k => ?_)
  obtain ⟨p00, xs⟩ := a
  obtain ⟨h1, ok⟩ := h
  have h1 : TI H p00 xs := h1
  have ok : okS xs = true := ok
  obtain ⟨ok, okc⟩ := Bool.and_eq_true_iff.mp ok
  obtain ⟨l2, l1⟩ := Bool.and_eq_true_iff.mp ok
  have l2 : 2 ≤ xs.length := of_decide_eq_true l2
  have l1 : xs.length ≤ 1000 := of_decide_eq_true l1
  have hu : (A.deeper (envOfC "sturm_chain" (defScope (top 40)) s.heap.objs.size f cdv)).units + 64 < cLine := by have := hr.un; omega
  refine ⟨_, pss_cons ((ps_set (i := 1) (FnScope.nd g40) rfl (Or.inl rfl) (pe_lst (pa_cons (pv 0) (pa_cons (pe_cl CD hr (pa_cons (pv 0) pa_nil)) pa_nil)))))
    (pss_cons (ps_whI PassesOwn.never (pt_cmpR (op_neD hu) ((pe_ix ix_list (pv 1) (pe_un un_neg pe_int) (fun _ _ => rfl))) (pe_tup pa_nil) (nomark _))
      (pss_one (ps_expr (pe_bm PySem.F.plainAttrs_list PySem.F.slot_list_append PySem.F.type_list_append mt_append (pv 1) (pa_cons (pe_cl CN hr (pa_cons (pe_cl CR hr (pa_cons ((pe_ix ix_list (pv 1) (pe_un un_neg pe_int) (fun _ _ => rfl))) (pa_cons ((pe_ix ix_list (pv 1) (pe_un un_neg pe_int) (fun _ _ => rfl))) pa_nil))) pa_nil)) pa_nil)))))
    (pss_cons (ps_expr (pe_bm0 PySem.F.plainAttrs_list PySem.F.slot_list_pop PySem.F.type_list_pop mt_pop (pv 1)))
    (pss_one (ps_ret (pv 1))))), ?_⟩
  refine ⟨_, rfl, _, rfl, (p00, xs), rfl, ⟨h1, by show 1 ≤ xs.length; omega, l1⟩, ?_⟩
  rintro _ H1 s1 ⟨q, rfl, hq⟩
  refine ⟨(by show 2 ≤ sizeLine; decide), fun c hc => ?_⟩
  have s2 := Same.new (o := .lst [.ref p00, .ref q]) s1 hc
  have c0 : H c = none := new_of s1 hc
  have r2 : Rw (upd H1 c (.lst [.ref p00, .ref q])) [q, p00] [derL xs, xs] := .cons (TI.same (same_new hc) hq) (.cons (TI.same s2 h1) .nil)
  refine ⟨fun m σ H' => ∃ b a r q p ps, σ = [some (.ref p00), some (.ref c)] ∧ Same H H' ∧ H' c = some (.lst ((q :: p :: ps).reverse.map V.ref)) ∧ Rw H' (q :: p :: ps) (b :: a :: r) ∧ okC m (b :: a :: r) = true ∧ chS m (b :: a :: r) = chS 10 [derL xs, xs], ⟨10, derL xs, xs, [], q, p00, [], rfl, s2, upd_same, r2, okc, rfl⟩, ?_⟩
  rintro m σ H2 ⟨b, a, r, q, p', ps, rfl, s3, e3, r3, ok3, ch3⟩
  rw [rev2] at e3
  have hb : TI H2 q b := by cases r3; assumption
  have ha : TI H2 p' a := by
    cases r3 with
    | cons _ r4 => cases r4; assumption
  have hb0 : H2 q = some (.tup (b.map V.int)) := hb
  refine ⟨_, rfl, _, rfl, c, _, _, .ref q, rfl, rfl, SqL.of e3, atI_last _ _, by decide, fun z hz => ?_⟩
  have s4 := Same.new (o := .tup []) s3 hz
  have t4 := same_new (o := .tup []) hz
  have c4 := t4 _ _ e3
  have eqb : (PyData.eqv (dT b) (.tuple []) == b.isEmpty) = true ∧ SeqAt.shaped (dT b) = true := by
    cases m with
    | zero =>
      obtain ⟨x, _⟩ := Bool.and_eq_true_iff.mp ok3
      obtain ⟨y, x⟩ := Bool.and_eq_true_iff.mp x
      exact ⟨x, y⟩
    | succ m =>
      obtain ⟨x, _⟩ := Bool.and_eq_true_iff.mp ok3
      obtain ⟨y, x⟩ := Bool.and_eq_true_iff.mp x
      exact ⟨x, y⟩
  have eb : PyData.eqv (dT b) (.tuple []) = b.isEmpty := beq_iff_eq.mp eqb.1
  refine ⟨dT b, .tuple [], .tup (SqT.of (t4 _ _ hb0)) (dp_ints b), .tup (SqT.of upd_same) .nil, eqb.2, rfl, _, rfl, ?_⟩
  rw [eb]
  cases hbe : b.isEmpty with
  | true =>
    have er : chS m (b :: a :: r) = b :: a :: r := by
      cases m with
      | zero => rfl
      | succ m => exact if_pos hbe
    rw [er] at ch3
    refine ⟨_, rfl, .inl ⟨rfl, _, SqL.of c4⟩, c, _, .ref q, rfl, rfl, c4, ?_, ?_⟩
    · simp
    refine ⟨_, rfl, k _ _ (Same.put s4 c0) ⟨c, rfl, (p' :: ps).reverse, ?_, ?_⟩⟩
    · rw [upd_same, List.dropLast_concat]
      simp
    · have r5 : Rw (upd (upd H2 z (.tup [])) c (.lst ((ps.reverse.map V.ref ++ [V.ref p'] ++ [V.ref q]).dropLast))) (p' :: ps) (a :: r) := Rw.put c4 (Rw.same t4 (by cases r3; assumption))
      unfold sturmL
      rw [← ch3]
      exact r5.rev
  | false =>
    cases m with
    | zero =>
      have z := (Bool.and_eq_true_iff.mp ok3).2
      rw [hbe] at z
      cases z
    | succ m =>
      have z := (Bool.and_eq_true_iff.mp ok3).2
      rw [hbe, Bool.false_or] at z
      obtain ⟨z, z6⟩ := Bool.and_eq_true_iff.mp z
      obtain ⟨z, z5⟩ := Bool.and_eq_true_iff.mp z
      obtain ⟨z, z4⟩ := Bool.and_eq_true_iff.mp z
      obtain ⟨z, z3⟩ := Bool.and_eq_true_iff.mp z
      obtain ⟨z1, z2⟩ := Bool.and_eq_true_iff.mp z
      have lr : r.length ≤ 100 := of_decide_eq_true z5
      have er : chS (m + 1) (b :: a :: r) = chS m (((remL b 20 a).map fun x => -x) :: b :: a :: r) := by
        show (if b.isEmpty then b :: a :: r else chS m (((remL b 20 a).map fun x => -x) :: b :: a :: r)) = _
        rw [hbe]
        rfl
      have b1 : 1 ≤ b.length := by
        cases b with
        | nil => cases hbe
        | cons _ _ => simp
      refine iteT ⟨_, rfl, .inl ⟨rfl, _, SqL.of c4⟩, ?_⟩
      refine ⟨_, rfl, _, rfl, c, _, _, .ref p', rfl, rfl, SqL.of c4, atI_last2 _ _ _, ?_⟩
      refine ⟨_, rfl, _, rfl, c, _, _, .ref q, rfl, rfl, SqL.of c4, atI_last _ _, ?_⟩
      refine ⟨(p', q, a, b, 20), rfl, ⟨TI.same t4 ha, TI.same t4 hb, b1, of_decide_eq_true z1, z2, z3⟩, ?_⟩
      rintro _ H4 s5 ⟨r5, rfl, hr5⟩
      refine ⟨(r5, remL b 20 a), rfl, ⟨hr5, of_decide_eq_true z4⟩, ?_⟩
      rintro _ H5 s6 ⟨r6, rfl, hr6⟩
      have c6 := s6 _ _ (s5 _ _ c4)
      have lz := r3.len
      refine ⟨c, _, _, rfl, rfl, c6, ?_, ?_⟩
      · rw [← rev2, List.length_map, List.length_reverse, lz]
        exact sz_lt (by simp; omega)
      refine ⟨m, Nat.lt_succ_self m, ((remL b 20 a).map fun x => -x), b, a :: r, r6, q, p' :: ps, rfl, Same.put (s4.trans (s5.trans s6)) c0, ?_, ?_, z6, er.symm.trans ch3⟩
      · rw [upd_same]
        simp
      · exact Rw.put c6 (.cons hr6 (Rw.same (t4.trans (s5.trans s6)) r3))
end
end Xq

/-! Polynomials of any degree: changes. -/
namespace Xq
open PySem PySem.Spec PyProof.Rows L2
theorem lc_zipI {g : TG} {K : PySem.W.Frag} {a b : Addr} {xs ys : List V} {tt : TT} {te : TE} {vs : List Nat} {σ : L2.St} {H1 : Hp} {D : Addr} {Qd : Hp → Prop} (Pv : Nat → Hp → Prop) (h0 : Pv 0 (upd H1 D (.lst []))) (hq : ∀ i H, Pv i H → SqL K H a xs ∧ SqL K H b ys)
    (hs : ∀ i x y H, xs[i]? = some x → ys[i]? = some y → Pv i H → ∀ T, H T = none → g (.ref T) (wipe σ vs) (upd H T (.tup [x, y])) fun σ2 H2 => wipe σ2 vs = wipe σ vs ∧ tt σ2 H2 fun b H3 =>
      if b = true then te σ2 H3 fun y H4 => ∃ acc, H4 D = some (.lst acc) ∧ acc.length < sizeLine ∧ Pv (i + 1) (upd H4 D (.lst (acc ++ [y]))) else Pv (i + 1) H3) (hd : ∀ H, Pv (min xs.length ys.length) H → Qd H) :
    ∃ W : Nat → Nat → Hp → Prop, (∃ m, W 0 m (upd H1 D (.lst []))) ∧ ∀ i m H, W i m H →
      ((Itz K a b).stop i H ∧ Qd H) ∨ ((Itz K a b).go i H ∧ ∃ Nx : Hp → Prop, (∀ H', Nx H' → ∃ m', m' < m ∧ W (i + 1) m' H') ∧ ∀ x H', (Itz K a b).yld i H x H' → g x (wipe σ vs) H' fun σ2 H2 => wipe σ2 vs = wipe σ vs ∧ tt σ2 H2 fun b H3 =>
        if b = true then te σ2 H3 fun y H4 => ∃ acc, H4 D = some (.lst acc) ∧ acc.length < sizeLine ∧ Nx (upd H4 D (.lst (acc ++ [y]))) else Nx H3) := by
  refine ⟨fun i m H => m = min xs.length ys.length - i ∧ i ≤ min xs.length ys.length ∧ Pv i H, ⟨min xs.length ys.length, by simp, Nat.zero_le _, h0⟩, ?_⟩
  rintro i m H ⟨rfl, hi, p⟩
  obtain ⟨gx, gy⟩ := hq i H p
  by_cases hlt : i < min xs.length ys.length
  · have h1 : i < xs.length := by omega
    have h2 : i < ys.length := by omega
    refine .inr ⟨⟨xs, ys, xs[i], ys[i], gx, gy, List.getElem?_eq_getElem h1, List.getElem?_eq_getElem h2⟩, Pv (i + 1), fun H' p' => ⟨min xs.length ys.length - (i + 1), by omega, rfl, hlt, p'⟩, fun x H' y => ?_⟩
    obtain ⟨T, u, v, rfl, hT, rfl, y1, y2⟩ := y
    exact hs i u v H (y1 xs gx) (y2 ys gy) p T hT
  · have e : i = min xs.length ys.length := by omega
    subst e
    exact .inl ⟨⟨xs, ys, gx, gy, by omega⟩, hd H p⟩
theorem cut_1 (xs : List V) : cutV xs (some 1) none = xs.drop 1 := by
  unfold cutV
  have e1 : HT.sIx xs.length xs.length none = xs.length := rfl
  rw [e1, show (1 : Int) = ((1 : Nat) : Int) from rfl, HT.sIx_nat]
  by_cases h : 1 ≤ xs.length
  · rw [Nat.min_eq_left h, List.take_of_length_le (by rw [List.length_drop]; omega)]
  · rw [Nat.min_eq_right (by omega), List.drop_length, List.drop_eq_nil_of_le (by omega), List.take_nil]
/-- the signs of those that are not 0 -/
def sgn1 (v : Int) : List Bool := if v = 0 then [] else [decide (0 < v)]
def sgnL : List Int → List Bool
  | [] => []
  | v :: r => sgn1 v ++ sgnL r
theorem sgnL_app (a b : List Int) : sgnL (a ++ b) = sgnL a ++ sgnL b := by
  induction a with
  | nil => rfl
  | cons v r ih => show sgn1 v ++ sgnL (r ++ b) = _; rw [ih, ← List.append_assoc]; rfl
theorem sgnL_len (a : List Int) : (sgnL a).length ≤ a.length := by
  induction a with
  | nil => exact Nat.le_refl _
  | cons v r ih =>
    show (sgn1 v ++ sgnL r).length ≤ r.length + 1
    rw [List.length_append]
    have : (sgn1 v).length ≤ 1 := by unfold sgn1; split <;> simp
    omega
theorem sgnL_succ {vs : List Int} {i : Nat} {v : Int} (h : vs[i]? = some v) : sgnL (vs.take (i + 1)) = sgnL (vs.take i) ++ sgn1 v := by
  rw [List.take_succ, h, sgnL_app]
  show sgnL _ ++ (sgn1 v ++ []) = _
  rw [List.append_nil]
/-- the left ones of the unlike pairs -/
def dif1 (p : Bool × Bool) : List Bool := if p.1 = p.2 then [] else [p.1]
def difL : List (Bool × Bool) → List Bool
  | [] => []
  | p :: r => dif1 p ++ difL r
theorem difL_app (a b : List (Bool × Bool)) : difL (a ++ b) = difL a ++ difL b := by
  induction a with
  | nil => rfl
  | cons v r ih => show dif1 v ++ difL (r ++ b) = _; rw [ih, ← List.append_assoc]; rfl
theorem difL_len (a : List (Bool × Bool)) : (difL a).length ≤ a.length := by
  induction a with
  | nil => exact Nat.le_refl _
  | cons v r ih =>
    show (dif1 v ++ difL r).length ≤ r.length + 1
    rw [List.length_append]
    have : (dif1 v).length ≤ 1 := by unfold dif1; split <;> simp
    omega
theorem difL_succ {vs : List (Bool × Bool)} {i : Nat} {v : Bool × Bool} (h : vs[i]? = some v) : difL (vs.take (i + 1)) = difL (vs.take i) ++ dif1 v := by
  rw [List.take_succ, h, difL_app]
  show difL _ ++ (dif1 v ++ []) = _
  rw [List.append_nil]
/-- what changes tells -/
def chgL (cs : List (List Int)) (t b : Int) : Int := ((difL ((sgnL (cs.map fun xs => valL xs t b)).zip ((sgnL (cs.map fun xs => valL xs t b)).drop 1))).length : Nat)
theorem at_bl {xs : List Bool} {i : Nat} {x : V} (h : (xs.map V.bl)[i]? = some x) : ∃ z, xs[i]? = some z ∧ x = .bl z := by
  rw [List.getElem?_map] at h
  cases e : xs[i]? with
  | none => rw [e] at h; cases h
  | some z => rw [e] at h; exact ⟨z, rfl, (Option.some.inj h).symm⟩
theorem Rw.at {H : Hp} {ps : List Addr} {cs : List (List Int)} (h : Rw H ps cs) : ∀ {i : Nat} {p : Addr}, ps[i]? = some p → ∃ xs, cs[i]? = some xs ∧ TI H p xs := by
  induction h with
  | nil => intro i p e; simp at e
  | @cons q ps xs cs h _ ih =>
    intro i p e
    cases i with
    | zero =>
      rw [List.getElem?_cons_zero] at e
      cases e
      exact ⟨xs, List.getElem?_cons_zero, h⟩
    | succ i =>
      rw [List.getElem?_cons_succ] at e
      obtain ⟨ys, e2, t⟩ := ih e
      exact ⟨ys, by rw [List.getElem?_cons_succ]; exact e2, t⟩
theorem Chn.same {H H' : Hp} {c : Addr} {cs : List (List Int)} (s : Same H H') (h : Chn H c cs) : Chn H' c cs := by
  obtain ⟨ps, e, r⟩ := h
  exact ⟨ps, s _ _ e, r.same s⟩
/-- what is reckoned on the way is not too great -/
def okCh (cs : List (List Int)) (t b : Int) : Prop := cs.length ≤ 100 ∧ ∀ xs ∈ cs, 1 ≤ xs.length ∧ xs.length ≤ 1000 ∧ okV 400000 xs t b
section
variable {P : Program} {w : World} {K : PySem.W.Frag} {mg : Str → Option Value} {base : Heap}
abbrev nCh : List Str := ["chain", "top", "bottom", "values", "signs", "terms", "value", "left", "right"]
theorem g41 : FnScope nCh ["chain", "top", "bottom"] (defScope (top 41)) := (⟨rfl, rfl, rfl, by decide +kernel, rfl, by decide +kernel, by decide +kernel⟩)
abbrev spChgG : Sp := Prm (α := Addr × List (List Int) × Int × Int) (fun a => [.ref a.1, .int a.2.2.1, .int a.2.2.2]) (fun a H => Chn H a.1 a.2.1 ∧ okCh a.2.1 a.2.2.1 a.2.2.2) (fun a H v H' => v = .int (chgL a.2.1 a.2.2.1 a.2.2.2))
theorem c_chgG (D : Df K mg "changes" (top 41)) (B : Bl mg) (C : Cal P w K mg base 1 "value_at" ["terms", "top", "bottom"] spValG) : Cal P w K mg base 2 "changes" ["chain", "top", "bottom"] spChgG := by
  refine mkC D g41 (fun _ _ _ _ _ _ us hl => match us, hl with | [_, _, _], _ => rfl) (fun _ => rfl) (fun f cdv A outer s H a Q E hr h k => ?_)
  obtain ⟨c, cs, t, b⟩ := a
  obtain ⟨⟨ps, hc, rw⟩, lc, ho⟩ := h
  have lc : cs.length ≤ 100 := lc
  have hc : H c = some (.lst (ps.map V.ref)) := hc
  have k : ∀ v H', Same H H' → v = .int (chgL cs t b) → Q v H' := k
  have lp := rw.len
  refine ⟨_, pss_cons (ps_setLc (i := 3) (own := [("terms", 5)]) (g := gName 5) (tt := tYes) (te := tCall spValG [] E0 (tCons (tVar 5) (tCons (tVar 1) (tCons (tVar 2) tNil)))) rfl g41.nd rfl rfl (sw_true rfl rfl rfl (by decide +kernel)) (pi_list (pv 0))
      (blkOk_by (N := nCh) (sc := defScope (top 41)) (by decide +kernel)) (fun _ _ _ _ _ => (pg_name (i := 5) (FnScope.nd g41) rfl (Or.inl rfl))) (fun _ _ _ _ _ => pts_nil)
      (fun _ _ _ _ _ => pe_cl C hr (pa_cons (pv 5) (pa_cons (pv 1) (pa_cons (pv 2) pa_nil)))))
    (pss_cons (ps_setLc (i := 4) (own := [("value", 6)]) (g := gName 6) (tt := tTest (tOp rNe (tVar 6) (tC (.int 0)))) (te := tOp (rI0 fun i j => .bl (decide (j < i))) (tVar 6) (tC (.int 0))) rfl g41.nd rfl rfl (sw_true rfl rfl rfl (by decide +kernel)) (pi_list (pv 3))
      (blkOk_by (N := nCh) (sc := defScope (top 41)) (by decide +kernel)) (fun _ _ _ _ _ => (pg_name (i := 6) (FnScope.nd g41) rfl (Or.inl rfl))) (fun _ _ _ _ _ => pts_one ((pt_cmpR op_ne (pv 6) pe_int (nomark _))))
      (fun _ _ _ _ _ => pe_cmpR op_gt (pv 6) pe_int (nomark _)))
    (pss_one (ps_ret ((pe_callB call_len_seq (by rfl) (Bl.len_ B) PySem.boot_len (pa_cons (pe_lc (own := [("left", 7), ("right", 8)]) (g := gTup K 2 (gCons (gName 7) (gCons (gName 8) gNil))) (tt := tTest (tOp rNe (tVar 7) (tVar 8))) (te := tVar 7) rfl g41.nd (pi_zip (by rfl) B.zip_ (pa_cons (pv 4) (pa_cons (pe_slice sl_list (pv 4) (po_some pe_int) po_none) pa_nil)))
      (blkOk_by (N := nCh) (sc := defScope (top 41)) (by decide +kernel)) (fun _ _ _ _ _ => pg_tup rfl (pgs_cons ((pg_name (i := 7) (FnScope.nd g41) rfl (Or.inl rfl))) (pgs_cons ((pg_name (i := 8) (FnScope.nd g41) rfl (Or.inl rfl))) pgs_nil))) (fun _ _ _ _ _ => pts_one ((pt_cmpR op_ne (pv 7) (pv 8) (nomark _))))
      (fun _ _ _ _ _ => pv 7)) pa_nil)))))), ?_⟩
  -- the values
  refine ⟨_, rfl, c, rfl, ⟨_, SqL.of hc⟩, fun D hD => lc_list (xs := ps.map V.ref) (fun i H' => Same H H' ∧ H' D = some (.lst (((cs.take i).map fun xs => valL xs t b).map V.int))) ⟨same_new hD, upd_same⟩ (fun i H' _ e => SqL.of (e.1 _ _ hc)) (fun i x H' hx e => ?_) (fun H' e => ?_)⟩
  · obtain ⟨s1, e1⟩ := e
    rw [List.getElem?_map] at hx
    obtain ⟨p, hp, rfl⟩ : ∃ p, ps[i]? = some p ∧ x = .ref p := by
      cases e : ps[i]? with
      | none => rw [e] at hx; cases hx
      | some z => rw [e] at hx; exact ⟨z, rfl, (Option.some.inj hx).symm⟩
    obtain ⟨xs, hxs, tx⟩ := rw.at hp
    obtain ⟨o1, o2, o3⟩ := ho xs (List.mem_of_getElem? hxs)
    refine ⟨rfl, ?_⟩
    simp only [tYes, if_true]
    refine ⟨_, rfl, _, rfl, _, rfl, (p, xs, t, b), rfl, ⟨TI.same s1 tx, o1, o2, o3⟩, ?_⟩
    rintro _ H2 s2 rfl
    refine ⟨_, s2 _ _ e1, ?_, Same.put (s1.trans s2) hD, ?_⟩
    · rw [List.length_map, List.length_map, List.length_take]
      exact sz_lt (by omega)
    · rw [upd_same, List.take_succ, hxs]
      simp
  obtain ⟨s1, e1⟩ := e
  rw [List.length_map, lp, List.take_length] at e1
  -- the signs
  refine ⟨_, rfl, D, rfl, ⟨_, SqL.of e1⟩, fun G hG => lc_list (xs := (cs.map fun xs => valL xs t b).map V.int) (fun i H2 => Same H H2 ∧ Same H' H2 ∧ H2 G = some (.lst ((sgnL ((cs.map fun xs => valL xs t b).take i)).map V.bl))) ⟨Same.new s1 hG, same_new hG, upd_same⟩ (fun i H2 _ e => SqL.of (e.2.1 _ _ e1)) (fun i x H2 hx e => ?_) (fun H2 e => ?_)⟩
  · obtain ⟨s2, t2, e2⟩ := e
    obtain ⟨v, hv, rfl⟩ := at_map hx
    have g0 : H G = none := new_of s1 hG
    have lv := lt_of_at hv
    rw [List.length_map] at lv
    refine ⟨rfl, ?_⟩
    refine ⟨_, rfl, rfl, _, rfl, ?_⟩
    by_cases h0 : v = 0
    · rw [decide_eq_true (show V.int v = V.int 0 by rw [h0])]
      refine iteF ⟨s2, t2, ?_⟩
      rw [e2, sgnL_succ hv]
      unfold sgn1
      rw [if_pos h0, List.append_nil]
    · rw [decide_eq_false (show ¬ V.int v = V.int 0 from fun z => h0 (by injection z))]
      refine iteT ⟨_, rfl, _, _, rfl, rfl, _, e2, ?_, Same.put s2 g0, Same.put t2 hG, ?_⟩
      · rw [List.length_map]
        refine sz_lt (Nat.le_trans (sgnL_len _) ?_)
        rw [List.length_take, List.length_map]
        omega
      · rw [upd_same, sgnL_succ hv]
        unfold sgn1
        rw [if_neg h0, List.map_append]
        rfl
  obtain ⟨s2, t2, e2⟩ := e
  rw [List.length_map, List.take_length] at e2
  -- the unlike ones
  refine ⟨_, rfl, _, rfl, _, rfl, G, _, rfl, SqL.of e2, fun R hR => ?_⟩
  have s3 := Same.new (o := .lst (cutV ((sgnL (cs.map fun xs => valL xs t b)).map V.bl) (some 1) none)) s2 hR
  have e3 := same_new (o := .lst (cutV ((sgnL (cs.map fun xs => valL xs t b)).map V.bl) (some 1) none)) hR _ _ e2
  have r3 := upd_same (H := H2) (a := R) (o := .lst (cutV ((sgnL (cs.map fun xs => valL xs t b)).map V.bl) (some 1) none))
  generalize upd H2 R (.lst (cutV ((sgnL (cs.map fun xs => valL xs t b)).map V.bl) (some 1) none)) = H3 at *
  rw [cut_1, ← List.map_drop] at r3
  have ls : (sgnL (cs.map fun xs => valL xs t b)).length ≤ 100 := by
    refine Nat.le_trans (sgnL_len _) ?_
    rw [List.length_map]
    exact lc
  refine ⟨G, R, _, _, rfl, SqL.of e3, SqL.of r3, fun M hM => lc_zipI (xs := (sgnL (cs.map fun xs => valL xs t b)).map V.bl) (ys := ((sgnL (cs.map fun xs => valL xs t b)).drop 1).map V.bl) (fun i H4 => Same H H4 ∧ Same H3 H4 ∧ H4 M = some (.lst ((difL (((sgnL (cs.map fun xs => valL xs t b)).zip ((sgnL (cs.map fun xs => valL xs t b)).drop 1)).take i)).map V.bl)))
    ⟨Same.new s3 hM, same_new hM, upd_same⟩ (fun i H4 e => ⟨SqL.of (e.2.1 _ _ e3), SqL.of (e.2.1 _ _ r3)⟩) (fun i x y H4 hx hy e T hT => ?_) (fun H4 e => ?_)⟩
  · obtain ⟨s4, t4, e4⟩ := e
    obtain ⟨u, hu, rfl⟩ := at_bl hx
    obtain ⟨v, hv, rfl⟩ := at_bl hy
    have m0 : H M = none := new_of s3 hM
    have nT : M ≠ T := ne_of_none e4 hT
    have e5 : upd H4 T (.tup [.bl u, .bl v]) M = _ := (upd_ne nT).trans e4
    have s5 := Same.new (o := .tup [.bl u, .bl v]) s4 hT
    have t5 := Same.new (o := .tup [.bl u, .bl v]) t4 hT
    have hz : ((sgnL (cs.map fun xs => valL xs t b)).zip ((sgnL (cs.map fun xs => valL xs t b)).drop 1))[i]? = some (u, v) := by
      rw [List.getElem?_zip_eq_some]
      exact ⟨hu, hv⟩
    refine ⟨T, _, rfl, SqT.of upd_same, rfl, _, _, rfl, _, _, rfl, rfl, rfl, ?_⟩
    refine ⟨_, rfl, _, rfl, rfl, _, rfl, ?_⟩
    by_cases huv : u = v
    · subst huv
      rw [decide_eq_true rfl]
      refine iteF ⟨s5, t5, ?_⟩
      rw [e5, difL_succ hz]
      unfold dif1
      rw [if_pos rfl, List.append_nil]
    · rw [decide_eq_false (show ¬ V.bl u = V.bl v from fun z => huv (by injection z))]
      refine iteT ⟨_, rfl, _, e5, ?_, Same.put s5 m0, Same.put t5 hM, ?_⟩
      · rw [List.length_map]
        refine sz_lt (Nat.le_trans (difL_len _) ?_)
        rw [List.length_take, List.length_zip]
        omega
      · rw [upd_same, difL_succ hz]
        unfold dif1
        rw [if_neg huv, List.map_append]
        rfl
  obtain ⟨s4, t4, e4⟩ := e
  have lz : min ((sgnL (cs.map fun xs => valL xs t b)).map V.bl).length (((sgnL (cs.map fun xs => valL xs t b)).drop 1).map V.bl).length = ((sgnL (cs.map fun xs => valL xs t b)).zip ((sgnL (cs.map fun xs => valL xs t b)).drop 1)).length := by
    rw [List.length_map, List.length_map, List.length_zip]
  rw [lz, List.take_length] at e4
  refine ⟨M, _, rfl, .inl (SqL.of e4), k _ _ s4 ?_⟩
  rw [List.length_map]
  rfl
end
end Xq

/-! Polynomials of any degree: reach, roots_up_to, roots_in_all. -/
namespace Xq
open PySem PySem.Spec PyProof.Rows L2
def absI (x : Int) : Int := if x < 0 then -x else x
def mxL : List Int → Int
  | [] => 0
  | x :: r => if mxL r < x then x else mxL r
theorem mxL_le : ∀ {l : List Int} {x : Int}, x ∈ l → x ≤ mxL l
  | y :: r, x, h => by
    show x ≤ (if mxL r < y then y else mxL r)
    rcases List.mem_cons.mp h with rfl | h
    · split <;> omega
    · have := mxL_le h
      split <;> omega
theorem mxL_mem : ∀ {l : List Int}, l ≠ [] → (∀ x ∈ l, 0 ≤ x) → mxL l ∈ l
  | [], h, _ => absurd rfl h
  | [y], _, p => by
    have := p y (List.mem_singleton.mpr rfl)
    show (if (0 : Int) < y then y else 0) ∈ [y]
    split
    · exact List.mem_singleton.mpr rfl
    · exact List.mem_singleton.mpr (by omega)
  | y :: z :: r, _, p => by
    have ih := mxL_mem (l := z :: r) (by simp) fun x hx => p x (List.mem_cons_of_mem _ hx)
    show (if mxL (z :: r) < y then y else mxL (z :: r)) ∈ y :: z :: r
    split
    · exact List.mem_cons_self ..
    · exact List.mem_cons_of_mem _ ih
/-- what reach tells -/
def reachL (xs : List Int) : Int := 1 + mxL (xs.map absI)
/-- what roots_up_to, roots_in_all tell -/
def upL (cs : List (List Int)) (t b : Int) : Int := chgL cs (-(reachL (cs.headD []))) 1 - chgL cs t b
def allL (cs : List (List Int)) : Int := upL cs (reachL (cs.headD [])) 1
theorem Chn.head {H : Hp} {c : Addr} {cs : List (List Int)} (h : Chn H c cs) (n : cs ≠ []) : ∃ p ps, H c = some (.lst (V.ref p :: ps)) ∧ TI H p (cs.headD []) := by
  obtain ⟨ps, e, r⟩ := h
  cases r with
  | nil => exact absurd rfl n
  | @cons p ps xs cs t r => exact ⟨p, ps.map V.ref, e, t⟩
section
variable {P : Program} {w : World} {K : PySem.W.Frag} {mg : Str → Option Value} {base : Heap}
theorem g42 : FnScope ["terms", "term"] ["terms"] (defScope (top 42)) := (⟨rfl, rfl, rfl, by decide +kernel, rfl, by decide +kernel, by decide +kernel⟩)
abbrev spReachG : Sp := Prm (α := Addr × List Int) (fun a => [.ref a.1]) (fun a H => TI H a.1 a.2 ∧ 1 ≤ a.2.length ∧ a.2.length ≤ 1000) (fun a H v H' => v = .int (reachL a.2))
theorem c_reachG (D : Df K mg "reach" (top 42)) (B : Bl mg) : Cal P w K mg base 1 "reach" ["terms"] spReachG := by
  refine mkC D g42 (fun _ _ _ _ _ _ us hl => match us, hl with | [_], _ => rfl) (fun _ => rfl) (fun f cdv A outer s H a Q E hr h k => ?_)
  obtain ⟨p, xs⟩ := a
  obtain ⟨h1, l1, l2⟩ := h
  have l1 : 1 ≤ xs.length := l1
  have l2 : xs.length ≤ 1000 := l2
  have k : ∀ v H', Same H H' → v = .int (reachL xs) → Q v H' := k
  have h10 : H p = some (.tup (xs.map V.int)) := h1
  refine ⟨_, pss_one (ps_ret (pe_op op_add pe_int (pe_callB (cr_max rfl) (by rfl) B.max_ PyProof.Rows.boot_max (pa_cons
    (pe_lc (own := [("term", 1)]) (g := gName 1) (tt := tYes) (te := tCB (fun xs H Q => ∃ i, xs = [.int i] ∧ Q (.int (if i < 0 then -i else i)) H) (tCons (tVar 1) tNil)) rfl g42.nd (pi_tup (pv 0))
      (blkOk_by (N := ["terms", "term"]) (sc := defScope (top 42)) (by decide +kernel)) (fun _ _ _ _ _ => (pg_name (i := 1) (FnScope.nd g42) rfl (Or.inl rfl))) (fun _ _ _ _ _ => pts_nil)
      (fun _ _ _ _ _ => pe_callB call_abs (by rfl) B.abs_ PyProof.Rows.boot_abs (pa_cons (pv 1) pa_nil))) pa_nil)))), ?_⟩
  refine ⟨_, rfl, p, rfl, ⟨_, SqT.of h10⟩, fun D hD => lc_tup (xs := xs.map V.int) (fun i H' => H' = upd H D (.lst (((xs.take i).map absI).map V.int))) rfl (fun i H' _ e => by rw [e]; exact SqT.of ((same_new hD) _ _ h10)) (fun i x H' hx e => ?_) (fun H' e => ?_)⟩
  · subst e
    obtain ⟨z, hz, rfl⟩ := at_map hx
    refine ⟨rfl, ?_⟩
    simp only [tYes, if_true]
    refine ⟨_, rfl, z, rfl, _, upd_same, ?_, ?_⟩
    · rw [List.length_map, List.length_map, List.length_take]
      exact sz_lt (by omega)
    · rw [upd_upd, take_map hz]
      rfl
  · subst e
    rw [List.length_map, List.take_length]
    refine ⟨D, xs.map absI, rfl, SqL.of upd_same, (by rw [List.length_map]; omega), fun m hm hle => ?_⟩
    refine ⟨_, _, rfl, rfl, k _ _ (same_new hD) ?_⟩
    have nn : ∀ x ∈ xs.map absI, 0 ≤ x := by
      intro x hx
      obtain ⟨y, _, rfl⟩ := List.mem_map.mp hx
      unfold absI
      split <;> omega
    have ne : xs.map absI ≠ [] := by
      intro z
      rw [List.map_eq_nil_iff.mp z] at l1
      exact absurd l1 (by decide)
    have e1 := hle _ (mxL_mem ne nn)
    have e2 := mxL_le hm
    show V.int (1 + m) = V.int (1 + mxL (xs.map absI))
    rw [show m = mxL (xs.map absI) by omega]
theorem g43 : FnScope ["chain", "top", "bottom"] ["chain", "top", "bottom"] (defScope (top 43)) := (⟨rfl, rfl, rfl, by decide +kernel, rfl, by decide +kernel, by decide +kernel⟩)
/-- what is asked of a chain ahead of its roots -/
def okU (cs : List (List Int)) : Prop := cs ≠ [] ∧ 1 ≤ (cs.headD []).length ∧ (cs.headD []).length ≤ 1000 ∧ okCh cs (-(reachL (cs.headD []))) 1
abbrev spUpG : Sp := Prm (α := Addr × List (List Int) × Int × Int) (fun a => [.ref a.1, .int a.2.2.1, .int a.2.2.2]) (fun a H => Chn H a.1 a.2.1 ∧ okU a.2.1 ∧ okCh a.2.1 a.2.2.1 a.2.2.2) (fun a H v H' => v = .int (upL a.2.1 a.2.2.1 a.2.2.2))
theorem c_upG (D : Df K mg "roots_up_to" (top 43)) (C : Cal P w K mg base 2 "changes" ["chain", "top", "bottom"] spChgG) (CR : Cal P w K mg base 1 "reach" ["terms"] spReachG) : Cal P w K mg base 3 "roots_up_to" ["chain", "top", "bottom"] spUpG := by
  refine mkC D g43 (fun _ _ _ _ _ _ us hl => match us, hl with | [_, _, _], _ => rfl) (fun _ => rfl) (fun f cdv A outer s H a Q E hr h k => ?_)
  obtain ⟨c, cs, t, b⟩ := a
  obtain ⟨hc, ⟨n, l1, l2, o1⟩, o2⟩ := h
  have hc : Chn H c cs := hc
  obtain ⟨p, ps, e, t0⟩ := hc.head n
  refine ⟨_, pss_one (ps_ret (pe_op op_sub (pe_cl C hr (pa_cons (pv 0) (pa_cons (pe_un un_neg (pe_cl CR hr (pa_cons ((pe_ix ix_list (pv 0) pe_int (fun _ _ => rfl))) pa_nil))) (pa_cons pe_int pa_nil)))) (pe_cl C hr (pa_cons (pv 0) (pa_cons (pv 1) (pa_cons (pv 2) pa_nil)))))), ?_⟩
  refine ⟨_, rfl, _, rfl, c, _, _, .ref p, rfl, rfl, SqL.of e, atI_nat (j := 0) rfl, ?_⟩
  refine ⟨(p, cs.headD []), rfl, ⟨t0, l1, l2⟩, ?_⟩
  rintro _ H1 s1 rfl
  refine ⟨_, rfl, (c, cs, -(reachL (cs.headD [])), 1), rfl, ⟨hc.same s1, o1⟩, ?_⟩
  rintro _ H2 s2 rfl
  refine ⟨_, rfl, _, rfl, _, rfl, (c, cs, t, b), rfl, ⟨hc.same (s1.trans s2), o2⟩, ?_⟩
  rintro _ H3 s3 rfl
  exact ⟨_, _, rfl, rfl, k _ _ (s1.trans (s2.trans s3)) rfl⟩
theorem g44 : FnScope ["chain"] ["chain"] (defScope (top 44)) := (⟨rfl, rfl, rfl, by decide +kernel, rfl, by decide +kernel, by decide +kernel⟩)
abbrev spAllG : Sp := Prm (α := Addr × List (List Int)) (fun a => [.ref a.1]) (fun a H => Chn H a.1 a.2 ∧ okU a.2 ∧ okCh a.2 (reachL (a.2.headD [])) 1) (fun a H v H' => v = .int (allL a.2))
theorem c_allG (D : Df K mg "roots_in_all" (top 44)) (C : Cal P w K mg base 3 "roots_up_to" ["chain", "top", "bottom"] spUpG) (CR : Cal P w K mg base 1 "reach" ["terms"] spReachG) : Cal P w K mg base 4 "roots_in_all" ["chain"] spAllG := by
  refine mkC D g44 (fun _ _ _ _ _ _ us hl => match us, hl with | [_], _ => rfl) (fun _ => rfl) (fun f cdv A outer s H a Q E hr h k => ?_)
  obtain ⟨c, cs⟩ := a
  obtain ⟨hc, o, o2⟩ := h
  have hc : Chn H c cs := hc
  have o : okU cs := o
  obtain ⟨p, ps, e, t0⟩ := hc.head o.1
  refine ⟨_, pss_one (ps_ret (pe_cl C hr (pa_cons (pv 0) (pa_cons (pe_cl CR hr (pa_cons ((pe_ix ix_list (pv 0) pe_int (fun _ _ => rfl))) pa_nil)) (pa_cons pe_int pa_nil))))), ?_⟩
  refine ⟨_, rfl, _, rfl, c, _, _, .ref p, rfl, rfl, SqL.of e, atI_nat (j := 0) rfl, ?_⟩
  refine ⟨(p, cs.headD []), rfl, ⟨t0, o.2.1, o.2.2.1⟩, ?_⟩
  rintro _ H1 s1 rfl
  refine ⟨(c, cs, reachL (cs.headD []), 1), rfl, ⟨hc.same s1, o, o2⟩, ?_⟩
  rintro _ H2 s2 rfl
  exact k _ _ (s1.trans s2) rfl
end
end Xq

/-! Polynomials of any degree: guessed, refined. -/
namespace Xq
open PySem PySem.Spec PyProof.Rows L2
theorem sm_neg {i : Int} {a : Nat} (ha : Sm a i) : Sm a (-i) := by
  unfold Sm
  rw [Int.natAbs_neg]
  exact ha
theorem sm_add {i j : Int} {a : Nat} (ha : Sm a i) (hb : Sm a j) : Sm (a + 1) (i + j) := by
  have h := Int.natAbs_add_le i j
  have e : 2 ^ (a + 1) = 2 ^ a + 2 ^ a := by rw [Nat.pow_succ]; omega
  unfold Sm at *
  omega
theorem sm_sub {i j : Int} {a : Nat} (ha : Sm a i) (hb : Sm a j) : Sm (a + 1) (i - j) := by
  rw [Int.sub_eq_add_neg]
  exact sm_add ha (sm_neg hb)
def smI (n : Nat) (x : Int) : Bool := decide (x.natAbs < 2 ^ n)
theorem smI_ok {n : Nat} {x : Int} (h : smI n x = true) {a : Nat} (ha : n ≤ a) : Sm a x := sm_le (of_decide_eq_true h) ha
theorem foV_sm {t b : Int} (ht : Sm 4000 t) (hb : Sm 4000 b) : ∀ (l : List Int), (∀ x ∈ l, Sm 4000 x) → ∀ (k : Nat) (a : Int × Int), Sm k a.1 → Sm k a.2 → Sm (k + 4001 * l.length) (l.foldl (stV t b) a).1 ∧ Sm (k + 4001 * l.length) (l.foldl (stV t b) a).2
  | [], _, k, a, h1, h2 => ⟨h1, h2⟩
  | x :: l, hx, k, a, h1, h2 => by
    have hx0 := hx x List.mem_cons_self
    have q := foV_sm ht hb l (fun y hy => hx y (List.mem_cons_of_mem _ hy)) (k + 4001) (stV t b a x) (sm_add (sm_mul h1 ht) (sm_le (sm_mul hx0 h2) (by omega))) (sm_le (sm_mul h2 hb) (by omega))
    have e : k + 4001 + 4001 * l.length = k + 4001 * (x :: l).length := by
      rw [List.length_cons]
      omega
    rw [e] at q
    exact q
/-- eight terms at most, and none of 4,000 bits: then nothing on the way is too great -/
def okVB (xs : List Int) (t b : Int) : Bool := decide (1 ≤ xs.length) && decide (xs.length ≤ 8) && smI 4000 t && smI 4000 b && smB 4000 xs
theorem okVB_ok {xs : List Int} {t b : Int} (h : okVB xs t b = true) : 1 ≤ xs.length ∧ xs.length ≤ 1000 ∧ okV 400000 xs t b := by
  unfold okVB at h
  simp only [Bool.and_eq_true] at h
  obtain ⟨⟨⟨⟨h1, h2⟩, h3⟩, h4⟩, h5⟩ := h
  have h2 : xs.length ≤ 8 := of_decide_eq_true h2
  refine ⟨of_decide_eq_true h1, by omega, smI_ok h3 (by decide), smI_ok h4 (by decide), smB_ok h5 (by decide), fun i hi => ?_⟩
  have q := foV_sm (smI_ok h3 (Nat.le_refl _)) (smI_ok h4 (Nat.le_refl _)) (xs.reverse.take i) (fun x hx => smB_ok h5 (Nat.le_refl _) x (List.mem_reverse.mp (List.mem_of_mem_take hx))) 1 (0, 1) (by decide) (by decide)
  have l8 : (xs.reverse.take i).length ≤ 8 := by
    rw [List.length_take, List.length_reverse]
    omega
  exact ⟨sm_le q.1 (by omega), sm_le q.2 (by omega)⟩
def pw (b : Nat) : Int := 1 * 2 ^ b
def ng (xs : List Int) (t b : Int) : Bool := decide (valL xs t b < 0)
/-- where it is looked for first -/
def plc (xs : List Int) (near : Int) (b s : Nat) : Int := near * 2 ^ s + (valL xs near (pw b) * 2 ^ s).fdiv (valL xs near (pw b) - valL xs (near + 1) (pw b))
def adj (xs : List Int) (near : Int) (b s : Nat) : Int :=
  if ng xs (plc xs near b s) (pw (b + s)) = ng xs near (pw b) then (if ng xs (plc xs near b s + 1) (pw (b + s)) = ng xs near (pw b) then plc xs near b s + 1 else plc xs near b s) else plc xs near b s - 1
/-- what guessed tells -/
def gueL (xs : List Int) (near : Int) (b s : Nat) : Option Int :=
  if ng xs (adj xs near b s) (pw (b + s)) = ng xs near (pw b) then (if ng xs (adj xs near b s + 1) (pw (b + s)) = ng xs near (pw b) then none else some (adj xs near b s)) else none
def okG (xs : List Int) (near : Int) (b s : Nat) : Bool :=
  smI 4000 near && decide (b + s < 4000) && okVB xs near (pw b) && okVB xs (near + 1) (pw b) && !decide (valL xs near (pw b) - valL xs (near + 1) (pw b) = 0) && smI 8000 (valL xs near (pw b)) && smI 8000 (valL xs near (pw b) - valL xs (near + 1) (pw b)) &&
    okVB xs (plc xs near b s) (pw (b + s)) && okVB xs (plc xs near b s + 1) (pw (b + s)) && okVB xs (adj xs near b s) (pw (b + s)) && okVB xs (adj xs near b s + 1) (pw (b + s))
section
variable {P : Program} {w : World} {K : PySem.W.Frag} {mg : Str → Option Value} {base : Heap}
abbrev nG : List Str := ["equation", "near", "bits", "step", "low", "high", "bottom", "place", "starts", "ends"]
theorem g50 : FnScope nG ["equation", "near", "bits", "step"] (defScope (top 50)) := (⟨rfl, rfl, rfl, by decide +kernel, rfl, by decide +kernel, by decide +kernel⟩)
def oV : Option Int → V
  | some z => .int z
  | none => .non
abbrev spGueG : Sp := Prm (α := Addr × List Int × Int × Nat × Nat) (fun ⟨p, xs, near, b, s⟩ => [.ref p, .int near, .int (b : Int), .int (s : Int)]) (fun ⟨p, xs, near, b, s⟩ H => TI H p xs ∧ okG xs near b s = true) (fun ⟨p, xs, near, b, s⟩ H v H' => v = oV (gueL xs near b s))
theorem c_gueG (D : Df K mg "guessed" (top 50)) (C : Cal P w K mg base 1 "value_at" ["terms", "top", "bottom"] spValG) : Cal P w K mg base 2 "guessed" ["equation", "near", "bits", "step"] spGueG := by
  refine mkC D g50 (fun _ _ _ _ _ _ us hl => match us, hl with | [_, _, _, _], _ => rfl) (fun _ => rfl) (fun f cdv A outer s H a Q E hr h k => ?_)
  obtain ⟨p, xs, near, b, st⟩ := a
  obtain ⟨h, hg⟩ := h
  have h : TI H p xs := h
  have k : ∀ v H', Same H H' → v = oV (gueL xs near b st) → Q v H' := k
  have hg : okG xs near b st = true := hg
  unfold okG at hg
  simp only [Bool.and_eq_true, decide_eq_true_eq, Bool.not_eq_true', decide_eq_false_iff_not] at hg
  obtain ⟨⟨⟨⟨⟨⟨⟨⟨⟨⟨g1, g2⟩, g3⟩, g4⟩, g5⟩, g6⟩, g7⟩, g8⟩, g9⟩, g10⟩, g11⟩ := hg
  -- a call
  have call : ∀ {H1 : Hp} {t bb : Int} {Qv : VK}, Same H H1 → okVB xs t bb = true → (∀ H2, Same H H2 → Qv (.int (valL xs t bb)) H2) → spValG [.ref p, .int t, .int bb] H1 Qv E0 := fun {H1 t bb Qv} s1 o kk => by
    refine ⟨(p, xs, t, bb), rfl, ⟨TI.same s1 h, okVB_ok o⟩, ?_⟩
    rintro _ H2 s2 rfl
    exact kk _ (s1.trans s2)
  refine ⟨_, pss_cons ((ps_set (i := 4) (FnScope.nd g50) rfl (Or.inl rfl) (pe_cl C hr (pa_cons (pv 0) (pa_cons (pv 1) (pa_cons (pe_op op_shlN pe_int (pv 2)) pa_nil))))))
    (pss_cons ((ps_set (i := 5) (FnScope.nd g50) rfl (Or.inl rfl) (pe_cl C hr (pa_cons (pv 0) (pa_cons (pe_op op_add (pv 1) pe_int) (pa_cons (pe_op op_shlN pe_int (pv 2)) pa_nil))))))
    (pss_cons ((ps_set (i := 6) (FnScope.nd g50) rfl (Or.inl rfl) (pe_op op_shlN pe_int (pe_op op_add (pv 2) (pv 3)))))
    (pss_cons ((ps_set (i := 7) (FnScope.nd g50) rfl (Or.inl rfl) (pe_op op_add (pe_op op_shlN (pv 1) (pv 3)) (pe_op op_fdivX (pe_op op_shlN (pv 4) (pv 3)) (pe_op op_sub (pv 4) (pv 5))))))
    (C8.pss_cut (ps_if ((pt_cmpR op_ne (pe_cmpR op_lt (pe_cl C hr (pa_cons (pv 0) (pa_cons (pv 7) (pa_cons (pv 6) pa_nil)))) pe_int (nomark _)) (pe_cmpR op_lt (pv 4) pe_int (nomark _)) (nomark _)))
        (pss_one (ps_aug (i := 7) g50.nd rfl (Or.inl rfl) pe_int ip_sub))
        (pss_one (ps_if ((pt_cmpR op_eq (pe_cmpR op_lt (pe_cl C hr (pa_cons (pv 0) (pa_cons (pe_op op_add (pv 7) pe_int) (pa_cons (pv 6) pa_nil)))) pe_int (nomark _)) (pe_cmpR op_lt (pv 4) pe_int (nomark _)) (nomark _)))
          (pss_one (ps_aug (i := 7) g50.nd rfl (Or.inl rfl) pe_int ip_add)) pss_nil)))
    (pss_cons ((ps_set (i := 8) (FnScope.nd g50) rfl (Or.inl rfl) (pe_cmpR op_eq (pe_cmpR op_lt (pe_cl C hr (pa_cons (pv 0) (pa_cons (pv 7) (pa_cons (pv 6) pa_nil)))) pe_int (nomark _)) (pe_cmpR op_lt (pv 4) pe_int (nomark _)) (nomark _))))
    (pss_cons ((ps_set (i := 9) (FnScope.nd g50) rfl (Or.inl rfl) (pe_cmpR op_ne (pe_cmpR op_lt (pe_cl C hr (pa_cons (pv 0) (pa_cons (pe_op op_add (pv 7) pe_int) (pa_cons (pv 6) pa_nil)))) pe_int (nomark _)) (pe_cmpR op_lt (pv 4) pe_int (nomark _)) (nomark _))))
    (pss_one (ps_ret (pe_ifExp (PW.pt (pw_and (pt_val (pv 8)) (pw_and1 (pt_val (pv 9))))) (pv 7) pe_non))))))))), ?_⟩
  have cs1 : CShl 1 (b : Int) := shl_ok (n := 2) (by decide) (by omega)
  refine ⟨_, rfl, _, rfl, _, rfl, 1, b, rfl, rfl, cs1, call (Same.refl _) g3 fun H1 s1 => ?_⟩
  refine ⟨_, rfl, _, rfl, _, _, rfl, rfl, _, rfl, 1, b, rfl, rfl, cs1, call s1 g4 fun H2 s2 => ?_⟩
  have cs2 : CShl 1 ((b + st : Nat) : Int) := shl_ok (n := 2) (by decide) (by omega)
  refine ⟨_, rfl, _, rfl, _, _, rfl, rfl, 1, b + st, rfl, rfl, cs2, ?_⟩
  have cs3 : CShl near (st : Int) := shl_ok (n := 4000) (of_decide_eq_true g1) (by omega)
  have cs4 : CShl (valL xs near (pw b)) (st : Int) := shl_ok (n := 8000) (of_decide_eq_true g6) (by omega)
  have dv : CDivX (valL xs near (pw b) * 2 ^ st) (valL xs near (pw b) - valL xs (near + 1) (pw b)) :=
    ⟨g5, Nat.lt_of_lt_of_le (log_lt (of_decide_eq_true g7) (by decide)) (by decide)⟩
  refine ⟨_, rfl, _, rfl, near, st, rfl, rfl, cs3, _, rfl, _, rfl, _, st, rfl, rfl, cs4, _, rfl, _, rfl, _, _, rfl, rfl, _, _, rfl, rfl, dv, _, _, rfl, rfl, ?_⟩
  have dT : ∀ x y : Bool, x = y → decide (V.bl x = V.bl y) = true := fun x y e => by rw [e]; exact decide_eq_true rfl
  have dF : ∀ x y : Bool, ¬ x = y → decide (V.bl x = V.bl y) = false := fun x y e => decide_eq_false fun q => e (V.bl.inj q)
  refine ⟨fun σ' H' => σ' = [some (.ref p), some (.int near), some (.int (b : Int)), some (.int (st : Int)), some (.int (valL xs near (pw b))), some (.int (valL xs (near + 1) (pw b))), some (.int (pw (b + st))), some (.int (adj xs near b st)), none, none] ∧ Same H H', ?_, ?_⟩
  · refine ⟨_, rfl, _, rfl, _, rfl, call s2 g8 fun H3 s3 => ⟨_, _, rfl, rfl, _, rfl, _, _, rfl, rfl, rfl, _, rfl, ?_⟩⟩
    show (if (!decide (V.bl (ng xs (plc xs near b st) (pw (b + st))) = V.bl (ng xs near (pw b)))) = true then _ else _)
    by_cases e : ng xs (plc xs near b st) (pw (b + st)) = ng xs near (pw b)
    · rw [dT _ _ e]
      refine iteF ⟨_, rfl, _, rfl, _, _, rfl, rfl, _, rfl, call s3 g9 fun H4 s4 => ⟨_, _, rfl, rfl, _, rfl, _, _, rfl, rfl, rfl, _, rfl, ?_⟩⟩
      show (if decide (V.bl (ng xs (plc xs near b st + 1) (pw (b + st))) = V.bl (ng xs near (pw b))) = true then _ else _)
      by_cases e2 : ng xs (plc xs near b st + 1) (pw (b + st)) = ng xs near (pw b)
      · rw [dT _ _ e2]
        have ez : plc xs near b st + 1 = adj xs near b st := by rw [adj, if_pos e, if_pos e2]
        refine iteT ⟨_, rfl, _, _, rfl, rfl, ?_, s4⟩
        rw [← ez]
        rfl
      · rw [dF _ _ e2]
        have ez : plc xs near b st = adj xs near b st := by rw [adj, if_pos e, if_neg e2]
        refine iteF ⟨?_, s4⟩
        rw [← ez]
        rfl
    · rw [dF _ _ e]
      have ez : plc xs near b st - 1 = adj xs near b st := by rw [adj, if_neg e]
      refine iteT ⟨_, rfl, _, _, rfl, rfl, ?_, s3⟩
      rw [← ez]
      rfl
  · rintro σ' H5 ⟨rfl, s5⟩
    refine ⟨_, rfl, _, rfl, _, rfl, call s5 g10 fun H6 s6 => ⟨_, _, rfl, rfl, _, rfl, _, _, rfl, rfl, rfl, ?_⟩⟩
    refine ⟨_, rfl, _, rfl, _, _, rfl, rfl, _, rfl, call s6 g11 fun H7 s7 => ⟨_, _, rfl, rfl, _, rfl, _, _, rfl, rfl, rfl, ?_⟩⟩
    refine ⟨_, rfl, _, rfl, ?_⟩
    show (if decide (V.bl (ng xs (adj xs near b st) (pw (b + st))) = V.bl (ng xs near (pw b))) = true then _ else _)
    by_cases e : ng xs (adj xs near b st) (pw (b + st)) = ng xs near (pw b)
    · rw [dT _ _ e]
      refine iteT ⟨_, rfl, _, rfl, ?_⟩
      show (if (!decide (V.bl (ng xs (adj xs near b st + 1) (pw (b + st))) = V.bl (ng xs near (pw b)))) = true then _ else _)
      by_cases e2 : ng xs (adj xs near b st + 1) (pw (b + st)) = ng xs near (pw b)
      · rw [dT _ _ e2]
        refine iteF (k _ _ s7 ?_)
        rw [gueL, if_pos e, if_pos e2]
        rfl
      · rw [dF _ _ e2]
        refine iteT ⟨_, rfl, k _ _ s7 ?_⟩
        rw [gueL, if_pos e, if_neg e2]
        rfl
    · rw [dF _ _ e]
      refine iteF (k _ _ s7 ?_)
      rw [gueL, if_neg e]
      rfl
/-- the state of refined after so many turns: near, bits, step -/
def refS (xs : List Int) (wd : Nat) : Nat → Int → Nat → Nat → Int × Nat
  | 0, near, b, _ => (near, b)
  | n + 1, near, b, st => if wd ≤ b then (near, b) else match gueL xs near b (min st (wd - b)) with
    | some z => refS xs wd n z (b + min st (wd - b)) (2 * min st (wd - b))
    | none => refS xs wd n near b (min st (wd - b) / 2)
def okF (xs : List Int) (wd : Nat) : Nat → Int → Nat → Nat → Bool
  | 0, _, b, _ => decide (wd ≤ b)
  | n + 1, near, b, st => decide (wd ≤ b) || (okG xs near b (min st (wd - b)) && match gueL xs near b (min st (wd - b)) with
    | some z => okF xs wd n z (b + min st (wd - b)) (2 * min st (wd - b))
    | none => okF xs wd n near b (min st (wd - b) / 2))
/-- what refined tells -/
def refL (xs : List Int) (near : Int) (b wd : Nat) : Int := if xs.length = 2 then (-(xs.getD 0 0) * 2 ^ wd).fdiv (xs.getD 1 0) else (refS xs wd 20000 near b 1).1 / 2 ^ ((refS xs wd 20000 near b 1).2 - wd)
def okRf (xs : List Int) (near : Int) (b wd : Nat) : Bool := decide (xs.length ≤ 1000) && decide (wd ≤ 4000) && if xs.length = 2 then smI 4000 (xs.getD 0 0) && smI 4000 (xs.getD 1 0) && !decide (xs.getD 1 0 = 0) else okF xs wd 20000 near b 1
theorem refS_ge (xs : List Int) (wd : Nat) : ∀ (n : Nat) (near : Int) (b st : Nat), okF xs wd n near b st = true → wd ≤ (refS xs wd n near b st).2
  | 0, near, b, st, h => of_decide_eq_true h
  | n + 1, near, b, st, h => by
    unfold refS
    unfold okF at h
    by_cases e : wd ≤ b
    · rw [if_pos e]
      exact e
    · rw [if_neg e]
      rw [decide_eq_false e, Bool.false_or] at h
      have h2 := (Bool.and_eq_true_iff.mp h).2
      cases hg : gueL xs near b (min st (wd - b)) with
      | none =>
        rw [hg] at h2
        exact refS_ge xs wd n _ _ _ h2
      | some z =>
        rw [hg] at h2
        exact refS_ge xs wd n _ _ _ h2
abbrev nR : List Str := ["equation", "near", "bits", "wanted", "step", "closer"]
theorem g49 : FnScope nR ["equation", "near", "bits", "wanted"] (defScope (top 49)) := (⟨rfl, rfl, rfl, by decide +kernel, rfl, by decide +kernel, by decide +kernel⟩)
abbrev spRefG : Sp := Prm (α := Addr × List Int × Int × Nat × Nat) (fun ⟨p, xs, near, b, wd⟩ => [.ref p, .int near, .int (b : Int), .int (wd : Int)]) (fun ⟨p, xs, near, b, wd⟩ H => TI H p xs ∧ okRf xs near b wd = true) (fun ⟨p, xs, near, b, wd⟩ H v H' => v = .int (refL xs near b wd))
theorem c_refG (D : Df K mg "refined" (top 49)) (B : Bl mg) (C : Cal P w K mg base 2 "guessed" ["equation", "near", "bits", "step"] spGueG) : Cal P w K mg base 3 "refined" ["equation", "near", "bits", "wanted"] spRefG := by
  refine mkC D g49 (fun _ _ _ _ _ _ us hl => match us, hl with | [_, _, _, _], _ => rfl) (fun _ => rfl) (fun f cdv A outer s H a Q E hr h k => ?_)
  obtain ⟨p, xs, near, b, wd⟩ := a
  obtain ⟨h, ok⟩ := h
  have h : TI H p xs := h
  have h0 : H p = some (.tup (xs.map V.int)) := h
  have k : ∀ v H', Same H H' → v = .int (refL xs near b wd) → Q v H' := k
  have ok : okRf xs near b wd = true := ok
  obtain ⟨ok0, ok2⟩ := Bool.and_eq_true_iff.mp ok
  obtain ⟨lx, lw⟩ := Bool.and_eq_true_iff.mp ok0
  have lw : wd ≤ 4000 := of_decide_eq_true lw
  have hL : (xs.map V.int).length = xs.length := List.length_map ..
  refine ⟨_, pss_cons (ps_if ((pt_cmpR op_eq ((pe_callB call_len_seq (by rfl) (Bl.len_ B) PySem.boot_len (pa_cons (pv 0) pa_nil))) pe_int (nomark _))) (pss_one (ps_ret (pe_op op_fdivX (pe_op op_shlN (pe_un un_neg ((pe_ix ix_tup (pv 0) pe_int (fun _ _ => rfl)))) (pv 3)) ((pe_ix ix_tup (pv 0) pe_int (fun _ _ => rfl)))))) pss_nil)
    (pss_cons ((ps_set (i := 4) (FnScope.nd g49) rfl (Or.inl rfl) pe_int))
    (pss_cons (ps_whI PassesOwn.never ((pt_cmpR op_lt (pv 2) (pv 3) (nomark _)))
      (pss_cons ((ps_set (i := 4) (FnScope.nd g49) rfl (Or.inl rfl) (pe_callB (call_min2 rfl) (by rfl) B.min_ PyProof.Rows.boot_min (pa_cons (pv 4) (pa_cons (pe_op op_sub (pv 3) (pv 2)) pa_nil)))))
      (pss_cons ((ps_set (i := 5) (FnScope.nd g49) rfl (Or.inl rfl) (pe_cl C hr (pa_cons (pv 0) (pa_cons (pv 1) (pa_cons (pv 2) (pa_cons (pv 4) pa_nil)))))))
      (pss_one (ps_if (pt_cmpR op_isN (pv 5) pe_non (nomark _)) (pss_one (ps_aug (i := 4) g49.nd rfl (Or.inl rfl) pe_int iop_fdiv))
        (pss_one (ps_par3 (i := 1) (j := 2) (l := 4) rfl g49.nd rfl rfl rfl (by decide) (by decide) (by decide) rfl rfl rfl (pa_cons (pv 5) (pa_cons (pe_op op_add (pv 2) (pv 4)) (pa_cons (pe_op op_mul pe_int (pv 4)) pa_nil))) rfl)))))))
    (pss_one (ps_ret (pe_op op_shrN (pv 1) (pe_op op_sub (pv 2) (pv 3))))))), ?_⟩
  refine ⟨_, rfl, p, _, rfl, .inr (SqT.of h0), rfl, _, rfl, ?_⟩
  by_cases e2 : xs.length = 2
  · rw [if_pos e2] at ok2
    simp only [Bool.and_eq_true, Bool.not_eq_true', decide_eq_false_iff_not] at ok2
    obtain ⟨⟨o1, o2⟩, o3⟩ := ok2
    rw [decide_eq_true (show V.int (((xs.map V.int).length : Nat) : Int) = V.int 2 by rw [hL, e2]; rfl)]
    refine iteT ⟨_, rfl, p, _, _, _, rfl, rfl, SqT.of h0, atI_nat (j := 0) (getD_map (by omega)), _, rfl, _, rfl, _, wd, rfl, rfl, shl_ok (n := 4000) (of_decide_eq_true (by unfold smI at o1; rw [Int.natAbs_neg]; exact o1)) (by omega), ?_⟩
    refine ⟨_, rfl, p, _, _, _, rfl, rfl, SqT.of h0, atI_nat (j := 1) (getD_map (by omega)), _, _, rfl, rfl, ⟨o3, Nat.lt_of_lt_of_le (log_lt (of_decide_eq_true o2) (by decide)) (by decide)⟩, k _ _ (Same.refl _) ?_⟩
    rw [refL, if_pos e2]
  · rw [if_neg e2] at ok2
    rw [decide_eq_false (show ¬ V.int (((xs.map V.int).length : Nat) : Int) = V.int 2 from fun z => e2 (by rw [hL] at z; injection z with z; omega))]
    refine iteF ?_
    have hR : refL xs near b wd = (refS xs wd 20000 near b 1).1 / 2 ^ ((refS xs wd 20000 near b 1).2 - wd) := by rw [refL, if_neg e2]
    refine ⟨fun m σ H' => Same H H' ∧ ∃ (nr : Int) (bb st : Nat) (z5 : Option V), σ = [some (.ref p), some (.int nr), some (.int (bb : Int)), some (.int (wd : Int)), some (.int (st : Int)), z5] ∧ okF xs wd m nr bb st = true ∧ refS xs wd m nr bb st = refS xs wd 20000 near b 1,
      ⟨20000, Same.refl _, near, b, 1, none, rfl, ok2, rfl⟩, ?_⟩
    rintro m σ H1 ⟨s1, nr, bb, st, z5, rfl, ok3, er⟩
    refine ⟨_, rfl, _, rfl, _, _, rfl, rfl, _, rfl, ite2 (fun hb => ?_) (fun hb => ?_)⟩
    · have hb2 : bb < wd := by
        have q : (bb : Int) < (wd : Int) := of_decide_eq_true hb
        omega
      cases m with
      | zero => exact absurd (of_decide_eq_true ok3) (by omega)
      | succ m =>
        unfold okF at ok3
        rw [decide_eq_false (show ¬ wd ≤ bb by omega), Bool.false_or] at ok3
        obtain ⟨og, on⟩ := Bool.and_eq_true_iff.mp ok3
        unfold refS at er
        rw [if_neg (show ¬ wd ≤ bb by omega)] at er
        have em : (if (wd : Int) - (bb : Int) < (st : Int) then (wd : Int) - (bb : Int) else (st : Int)) = ((min st (wd - bb) : Nat) : Int) := by
          split <;> omega
        refine ⟨_, rfl, _, rfl, _, rfl, _, _, rfl, rfl, _, _, rfl, ?_⟩
        show tSeq _ _ _ [some (.ref p), some (.int nr), some (.int (bb : Int)), some (.int (wd : Int)), some (.int (if (wd : Int) - (bb : Int) < (st : Int) then (wd : Int) - (bb : Int) else (st : Int))), z5] H1
        rw [em]
        refine ⟨_, rfl, _, rfl, _, rfl, _, rfl, (p, xs, nr, bb, min st (wd - bb)), rfl, ⟨TI.same s1 h, og⟩, ?_⟩
        rintro _ H2 s2 rfl
        have lm : min st (wd - bb) ≤ 4000 := by omega
        cases hg : gueL xs nr bb (min st (wd - bb)) with
        | none =>
          rw [hg] at on er
          refine ⟨_, rfl, rfl, _, rfl, iteT ⟨_, rfl, _, _, rfl, rfl, ⟨by decide, by decide⟩, m, Nat.lt_succ_self m, s1.trans s2, nr, bb, min st (wd - bb) / 2, some (oV none), ?_, on, er⟩⟩
          show [some (V.ref p), some (V.int nr), some (V.int (bb : Int)), some (V.int (wd : Int)), some (V.int (((min st (wd - bb) : Nat) : Int) / 2)), some (oV none)] = _
          rw [show ((min st (wd - bb) : Nat) : Int) / 2 = ((min st (wd - bb) / 2 : Nat) : Int) by omega]
        | some z =>
          rw [hg] at on er
          refine ⟨_, rfl, rfl, _, rfl, iteF ?_⟩
          refine ⟨_, rfl, _, rfl, _, rfl, _, _, rfl, rfl, _, rfl, _, _, rfl, rfl, .inl ⟨by decide, by decide⟩, _, _, _, rfl, ?_⟩
          exact ⟨m, Nat.lt_succ_self m, s1.trans s2, z, bb + min st (wd - bb), 2 * min st (wd - bb), _, rfl, on, er⟩
    · have hb2 : wd ≤ bb := by
        have q : ¬ ((bb : Int) < (wd : Int)) := fun q => hb (decide_eq_true q)
        omega
      have e1 : refS xs wd m nr bb st = (nr, bb) := by
        cases m with
        | zero => rfl
        | succ m =>
          unfold refS
          rw [if_pos hb2]
      rw [e1] at er
      have en : ((bb : Int) - (wd : Int)) = ((bb - wd : Nat) : Int) := by omega
      refine ⟨_, rfl, _, rfl, _, rfl, _, _, rfl, rfl, nr, bb - wd, rfl, congrArg V.int en, k _ _ s1 ?_⟩
      rw [hR, ← er]
end
end Xq

/-! Polynomials of any degree: lonely_stretch, stretch_of. -/
namespace Xq
open PySem PySem.Spec PyProof.Rows L2
def okChB (cs : List (List Int)) (t b : Int) : Bool := decide (cs.length ≤ 100) && cs.all fun xs => okVB xs t b
theorem okChB_ok {cs : List (List Int)} {t b : Int} (h : okChB cs t b = true) : okCh cs t b :=
  ⟨of_decide_eq_true (Bool.and_eq_true_iff.mp h).1, fun xs hx => okVB_ok (List.all_eq_true.mp (Bool.and_eq_true_iff.mp h).2 xs hx)⟩
def okUB (cs : List (List Int)) : Bool := !cs.isEmpty && decide (1 ≤ (cs.headD []).length) && decide ((cs.headD []).length ≤ 1000) && okChB cs (-(reachL (cs.headD []))) 1
theorem okUB_ok {cs : List (List Int)} (h : okUB cs = true) : okU cs := by
  unfold okUB at h
  simp only [Bool.and_eq_true, Bool.not_eq_true', decide_eq_true_eq] at h
  obtain ⟨⟨⟨h1, h2⟩, h3⟩, h4⟩ := h
  refine ⟨fun e => ?_, h2, h3, okChB_ok h4⟩
  rw [e] at h1
  cases h1
/-- one turn of lonely_stretch -/
def lonT (lo hi : Int) (b : Nat) : Int × Int × Nat := if hi - lo = 1 then (2 * lo, 2 * hi, b + 1) else (lo, hi, b)
def lonM (lo hi : Int) (b : Nat) : Int := ((lonT lo hi b).1 + (lonT lo hi b).2.1) / 2
def lonGo (cs : List (List Int)) (lo hi : Int) (b : Nat) : Bool := decide (hi - lo > 1) || decide (chgL cs lo (pw b) - chgL cs hi (pw b) > 1)
def lonS (cs : List (List Int)) (rank : Int) : Nat → Int → Int → Nat → Int × Nat
  | 0, lo, _, b => (lo, b)
  | n + 1, lo, hi, b => if lonGo cs lo hi b then
      (if upL cs (lonM lo hi b) (pw (lonT lo hi b).2.2) > rank then lonS cs rank n (lonT lo hi b).1 (lonM lo hi b) (lonT lo hi b).2.2 else lonS cs rank n (lonM lo hi b) (lonT lo hi b).2.1 (lonT lo hi b).2.2)
    else (lo, b)
def okLo (cs : List (List Int)) (rank : Int) : Nat → Int → Int → Nat → Bool
  | 0, lo, hi, b => decide (b < 2000) && okChB cs lo (pw b) && okChB cs hi (pw b) && !lonGo cs lo hi b
  | n + 1, lo, hi, b => decide (b < 2000) && okChB cs lo (pw b) && okChB cs hi (pw b) && (!lonGo cs lo hi b || (okChB cs (lonM lo hi b) (pw (lonT lo hi b).2.2) &&
      if upL cs (lonM lo hi b) (pw (lonT lo hi b).2.2) > rank then okLo cs rank n (lonT lo hi b).1 (lonM lo hi b) (lonT lo hi b).2.2 else okLo cs rank n (lonM lo hi b) (lonT lo hi b).2.1 (lonT lo hi b).2.2))
/-- what lonely_stretch tells -/
def lonL (xs : List Int) (rank : Int) : Int × Nat := lonS (sturmL xs) rank 60 0 (reachL xs) 0
def okLon (xs : List Int) (rank : Int) : Bool := okS xs && okUB (sturmL xs) && okLo (sturmL xs) rank 60 0 (reachL xs) 0
/-- what stretch_of tells -/
def strL (xs : List Int) (rank : Int) : Int × Nat := (refL xs (lonL xs rank).1 (lonL xs rank).2 (max (lonL xs rank).2 64), max (lonL xs rank).2 64)
def okStr (xs : List Int) (rank : Int) : Bool := okLon xs rank && okRf xs (lonL xs rank).1 (lonL xs rank).2 (max (lonL xs rank).2 64)
section
variable {P : Program} {w : World} {K : PySem.W.Frag} {mg : Str → Option Value} {base : Heap}
abbrev nL : List Str := ["equation", "rank", "chain", "low", "high", "bits", "middle"]
theorem g48 : FnScope nL ["equation", "rank"] (defScope (top 48)) := (⟨rfl, rfl, rfl, by decide +kernel, rfl, by decide +kernel, by decide +kernel⟩)
abbrev spLoneG : Sp := Prm (α := Addr × List Int × Int) (fun a => [.ref a.1, .int a.2.2]) (fun a H => TI H a.1 a.2.1 ∧ okLon a.2.1 a.2.2 = true) (fun a H v H' => ∃ r, v = .ref r ∧ TI H' r [(lonL a.2.1 a.2.2).1, ((lonL a.2.1 a.2.2).2 : Int)])
theorem c_loneG (D : Df K mg "lonely_stretch" (top 48)) (CS : Cal P w K mg base 4 "sturm_chain" ["terms"] spSturmG) (CR : Cal P w K mg base 1 "reach" ["terms"] spReachG) (CC : Cal P w K mg base 2 "changes" ["chain", "top", "bottom"] spChgG) (CU : Cal P w K mg base 3 "roots_up_to" ["chain", "top", "bottom"] spUpG) : Cal P w K mg base 5 "lonely_stretch" ["equation", "rank"] spLoneG := by
  refine mkC D g48 (fun _ _ _ _ _ _ us hl => match us, hl with | [_, _], _ => rfl) (fun _ => rfl) (fun f cdv A outer s H a Q E hr h k => ?_)
  obtain ⟨p, xs, rank⟩ := a
  obtain ⟨h, ok⟩ := h
  have h : TI H p xs := h
  have ok : okLon xs rank = true := ok
  have k : ∀ v H', Same H H' → (∃ r, v = .ref r ∧ TI H' r [(lonL xs rank).1, ((lonL xs rank).2 : Int)]) → Q v H' := k
  obtain ⟨ok, oL⟩ := Bool.and_eq_true_iff.mp ok
  obtain ⟨oS, oU⟩ := Bool.and_eq_true_iff.mp ok
  have oU := okUB_ok oU
  have l12 : 1 ≤ xs.length ∧ xs.length ≤ 1000 := by
    obtain ⟨z, _⟩ := Bool.and_eq_true_iff.mp oS
    obtain ⟨z1, z2⟩ := Bool.and_eq_true_iff.mp z
    have z1 := of_decide_eq_true z1
    have z2 := of_decide_eq_true z2
    omega
  refine ⟨_, pss_cons ((ps_set (i := 2) (FnScope.nd g48) rfl (Or.inl rfl) (pe_cl CS hr (pa_cons (pv 0) pa_nil))))
    (pss_cons (ps_par3 (i := 3) (j := 4) (l := 5) rfl g48.nd rfl rfl rfl (by decide) (by decide) (by decide) rfl rfl rfl (pa_cons pe_int (pa_cons (pe_cl CR hr (pa_cons (pv 0) pa_nil)) (pa_cons pe_int pa_nil))) rfl)
    (pss_cons (ps_whI PassesOwn.never (PW.pt (pw_or ((pt_cmpR op_gt (pe_op op_sub (pv 4) (pv 3)) pe_int (nomark _))) (pw_or1 ((pt_cmpR op_gt (pe_op op_sub (pe_cl CC hr (pa_cons (pv 2) (pa_cons (pv 3) (pa_cons (pe_op op_shlN pe_int (pv 5)) pa_nil)))) (pe_cl CC hr (pa_cons (pv 2) (pa_cons (pv 4) (pa_cons (pe_op op_shlN pe_int (pv 5)) pa_nil))))) pe_int (nomark _))))))
      (C8.pss_cut (ps_if ((pt_cmpR op_eq (pe_op op_sub (pv 4) (pv 3)) pe_int (nomark _))) (pss_one (ps_par3 (i := 3) (j := 4) (l := 5) rfl g48.nd rfl rfl rfl (by decide) (by decide) (by decide) rfl rfl rfl (pa_cons (pe_op op_mul pe_int (pv 3)) (pa_cons (pe_op op_mul pe_int (pv 4)) (pa_cons (pe_op op_add (pv 5) pe_int) pa_nil))) rfl)) pss_nil)
      (pss_cons ((ps_set (i := 6) (FnScope.nd g48) rfl (Or.inl rfl) (pe_op op_fdiv (pe_op op_add (pv 3) (pv 4)) pe_int)))
      (pss_one (ps_if ((pt_cmpR op_gt (pe_cl CU hr (pa_cons (pv 2) (pa_cons (pv 6) (pa_cons (pe_op op_shlN pe_int (pv 5)) pa_nil)))) (pv 1) (nomark _))) (pss_one ((ps_set (i := 4) (FnScope.nd g48) rfl (Or.inl rfl) (pv 6)))) (pss_one ((ps_set (i := 3) (FnScope.nd g48) rfl (Or.inl rfl) (pv 6)))))))))
    (pss_one (ps_ret (pe_tup (pa_cons (pv 3) (pa_cons (pv 5) pa_nil))))))), ?_⟩
  refine ⟨_, rfl, (p, xs), rfl, ⟨h, oS⟩, ?_⟩
  rintro _ H1 s1 ⟨c, rfl, hc⟩
  have hc : Chn H1 c (sturmL xs) := hc
  refine ⟨_, rfl, (p, xs), rfl, ⟨TI.same s1 h, l12⟩, ?_⟩
  rintro _ H2 s2 rfl
  refine ⟨_, _, _, rfl, ?_⟩
  have hc2 := hc.same s2
  refine ⟨fun m σ H' => Same H2 H' ∧ ∃ (lo hi : Int) (b : Nat) (z : Option V), σ = [some (.ref p), some (.int rank), some (.ref c), some (.int lo), some (.int hi), some (.int (b : Int)), z] ∧ okLo (sturmL xs) rank m lo hi b = true ∧ lonS (sturmL xs) rank m lo hi b = lonL xs rank,
    ⟨60, Same.refl _, 0, reachL xs, 0, none, rfl, oL, rfl⟩, ?_⟩
  rintro m σ H3 ⟨s3, lo, hi, b, z, rfl, ok3, er⟩
  have oks : b < 2000 ∧ okChB (sturmL xs) lo (pw b) = true ∧ okChB (sturmL xs) hi (pw b) = true := by
    cases m with
    | zero =>
      obtain ⟨x, _⟩ := Bool.and_eq_true_iff.mp ok3
      obtain ⟨x, x3⟩ := Bool.and_eq_true_iff.mp x
      obtain ⟨x1, x2⟩ := Bool.and_eq_true_iff.mp x
      exact ⟨of_decide_eq_true x1, x2, x3⟩
    | succ m =>
      obtain ⟨x, _⟩ := Bool.and_eq_true_iff.mp ok3
      obtain ⟨x, x3⟩ := Bool.and_eq_true_iff.mp x
      obtain ⟨x1, x2⟩ := Bool.and_eq_true_iff.mp x
      exact ⟨of_decide_eq_true x1, x2, x3⟩
  obtain ⟨hb0, ol, oh⟩ := oks
  have hc3 := hc2.same s3
  have cs1 : CShl 1 (b : Int) := shl_ok (n := 2) (by decide) (by omega)
  -- what a turn leaves
  have turn : lonGo (sturmL xs) lo hi b = true → ∃ m', m = m' + 1 ∧ okChB (sturmL xs) (lonM lo hi b) (pw (lonT lo hi b).2.2) = true ∧
      (upL (sturmL xs) (lonM lo hi b) (pw (lonT lo hi b).2.2) > rank → okLo (sturmL xs) rank m' (lonT lo hi b).1 (lonM lo hi b) (lonT lo hi b).2.2 = true ∧ lonS (sturmL xs) rank m' (lonT lo hi b).1 (lonM lo hi b) (lonT lo hi b).2.2 = lonL xs rank) ∧
      (¬ upL (sturmL xs) (lonM lo hi b) (pw (lonT lo hi b).2.2) > rank → okLo (sturmL xs) rank m' (lonM lo hi b) (lonT lo hi b).2.1 (lonT lo hi b).2.2 = true ∧ lonS (sturmL xs) rank m' (lonM lo hi b) (lonT lo hi b).2.1 (lonT lo hi b).2.2 = lonL xs rank) := by
    intro hg
    cases m with
    | zero =>
      have x := (Bool.and_eq_true_iff.mp ok3).2
      rw [hg] at x
      cases x
    | succ m =>
      have x := (Bool.and_eq_true_iff.mp ok3).2
      rw [hg, Bool.not_true, Bool.false_or] at x
      obtain ⟨x1, x2⟩ := Bool.and_eq_true_iff.mp x
      unfold lonS at er
      rw [if_pos hg] at er
      refine ⟨m, rfl, x1, fun q => ?_, fun q => ?_⟩
      · rw [if_pos q] at x2 er
        exact ⟨x2, er⟩
      · rw [if_neg q] at x2 er
        exact ⟨x2, er⟩
  have b1 : (lonT lo hi b).2.2 < 2001 := by
    unfold lonT
    split
    · show b + 1 < 2001
      omega
    · show b < 2001
      omega
  have cs2 : CShl 1 (((lonT lo hi b).2.2 : Nat) : Int) := shl_ok (n := 2) (by decide) (by omega)
  have stop : lonGo (sturmL xs) lo hi b = false → lonL xs rank = (lo, b) := by
    intro hg
    rw [← er]
    cases m with
    | zero => rfl
    | succ m =>
      unfold lonS
      rw [hg]
      rfl
  refine ⟨_, rfl, _, rfl, _, _, rfl, rfl, _, _, rfl, rfl, _, rfl, ?_⟩
  refine ite2 (fun hb => ?_) (fun hb => ?_)
  · have hb2 : hi - lo > 1 := of_decide_eq_true hb
    obtain ⟨m', em, om, t1, t2⟩ := turn (by unfold lonGo; rw [hb]; rfl)
    refine ⟨fun σ' H' => σ' = [some (.ref p), some (.int rank), some (.ref c), some (.int (lonT lo hi b).1), some (.int (lonT lo hi b).2.1), some (.int (((lonT lo hi b).2.2 : Nat) : Int)), z] ∧ H' = H3, ?_, ?_⟩
    · refine ⟨_, rfl, _, rfl, _, _, rfl, rfl, rfl, _, rfl, ?_⟩
      have n1 : ¬ (hi - lo = 1) := by omega
      rw [decide_eq_false (show ¬ V.int (hi - lo) = V.int 1 from fun q => n1 (by injection q))]
      refine iteF ⟨?_, rfl⟩
      rw [lonT, if_neg n1]
    · rintro σ' H4 ⟨rfl, rfl⟩
      refine ⟨_, rfl, _, rfl, _, _, rfl, rfl, _, _, rfl, rfl, ⟨by decide, by decide⟩, ?_⟩
      refine ⟨_, rfl, _, rfl, _, rfl, 1, (lonT lo hi b).2.2, rfl, rfl, cs2, (c, sturmL xs, lonM lo hi b, pw (lonT lo hi b).2.2), rfl, ⟨hc3, oU, okChB_ok om⟩, ?_⟩
      rintro _ H5 s5 rfl
      refine ⟨_, rfl, _, _, rfl, rfl, _, rfl, ?_⟩
      refine ite2 (fun hd => ?_) (fun hd => ?_)
      · obtain ⟨t1, t3⟩ := t1 (of_decide_eq_true hd)
        exact ⟨_, rfl, m', by omega, s3.trans s5, (lonT lo hi b).1, lonM lo hi b, (lonT lo hi b).2.2, _, rfl, t1, t3⟩
      · obtain ⟨t2, t3⟩ := t2 (fun q => hd (decide_eq_true q))
        exact ⟨_, rfl, m', by omega, s3.trans s5, lonM lo hi b, (lonT lo hi b).2.1, (lonT lo hi b).2.2, _, rfl, t2, t3⟩
  · have hb2 : ¬ hi - lo > 1 := fun q => hb (decide_eq_true q)
    have gb : lonGo (sturmL xs) lo hi b = decide (chgL (sturmL xs) lo (pw b) - chgL (sturmL xs) hi (pw b) > 1) := by
      unfold lonGo
      rw [decide_eq_false hb2]
      rfl
    refine ⟨_, rfl, _, rfl, _, rfl, 1, b, rfl, rfl, cs1, (c, sturmL xs, lo, pw b), rfl, ⟨hc3, okChB_ok ol⟩, ?_⟩
    rintro _ H4 s4 rfl
    refine ⟨_, rfl, _, rfl, _, rfl, 1, b, rfl, rfl, cs1, (c, sturmL xs, hi, pw b), rfl, ⟨hc3.same s4, okChB_ok oh⟩, ?_⟩
    rintro _ H5 s5 rfl
    have s45 := s4.trans s5
    refine ⟨_, _, rfl, rfl, _, _, rfl, rfl, _, rfl, ?_⟩
    refine ite2 (fun hd => ?_) (fun hd => ?_)
    · obtain ⟨m', em, om, t1, t2⟩ := turn (gb.trans hd)
      refine ⟨fun σ' H' => σ' = [some (.ref p), some (.int rank), some (.ref c), some (.int (lonT lo hi b).1), some (.int (lonT lo hi b).2.1), some (.int (((lonT lo hi b).2.2 : Nat) : Int)), z] ∧ H' = H5, ?_, ?_⟩
      · refine ⟨_, rfl, _, rfl, _, _, rfl, rfl, rfl, _, rfl, ?_⟩
        by_cases n1 : hi - lo = 1
        · rw [decide_eq_true (show V.int (hi - lo) = V.int 1 by rw [n1])]
          refine iteT ⟨_, rfl, _, _, rfl, rfl, .inl ⟨by decide, by decide⟩, _, rfl, _, _, rfl, rfl, .inl ⟨by decide, by decide⟩, _, rfl, _, _, rfl, rfl, _, _, _, rfl, ?_, rfl⟩
          rw [lonT, if_pos n1]
          rfl
        · rw [decide_eq_false (show ¬ V.int (hi - lo) = V.int 1 from fun q => n1 (by injection q))]
          refine iteF ⟨?_, rfl⟩
          rw [lonT, if_neg n1]
      · rintro σ' H6 ⟨rfl, rfl⟩
        refine ⟨_, rfl, _, rfl, _, _, rfl, rfl, _, _, rfl, rfl, ⟨by decide, by decide⟩, ?_⟩
        refine ⟨_, rfl, _, rfl, _, rfl, 1, (lonT lo hi b).2.2, rfl, rfl, cs2, (c, sturmL xs, lonM lo hi b, pw (lonT lo hi b).2.2), rfl, ⟨hc3.same s45, oU, okChB_ok om⟩, ?_⟩
        rintro _ H7 s7 rfl
        refine ⟨_, rfl, _, _, rfl, rfl, _, rfl, ?_⟩
        refine ite2 (fun hd => ?_) (fun hd => ?_)
        · obtain ⟨t1, t3⟩ := t1 (of_decide_eq_true hd)
          exact ⟨_, rfl, m', by omega, s3.trans (s45.trans s7), (lonT lo hi b).1, lonM lo hi b, (lonT lo hi b).2.2, _, rfl, t1, t3⟩
        · obtain ⟨t2, t3⟩ := t2 (fun q => hd (decide_eq_true q))
          exact ⟨_, rfl, m', by omega, s3.trans (s45.trans s7), lonM lo hi b, (lonT lo hi b).2.1, (lonT lo hi b).2.2, _, rfl, t2, t3⟩
    · have hd2 : lonGo (sturmL xs) lo hi b = false := by
        rw [gb]
        exact Bool.eq_false_iff.mpr hd
      have e := stop hd2
      refine ⟨_, rfl, _, rfl, (by show 2 ≤ sizeLine; decide), fun r hr2 => ?_⟩
      refine k _ _ (s1.trans (s2.trans (s3.trans (s4.trans (Same.new s5 hr2))))) ⟨r, rfl, ?_⟩
      rw [e]
      exact upd_same
abbrev nS : List Str := ["equation", "rank", "near", "bits", "wanted"]
theorem g47 : FnScope nS ["equation", "rank"] (defScope (top 47)) := (⟨rfl, rfl, rfl, by decide +kernel, rfl, by decide +kernel, by decide +kernel⟩)
abbrev spStrG : Sp := Prm (α := Addr × List Int × Int) (fun a => [.ref a.1, .int a.2.2]) (fun a H => TI H a.1 a.2.1 ∧ okStr a.2.1 a.2.2 = true) (fun a H v H' => ∃ r, v = .ref r ∧ TI H' r [(strL a.2.1 a.2.2).1, ((strL a.2.1 a.2.2).2 : Int)])
theorem c_strG (D : Df K mg "stretch_of" (top 47)) (B : Bl mg) (CL : Cal P w K mg base 5 "lonely_stretch" ["equation", "rank"] spLoneG) (CF : Cal P w K mg base 3 "refined" ["equation", "near", "bits", "wanted"] spRefG) : Cal P w K mg base 6 "stretch_of" ["equation", "rank"] spStrG := by
  refine mkC D g47 (fun _ _ _ _ _ _ us hl => match us, hl with | [_, _], _ => rfl) (fun _ => rfl) (fun f cdv A outer s H a Q E hr h k => ?_)
  obtain ⟨p, xs, rank⟩ := a
  obtain ⟨h, ok⟩ := h
  have h : TI H p xs := h
  obtain ⟨o1, o2⟩ := Bool.and_eq_true_iff.mp (show okStr xs rank = true from ok)
  obtain ⟨tb, htb⟩ := B.bits_
  refine ⟨_, pss_cons (ps_asg (pe_cl CL hr (pa_cons (pv 0) (pa_cons (pv 1) pa_nil))) (pg_tup rfl (pgs_cons ((pg_name (i := 2) (FnScope.nd g47) rfl (Or.inl rfl))) (pgs_cons ((pg_name (i := 3) (FnScope.nd g47) rfl (Or.inl rfl))) pgs_nil))))
    (pss_cons ((ps_set (i := 4) (FnScope.nd g47) rfl (Or.inl rfl) (pe_callB (call_max2 rfl) (by rfl) B.max_ PyProof.Rows.boot_max (pa_cons (pv 3) (pa_cons (pe_glob (v := .int 64) (by rfl) htb ⟨_, rfl⟩) pa_nil)))))
    (pss_one (ps_ret (pe_tup (pa_cons (pe_cl CF hr (pa_cons (pv 0) (pa_cons (pv 2) (pa_cons (pv 3) (pa_cons (pv 4) pa_nil))))) (pa_cons (pv 4) pa_nil)))))), ?_⟩
  refine ⟨_, rfl, _, rfl, (p, xs, rank), rfl, ⟨h, o1⟩, ?_⟩
  rintro _ H1 s1 ⟨r, rfl, hr1⟩
  refine ⟨r, _, rfl, SqT.of hr1, rfl, _, _, rfl, _, _, rfl, rfl, ?_⟩
  have em : (if (64 : Int) > ((lonL xs rank).2 : Int) then (64 : Int) else ((lonL xs rank).2 : Int)) = ((max (lonL xs rank).2 64 : Nat) : Int) := by
    split <;> omega
  refine ⟨_, rfl, _, _, rfl, ?_⟩
  refine ⟨_, rfl, _, rfl, _, rfl, _, rfl, (p, xs, (lonL xs rank).1, (lonL xs rank).2, max (lonL xs rank).2 64), ?_, ⟨TI.same s1 h, o2⟩, ?_⟩
  · show [V.ref p, V.int _, V.int _, V.int (if (64 : Int) > ((lonL xs rank).2 : Int) then (64 : Int) else ((lonL xs rank).2 : Int))] = [V.ref p, V.int _, V.int _, V.int ((max (lonL xs rank).2 64 : Nat) : Int)]
    rw [em]
  rintro _ H2 s2 rfl
  refine ⟨_, rfl, (by show 2 ≤ sizeLine; decide), fun r2 hr2 => ?_⟩
  refine k _ _ (s1.trans (Same.new s2 hr2)) ⟨r2, rfl, ?_⟩
  show upd H2 r2 (.tup [.int (refL xs (lonL xs rank).1 (lonL xs rank).2 (max (lonL xs rank).2 64)), .int (if (64 : Int) > ((lonL xs rank).2 : Int) then (64 : Int) else ((lonL xs rank).2 : Int))]) r2 = some (.tup [.int _, .int ((max (lonL xs rank).2 64 : Nat) : Int)])
  rw [em]
  exact upd_same
end
end Xq

/-! Polynomials of any degree: divisors. -/
namespace Xq
open PySem PySem.Spec PyProof.Rows L2
def dvS (n : Int) : Nat → List Int
  | 0 => []
  | k + 1 => dvS n k ++ (bif Nat.beq (n.natAbs % (1 + k)) 0 then [((1 + k : Nat) : Int)] else [])
theorem dv_iff (n : Int) (k : Nat) : n % ((1 + k : Nat) : Int) = 0 ↔ n.natAbs % (1 + k) = 0 := by
  rw [← Int.dvd_iff_emod_eq_zero, Int.ofNat_dvd_left, Nat.dvd_iff_mod_eq_zero]
theorem dv_yes {n : Int} {k : Nat} {α : Type} {a b : α} (h : n % ((1 + k : Nat) : Int) = 0) : (bif Nat.beq (n.natAbs % (1 + k)) 0 then a else b) = a := by
  rw [(dv_iff n k).mp h]
  rfl
theorem dv_no {n : Int} {k : Nat} {α : Type} {a b : α} (h : ¬ n % ((1 + k : Nat) : Int) = 0) : (bif Nat.beq (n.natAbs % (1 + k)) 0 then a else b) = b := by
  have e : Nat.beq (n.natAbs % (1 + k)) 0 = false := by
    cases z : Nat.beq (n.natAbs % (1 + k)) 0 with
    | false => rfl
    | true => exact absurd ((dv_iff n k).mpr (Nat.eq_of_beq_eq_true z)) h
  rw [e]
  rfl
theorem dvS_len (n : Int) : ∀ k, (dvS n k).length ≤ k
  | 0 => Nat.le_refl _
  | k + 1 => by
    have := dvS_len n k
    show (dvS n k ++ _).length ≤ k + 1
    rw [List.length_append]
    cases Nat.beq (n.natAbs % (1 + k)) 0
    · simp; omega
    · simp; omega
def dvG (m i : Nat) : List Nat := bif Nat.beq (Nat.mod m i) 0 then [i] else []
/-- the divisors of m from k down to 1, ahead of acc: a plain recursor over plain Nat operations, quick in the kernel -/
def dvR (m : Nat) (k : Nat) : Nat → List Nat → List Nat := Nat.rec (motive := fun _ => Nat → List Nat → List Nat) (fun _ acc => acc) (fun _ ih i acc => ih (Nat.pred i) (bif Nat.beq (Nat.mod m i) 0 then i :: acc else acc)) k
theorem dvR_eq (m : Nat) : ∀ k acc, dvR m k k acc = ((List.range k).flatMap fun j => dvG m (1 + j)) ++ acc
  | 0, acc => rfl
  | k + 1, acc => by
    have e : dvR m (k + 1) (k + 1) acc = dvR m k k (dvG m (1 + k) ++ acc) := by
      show dvR m k k (bif Nat.beq (Nat.mod m (k + 1)) 0 then (k + 1) :: acc else acc) = _
      unfold dvG
      rw [Nat.add_comm 1 k]
      cases Nat.beq (Nat.mod m (k + 1)) 0 <;> rfl
    rw [e, dvR_eq m k, List.range_succ, List.flatMap_append, List.append_assoc]
    congr 1
    simp
theorem dvS_eq (n : Int) : ∀ k, dvS n k = ((List.range k).flatMap fun j => dvG n.natAbs (1 + j)).map Int.ofNat
  | 0 => rfl
  | k + 1 => by
    rw [List.range_succ, List.flatMap_append, List.map_append, ← dvS_eq n k]
    show dvS n k ++ _ = _
    congr 1
    show (bif Nat.beq (n.natAbs % (1 + k)) 0 then [((1 + k : Nat) : Int)] else []) = List.map _ (List.flatMap _ [k])
    rw [List.flatMap_cons, List.flatMap_nil, List.append_nil]
    show _ = List.map _ (bif Nat.beq (n.natAbs % (1 + k)) 0 then [1 + k] else [])
    cases Nat.beq (n.natAbs % (1 + k)) 0 <;> rfl
/-- what divisors tells -/
def dvL (n : Int) : List Int := (dvR n.natAbs n.natAbs n.natAbs []).map Int.ofNat
theorem dvL_eq {n : Int} (h : n.natAbs ≤ 1000) : dvS n n.natAbs = dvL n := by
  unfold dvL
  rw [dvS_eq, dvR_eq, List.append_nil]
section
variable {P : Program} {w : World} {K : PySem.W.Frag} {mg : Str → Option Value} {base : Heap}
theorem g55 : FnScope ["number", "low"] ["number"] (defScope (top 24)) := (⟨rfl, rfl, rfl, by decide +kernel, rfl, by decide +kernel, by decide +kernel⟩)
abbrev spDivG : Sp := Prm (α := Int) (fun i => [.int i]) (fun i _ => i.natAbs ≤ 1000) (fun i H v H' => ∃ q, v = .ref q ∧ LI H' q (dvL i))
theorem c_divG (D : Df K mg "divisors" (top 24)) (B : Bl mg) : Cal P w K mg base 1 "divisors" ["number"] spDivG := by
  refine mkC D g55 (fun _ _ _ _ _ _ us hl => match us, hl with | [_], _ => rfl) (fun _ => rfl) (fun f cdv A outer s H n Q E hr h k => ?_)
  have h : n.natAbs ≤ 1000 := h
  refine ⟨_, pss_one (ps_ret (pe_lc (own := [("low", 1)]) (g := gName 1) (tt := tTest (tOp rEq (tOp (rI (fun _ j => 0 < j) fun i j => .int (i % j)) (tVar 0) (tVar 1)) (tC (.int 0)))) (te := tVar 1) rfl g55.nd
      (pi_range2 (by rfl) B.range_ (pa_cons pe_int (pa_cons (pe_op op_add (pe_callB call_abs (by rfl) B.abs_ PyProof.Rows.boot_abs (pa_cons (pv 0) pa_nil)) pe_int) pa_nil)))
      (blkOk_by (N := ["number", "low"]) (sc := defScope (top 24)) (by decide +kernel)) (fun _ _ _ _ _ => (pg_name (i := 1) (FnScope.nd g55) rfl (Or.inl rfl))) (fun _ _ _ _ _ => pts_one ((pt_cmpR op_eq (pe_op op_mod (pv 0) (pv 1)) pe_int (nomark _))))
      (fun _ _ _ _ _ => pv 1))), ?_⟩
  have ea : (if n < 0 then -n else n) = (n.natAbs : Int) := by
    split <;> omega
  have en : ((if n < 0 then -n else n) + 1 - 1).toNat = n.natAbs := by
    rw [ea]
    omega
  refine ⟨_, rfl, n, rfl, _, _, rfl, rfl, _, _, rfl, ⟨by decide, by decide, by omega, by omega⟩, fun D hD => ?_⟩
  rw [en]
  refine lc_range (lo := 1) (fun i H' => Same H H' ∧ H' D = some (.lst ((dvS n i).map V.int))) ⟨same_new hD, upd_same⟩ (fun i H' hi e => ?_) (fun H' e => k _ _ e.1 ⟨D, rfl, by rw [← dvL_eq h]; exact e.2⟩)
  obtain ⟨s1, e1⟩ := e
  have ei : ((1 : Int) + (i : Int)) = ((1 + i : Nat) : Int) := by omega
  refine ⟨rfl, ?_⟩
  refine ⟨_, rfl, _, rfl, _, _, rfl, rfl, (by show (0 : Int) < 1 + (i : Int); omega), rfl, _, rfl, ?_⟩
  by_cases hz : n % ((1 + i : Nat) : Int) = 0
  · rw [decide_eq_true (show V.int (n % (1 + (i : Int))) = V.int 0 by rw [ei, hz])]
    refine iteT ⟨_, rfl, _, e1, ?_, Same.put s1 hD, ?_⟩
    · rw [List.length_map]
      exact sz_lt (Nat.le_trans (dvS_len n i) (by omega))
    · rw [upd_same]
      show some (HO.lst _) = some (HO.lst (List.map V.int (dvS n i ++ _)))
      rw [dv_yes hz, List.map_append, ei]
      rfl
  · rw [decide_eq_false (show ¬ V.int (n % (1 + (i : Int))) = V.int 0 from fun q => hz (ei ▸ V.int.inj q))]
    refine iteF ⟨s1, ?_⟩
    rw [e1]
    show some (HO.lst _) = some (HO.lst (List.map V.int (dvS n i ++ _)))
    rw [dv_no hz, List.append_nil]
end
end Xq

/-! Polynomials of any degree: linear_factor, where there is none. -/
namespace Xq
open PySem PySem.Spec PyProof.Rows L2
/-- no fraction's root -/
def okLin (xs : List Int) : Bool := decide (2 ≤ xs.length) && decide (xs.length ≤ 1000) && decide ((xs.getD 0 0).natAbs ≤ 1000) && decide ((xs.getLastD 0).natAbs ≤ 1000) && !decide (xs.getD 0 0 = 0) &&
  (dvL (xs.getD 0 0)).all fun t => (dvL (xs.getLastD 0)).all fun b => !decide (Nat.gcd t.natAbs b.natAbs = 1) || (okVB xs t b && okVB xs (-t) b && !decide (valL xs t b = 0) && !decide (valL xs (-t) b = 0))
section
variable {P : Program} {w : World} {K : PySem.W.Frag} {mg : Str → Option Value} {base : Heap}
abbrev nLf : List Str := ["terms", "bottoms", "top", "bottom", "side"]
theorem g56 : FnScope nLf ["terms"] (defScope (top 25)) := (⟨rfl, rfl, rfl, by decide +kernel, rfl, by decide +kernel, by decide +kernel⟩)
abbrev spLinG : Sp := Prm (α := Addr × List Int) (fun a => [.ref a.1]) (fun a H => TI H a.1 a.2 ∧ okLin a.2 = true) (fun a H v H' => v = .non)
theorem c_linG (D : Df K mg "linear_factor" (top 25)) (B : Bl mg) (CD : Cal P w K mg base 1 "divisors" ["number"] spDivG) (C : Cal P w K mg base 1 "value_at" ["terms", "top", "bottom"] spValG) : Cal P w K mg base 2 "linear_factor" ["terms"] spLinG := by
  refine mkC D g56 (fun _ _ _ _ _ _ us hl => match us, hl with | [_], _ => rfl) (fun _ => rfl) (fun f cdv A outer s H a Q E hr h k => ?_)
  obtain ⟨p, xs⟩ := a
  obtain ⟨h, ok⟩ := h
  have h : TI H p xs := h
  have h0 : H p = some (.tup (xs.map V.int)) := h
  have k : ∀ v H', Same H H' → v = .non → Q v H' := k
  have ok : okLin xs = true := ok
  unfold okLin at ok
  simp only [Bool.and_eq_true, Bool.not_eq_true', decide_eq_true_eq, decide_eq_false_iff_not] at ok
  obtain ⟨⟨⟨⟨⟨l2, l1⟩, d0⟩, dl⟩, n0⟩, al⟩ := ok
  have call : ∀ {H1 : Hp} {t b : Int} {Qv : VK}, Same H H1 → okVB xs t b = true → (∀ H2, Same H1 H2 → Qv (.int (valL xs t b)) H2) → spValG [.ref p, .int t, .int b] H1 Qv E0 := fun {H1 t b Qv} s1 o kk => by
    refine ⟨(p, xs, t, b), rfl, ⟨TI.same s1 h, okVB_ok o⟩, ?_⟩
    rintro _ H2 s2 rfl
    exact kk _ s2
  refine ⟨_, pss_cons (ps_if ((pt_cmpR op_eq ((pe_ix ix_tup (pv 0) pe_int (fun _ _ => rfl))) pe_int (nomark _))) pss_nv pss_nil)
    (pss_cons ((ps_set (i := 1) (FnScope.nd g56) rfl (Or.inl rfl) (pe_cl CD hr (pa_cons ((pe_ix ix_tup (pv 0) (pe_un un_neg pe_int) (fun _ _ => rfl))) pa_nil))))
    (pss_cons (ps_for PassesOwn.never rfl (pi_list (pe_cl CD hr (pa_cons ((pe_ix ix_tup (pv 0) pe_int (fun _ _ => rfl))) pa_nil))) ((pg_name (i := 2) (FnScope.nd g56) rfl (Or.inl rfl)))
      (pss_one (ps_for PassesOwn.never rfl (pi_list (pv 1)) ((pg_name (i := 3) (FnScope.nd g56) rfl (Or.inl rfl)))
        (pss_cons (ps_if ((pt_cmpR op_ne (pe_callBfun cr_gcd (by rfl) B.gcd_ (pa_cons (pv 2) (pa_cons (pv 3) pa_nil))) pe_int (nomark _))) (pss_one ps_continue) pss_nil)
        (pss_one (ps_for PassesOwn.never rfl (pi_tup (pe_tup (pa_cons (pv 2) (pa_cons (pe_un un_neg (pv 2)) pa_nil)))) ((pg_name (i := 4) (FnScope.nd g56) rfl (Or.inl rfl)))
          (pss_one (ps_if ((pt_cmpR op_eq (pe_cl C hr (pa_cons (pv 0) (pa_cons (pv 4) (pa_cons (pv 3) pa_nil)))) pe_int (nomark _))) pss_nv pss_nil))))))))
    (pss_one (ps_ret pe_non)))), ?_⟩
  have nz : ∀ {v : Int}, ¬ v = 0 → decide (V.int v = V.int 0) = false := fun {v} e => decide_eq_false fun q => e (V.int.inj q)
  refine ⟨_, rfl, p, _, _, _, rfl, rfl, SqT.of h0, atI_nat (j := 0) (getD_map (by omega)), rfl, _, rfl, ?_⟩
  rw [nz n0]
  refine iteF ⟨_, rfl, _, rfl, p, _, _, _, rfl, rfl, SqT.of h0, at_lastD (by omega), xs.getLastD 0, rfl, dl, ?_⟩
  rintro _ H1 s1 ⟨bo, rfl, hbo⟩
  have hbo : H1 bo = some (.lst ((dvL (xs.getLastD 0)).map V.int)) := hbo
  have h1 := s1 _ _ h0
  refine ⟨_, rfl, p, _, _, _, rfl, rfl, SqT.of h1, atI_nat (j := 0) (getD_map (by omega)), xs.getD 0 0, rfl, d0, ?_⟩
  rintro _ H2 s2 ⟨to, rfl, hto⟩
  have hto : H2 to = some (.lst ((dvL (xs.getD 0 0)).map V.int)) := hto
  have hbo2 := s2 _ _ hbo
  have s12 := s1.trans s2
  refine ⟨to, rfl, ⟨_, SqL.of hto⟩, for_list (xs := (dvL (xs.getD 0 0)).map V.int) (fun i σ H' => Same H2 H' ∧ ∃ z2 z3 z4 : Option V, σ = [some (.ref p), some (.ref bo), z2, z3, z4]) ⟨Same.refl _, none, none, none, rfl⟩ (fun i σ H' _ e => SqL.of (e.1 _ _ hto)) ?_ ?_⟩
  · rintro i x σ H3 hx ⟨s3, z2, z3, z4, rfl⟩
    obtain ⟨t, ht, rfl⟩ := at_map hx
    have alt := List.all_eq_true.mp al t (List.mem_of_getElem? ht)
    have hbo3 := s3 _ _ hbo2
    refine ⟨_, rfl, bo, rfl, ⟨_, SqL.of hbo3⟩, for_list (xs := (dvL (xs.getLastD 0)).map V.int) (fun i σ H' => Same H2 H' ∧ ∃ z3 z4 : Option V, σ = [some (.ref p), some (.ref bo), some (.int t), z3, z4]) ⟨s3, z3, z4, rfl⟩ (fun i σ H' _ e => SqL.of (e.1 _ _ hbo2)) ?_ ?_⟩
    · rintro j y σ H4 hy ⟨s4, z3, z4, rfl⟩
      obtain ⟨b, hb, rfl⟩ := at_map hy
      have alb := List.all_eq_true.mp alt b (List.mem_of_getElem? hb)
      refine ⟨_, rfl, _, rfl, t, b, rfl, rfl, _, rfl, ?_⟩
      by_cases hg : Nat.gcd t.natAbs b.natAbs = 1
      · rw [decide_eq_true hg, Bool.not_true, Bool.false_or] at alb
        simp only [Bool.and_eq_true, Bool.not_eq_true', decide_eq_false_iff_not] at alb
        obtain ⟨⟨⟨o1, o2⟩, v1⟩, v2⟩ := alb
        rw [decide_eq_true (show V.int ((Nat.gcd t.natAbs b.natAbs : Nat) : Int) = V.int 1 by rw [hg]; rfl)]
        refine iteF ⟨_, rfl, _, rfl, t, rfl, (by show 2 ≤ sizeLine; decide), fun a na => ?_⟩
        have t1 := same_new (o := .tup [.int t, .int (-t)]) na
        have ha : upd H4 a (.tup [.int t, .int (-t)]) a = some (.tup [.int t, .int (-t)]) := upd_same
        have s5 := s12.trans (s4.trans t1)
        refine ⟨a, rfl, ⟨_, SqT.of ha⟩, for_unr (xs := [.int t, .int (-t)]) walk_tup ?_⟩
        refine ⟨SqT.of ha, ?_⟩
        refine ⟨_, rfl, _, rfl, _, rfl, call s5 o1 fun H6 s6 => ⟨rfl, _, rfl, ?_⟩⟩
        rw [nz v1]
        refine iteF ⟨SqT.of (s6 _ _ ha), ?_⟩
        refine ⟨_, rfl, _, rfl, _, rfl, call (s5.trans s6) o2 fun H7 s7 => ⟨rfl, _, rfl, ?_⟩⟩
        rw [nz v2]
        exact iteF ⟨SqT.of (s7 _ _ (s6 _ _ ha)), s4.trans (t1.trans (s6.trans s7)), _, _, rfl⟩
      · rw [decide_eq_false (show ¬ V.int ((Nat.gcd t.natAbs b.natAbs : Nat) : Int) = V.int 1 from fun q => hg (by have := V.int.inj q; omega))]
        exact iteT ⟨s4, _, _, rfl⟩
    · rintro σ H4 ⟨s4, z3, z4, rfl⟩
      exact ⟨s4, _, _, _, rfl⟩
  · rintro σ H3 ⟨s3, z2, z3, z4, rfl⟩
    exact k _ _ (s12.trans s3) rfl
end
end Xq

/-! whole_roots. -/
namespace Xq
open PySem PySem.Spec PyProof.Rows L2
theorem cr_isqrt {X : Cx} : CallR X (.builtin "math.isqrt") (fun vs H Q => ∃ a : Int, vs = [.int a] ∧ 0 ≤ a ∧ a < 2 ^ 64 ∧ Q (.int ((Float64.isqrt a.toNat : Nat) : Int)) H) := by
  intro pins s σ H vs us Q I r h
  obtain ⟨a, rfl, h0, h1, q⟩ := h
  cases r with
  | cons r1 r2 =>
  cases r2
  obtain ⟨t, rfl⟩ := r1
  exact PySem.W.mg_isqrt h0 h1 ⟨.int _, H, I.tok _, ⟨_, rfl⟩, q⟩
def inn (c l s : Int) : Int := l * l - 4 * s * c
def wid (c l s : Int) : Int := ((Float64.isqrt (inn c l s).toNat : Nat) : Int)
/-- what whole_roots tells -/
def wr1 (s t : Int) : List Int := if t % (2 * s) = 0 then [t.fdiv (2 * s)] else []
def wrL (c l s : Int) : List Int := if inn c l s < 0 then [] else if ¬ wid c l s * wid c l s = inn c l s then [] else wr1 s (wid c l s - l) ++ wr1 s (-(wid c l s) - l)
def okWr (c l s : Int) : Bool := smI 4000 c && smI 4000 l && smI 4000 s && decide (inn c l s < 2 ^ 64) && (decide (inn c l s < 0) || (smI 4000 (wid c l s) && (!decide (wid c l s * wid c l s = inn c l s) || !decide (s = 0))))
theorem fm0 (z d : Int) : z.fmod d = 0 ↔ z % d = 0 := by
  rw [← Int.dvd_iff_emod_eq_zero, ← Int.dvd_iff_fmod_eq_zero]
section
variable {P : Program} {w : World} {K : PySem.W.Frag} {mg : Str → Option Value} {base : Heap}
abbrev nWr : List Str := ["constant", "linear", "square", "inner", "width", "tops", "top"]
theorem g59 : FnScope nWr ["constant", "linear", "square"] (defScope (top 28)) := (⟨rfl, rfl, rfl, by decide +kernel, rfl, by decide +kernel, by decide +kernel⟩)
abbrev spWrG : Sp := Prm (α := Int × Int × Int) (fun ⟨c, l, s⟩ => [.int c, .int l, .int s]) (fun ⟨c, l, s⟩ H => okWr c l s = true) (fun ⟨c, l, s⟩ H v H' => ∃ q, v = .ref q ∧ LI H' q (wrL c l s))
theorem c_wrG (D : Df K mg "whole_roots" (top 28)) (B : Bl mg) (iq : mg "isqrt" = some (.builtin "math.isqrt")) : Cal P w K mg base 1 "whole_roots" ["constant", "linear", "square"] spWrG := by
  refine mkC D g59 (fun _ _ _ _ _ _ us hl => match us, hl with | [_, _, _], _ => rfl) (fun _ => rfl) (fun f cdv A outer s H a Q E hr ok k => ?_)
  obtain ⟨c, l, sq⟩ := a
  have ok : okWr c l sq = true := ok
  unfold okWr at ok
  simp only [Bool.and_eq_true, decide_eq_true_eq] at ok
  obtain ⟨⟨⟨⟨oc, ol⟩, os⟩, oi⟩, or'⟩ := ok
  have sc := smI_ok (a := 4000) oc (by decide)
  have sl := smI_ok (a := 4000) ol (by decide)
  have ss := smI_ok (a := 4000) os (by decide)
  have k : ∀ v H', Same H H' → (∃ q, v = .ref q ∧ LI H' q (wrL c l sq)) → Q v H' := k
  refine ⟨_, pss_cons ((ps_set (i := 3) (FnScope.nd g59) rfl (Or.inl rfl) (pe_op op_sub (pe_op op_mulW (pv 1) (pv 1)) (pe_op op_mulW (pe_op op_mulW pe_int (pv 2)) (pv 0)))))
    (pss_cons (ps_if ((pt_cmpR op_lt (pv 3) pe_int (nomark _))) (pss_one (ps_ret (pe_lst pa_nil))) pss_nil)
    (pss_cons ((ps_set (i := 4) (FnScope.nd g59) rfl (Or.inl rfl) (pe_callBfun cr_isqrt (by rfl) iq (pa_cons (pv 3) pa_nil))))
    (pss_cons (ps_if ((pt_cmpR op_ne (pe_op op_mulW (pv 4) (pv 4)) (pv 3) (nomark _))) (pss_one (ps_ret (pe_lst pa_nil))) pss_nil)
    (pss_cons ((ps_set (i := 5) (FnScope.nd g59) rfl (Or.inl rfl) (pe_tup (pa_cons (pe_op op_sub (pv 4) (pv 1)) (pa_cons (pe_op op_sub (pe_un un_neg (pv 4)) (pv 1)) pa_nil)))))
    (pss_one (ps_ret (pe_lc (own := [("top", 6)]) (g := gName 6) (tt := tTest (tOp rEq (tOp (rI (fun _ j => j ≠ 0) fun i j => .int (i.fmod j)) (tVar 6) (tOp (rI CMulW fun i j => .int (i * j)) (tC (.int 2)) (tVar 2))) (tC (.int 0)))) (te := tOp (rI CDivX fun i j => .int (i.fdiv j)) (tVar 6) (tOp (rI CMulW fun i j => .int (i * j)) (tC (.int 2)) (tVar 2))) rfl g59.nd
      (pi_tup (pv 5))
      (blkOk_by (N := nWr) (sc := defScope (top 28)) (by decide +kernel)) (fun _ _ _ _ _ => (pg_name (i := 6) (FnScope.nd g59) rfl (Or.inl rfl))) (fun _ _ _ _ _ => pts_one ((pt_cmpR op_eq (pe_op op_modN (pv 6) (pe_op op_mulW pe_int (pv 2))) pe_int (nomark _))))
      (fun _ _ _ _ _ => pe_op op_fdivX (pv 6) (pe_op op_mulW pe_int (pv 2)))))))))), ?_⟩
  have c4 : CMulW 4 sq := cm (a := 4) (by decide) ss
  have s4 : Sm 4004 (4 * sq) := sm_mul (a := 4) (by decide) ss
  have c2 : CMulW 2 sq := cm (a := 4) (by decide) ss
  have nil : ∀ {H' : Hp}, Same H H' → wrL c l sq = [] → ∀ q, H' q = none → Q (.ref q) (upd H' q (.lst [])) := fun {H'} s1 e q hq => by
    refine k _ _ (Same.new s1 hq) ⟨q, rfl, ?_⟩
    rw [e]
    exact upd_same
  refine ⟨_, rfl, _, rfl, _, _, rfl, rfl, cm sl sl, _, rfl, _, _, rfl, rfl, c4, _, rfl, _, _, rfl, rfl, cm s4 sc, _, _, rfl, rfl, ?_⟩
  refine ⟨_, rfl, _, _, rfl, rfl, _, rfl, ?_⟩
  by_cases h0 : inn c l sq < 0
  · rw [decide_eq_true (show (l * l - 4 * sq * c) < 0 from h0)]
    refine iteT ⟨by decide, fun q hq => nil (Same.refl _) ?_ q hq⟩
    unfold wrL
    rw [if_pos h0]
  rw [decide_eq_false (show ¬ (l * l - 4 * sq * c) < 0 from h0)]
  rw [decide_eq_false h0, Bool.false_or] at or'
  obtain ⟨ow, or2⟩ := Bool.and_eq_true_iff.mp or'
  have sw := smI_ok (a := 4000) ow (by decide)
  refine iteF ⟨_, rfl, _, rfl, (by show (0 : Int) ≤ inn c l sq; omega), oi, ?_⟩
  show tSeq _ _ _ [some (.int c), some (.int l), some (.int sq), some (.int (inn c l sq)), some (.int (wid c l sq)), none, none] H
  refine ⟨_, rfl, _, rfl, _, _, rfl, rfl, cm sw sw, _, rfl, rfl, _, rfl, ?_⟩
  by_cases h1 : wid c l sq * wid c l sq = inn c l sq
  · rw [decide_eq_true h1, Bool.not_true, Bool.false_or] at or2
    have hs : ¬ sq = 0 := by
      rw [Bool.not_eq_true'] at or2
      exact of_decide_eq_false or2
    rw [decide_eq_true (show V.int (wid c l sq * wid c l sq) = V.int (inn c l sq) by rw [h1])]
    refine iteF ⟨_, rfl, _, rfl, _, _, rfl, rfl, _, rfl, _, rfl, _, rfl, _, _, rfl, rfl, (by show 2 ≤ sizeLine; decide), fun t ht => ?_⟩
    have s1 := same_new (o := .tup [.int (wid c l sq - l), .int (-(wid c l sq) - l)]) ht
    have h10 : upd H t (.tup [.int (wid c l sq - l), .int (-(wid c l sq) - l)]) t = some (.tup ([wid c l sq - l, -(wid c l sq) - l].map V.int)) := upd_same
    generalize upd H t (.tup [.int (wid c l sq - l), .int (-(wid c l sq) - l)]) = H1 at *
    have ew : wrL c l sq = wr1 sq (wid c l sq - l) ++ wr1 sq (-(wid c l sq) - l) := by
      unfold wrL
      rw [if_neg h0, if_neg (fun z => z h1)]
    have dz : CDivX 0 (2 * sq) := ⟨by omega, Nat.lt_of_lt_of_le (log_lt (sm_mul (a := 4) (i := 2) (by decide) ss) (by decide)) (by decide)⟩
    refine ⟨_, rfl, t, rfl, ⟨_, SqT.of h10⟩, fun D hD => lc_tup (xs := [wid c l sq - l, -(wid c l sq) - l].map V.int) (fun i H' => Same H1 H' ∧ H' D = some (.lst ((([wid c l sq - l, -(wid c l sq) - l].take i).flatMap (wr1 sq)).map V.int))) ⟨same_new hD, upd_same⟩ (fun i H' _ e => SqT.of (e.1 _ _ h10)) (fun i x H' hx e => ?_) (fun H' e => ?_)⟩
    · obtain ⟨s2, e2⟩ := e
      obtain ⟨z, hz, rfl⟩ := at_map hx
      have li := lt_of_at hz
      have tk : (([wid c l sq - l, -(wid c l sq) - l].take (i + 1)).flatMap (wr1 sq)) = (([wid c l sq - l, -(wid c l sq) - l].take i).flatMap (wr1 sq)) ++ wr1 sq z := by
        rw [List.take_succ, hz, List.flatMap_append]
        simp
      have ll : ((([wid c l sq - l, -(wid c l sq) - l].take i).flatMap (wr1 sq)).map V.int).length ≤ 2 := by
        rw [List.length_map]
        have h1 : ∀ t, (wr1 sq t).length ≤ 1 := fun t => by unfold wr1; split <;> simp
        have := h1 (wid c l sq - l)
        have := h1 (-(wid c l sq) - l)
        match i, li with
        | 0, _ => simp
        | 1, _ => simp; omega
      refine ⟨rfl, ?_⟩
      refine ⟨_, rfl, _, rfl, _, _, rfl, rfl, c2, _, _, rfl, rfl, (by show 2 * sq ≠ 0; omega), rfl, _, rfl, ?_⟩
      by_cases hm : z % (2 * sq) = 0
      · rw [decide_eq_true (show V.int (z.fmod (2 * sq)) = V.int 0 by rw [(fm0 _ _).mpr hm])]
        refine iteT ⟨_, rfl, _, rfl, _, _, rfl, rfl, c2, _, _, rfl, rfl, dz, _, e2, Nat.lt_of_le_of_lt ll (by decide), Same.put s2 hD, ?_⟩
        rw [upd_same, tk, List.map_append]
        unfold wr1
        rw [if_pos hm]
        rfl
      · rw [decide_eq_false (show ¬ V.int (z.fmod (2 * sq)) = V.int 0 from fun q => hm ((fm0 _ _).mp (V.int.inj q)))]
        refine iteF ⟨s2, ?_⟩
        rw [e2, tk]
        unfold wr1
        rw [if_neg hm, List.append_nil]
    · obtain ⟨s2, e2⟩ := e
      refine k _ _ (s1.trans s2) ⟨D, rfl, ?_⟩
      rw [ew]
      have e3 := e2
      rw [List.length_map, List.take_length] at e3
      show H' D = _
      rw [e3]
      simp
  · rw [decide_eq_false (show ¬ V.int (wid c l sq * wid c l sq) = V.int (inn c l sq) from fun q => h1 (V.int.inj q))]
    refine iteT ⟨by decide, fun q hq => nil (Same.refl _) ?_ q hq⟩
    unfold wrL
    rw [if_neg h0, if_pos h1]
end
end Xq

/-! divided, where it tells None. -/
namespace Xq
open PySem PySem.Spec PySem.Calls PyProof.Rows L2
theorem truth_ints {prog : Program} {w : World} {A : Around} {ns : List Int} {its : List Value} (r : Vals (ns.map V.int) its) :
    TruthOf prog w A (fun i v => its.toArray[i]? = some v) (fun i => ns.getD i 0 != 0) := fun i v s Q E hv hq => by
  have hv' : its[i]? = some v := by simpa using hv
  have hl := r.length
  rw [List.length_map] at hl
  have hi : i < its.length := by
    rcases Nat.lt_or_ge i its.length with q | q
    · exact q
    · rw [List.getElem?_eq_none q] at hv'
      cases hv'
  obtain ⟨u, hu, ru⟩ := r.get (i := i) (x := V.int (ns.getD i 0)) (by
    have hi2 : i < ns.length := by omega
    rw [List.getElem?_map, List.getElem?_eq_getElem hi2, List.getD_eq_getElem?_getD, List.getElem?_eq_getElem hi2]
    rfl)
  rw [hv'] at hu
  cases hu
  obtain ⟨t, rfl⟩ := ru
  exact PyProof.Rows.truthy_int hq
theorem any_rangeI : ∀ ns : List Int, (List.range ns.length).any (fun i => ns.getD i 0 != 0) = ns.any fun x => x != 0
  | [] => rfl
  | b :: bs => by
    rw [List.length_cons, List.range_succ_eq_map, List.any_cons, List.any_map, List.any_cons, ← any_rangeI bs]
    all_goals rfl
/-- any, of ints -/
theorem cr_anyI {X : Cx} (hc : X.calm = true) : CallR X (.builtin "any") (fun vs H Q => ∃ (a : Addr) (ns : List Int), vs = [V.ref a] ∧ SqL X.K H a (ns.map V.int) ∧ Q (.bl (ns.any fun x => x != 0)) H) := by
  intro pins s σ H vs us Q I r h
  obtain ⟨a, ns, rfl, hs, q⟩ := h
  obtain ⟨its, rv, hl, _⟩ := I.list hs
  rw [Vals.ref1 r]
  have hb := rv.length
  rw [List.length_map] at hb
  refine call_any_walk (iter_any hl.isList fun s₂ e2 st hne => ?_)
  subst e2
  refine ⟨_, _, _, _, _, _, _, rfl, Walks.list (A := X.A.in1) (I.ok.hd hc) _ a hne its.toArray, st, truth_ints rv, fun h' tk hk => ?_⟩
  refine ⟨.bl _, H, I.kept fun b o eo => hk b o (fun hmem => ?_) (Heap.get?_push_of_some _ eo), ?_, q⟩
  · rcases List.mem_cons.mp hmem with e1 | hmem
    · exact absurd (e1 ▸ Heap.lt_size eo) (Nat.lt_irrefl _)
    · cases hmem
  · show Value.bool _ = Value.bool _
    rw [← any_rangeI, List.size_toArray, hb]
end Xq

/-! divided, where it tells None. -/
namespace Xq
open PySem PySem.Spec PySem.Calls PyProof.Rows L2
def qD (ys rest : List Int) : Int := rest.getLastD 0 / ys.getLastD 0
def nxD (ys rest : List Int) : List Int := (stG (fun o t => o - qD ys rest * t) ys (rest.length - ys.length) rest ys.length).dropLast
/-- so many turns, and None at the end -/
def divN (ys : List Int) : Nat → List Int → Bool
  | 0, rest => decide (rest.length < ys.length) && rest.any fun x => x != 0
  | n + 1, rest => (decide (rest.length < ys.length) && rest.any fun x => x != 0) ||
      (decide (ys.length ≤ rest.length) && smB 4000 rest && decide (rest.length ≤ 1000) && smI 4000 (qD ys rest) && (!decide (rest.getLastD 0 % ys.getLastD 0 = 0) || divN ys n (nxD ys rest)))
def okDv (xs ys : List Int) : Bool := decide (0 < ys.getLastD 0) && decide (1 ≤ ys.length) && decide (ys.length ≤ 1000) && smB 4000 ys && divN ys 20 xs
section
variable {P : Program} {w : World} {K : PySem.W.Frag} {mg : Str → Option Value} {base : Heap}
abbrev nDv : List Str := ["one", "other", "rest", "found", "factor", "left", "shift", "at", "term"]
theorem g37 : FnScope nDv ["one", "other"] (defScope (top 19)) := (⟨rfl, rfl, rfl, by decide +kernel, rfl, by decide +kernel, by decide +kernel⟩)
abbrev spDvG : Sp := Prm (α := Addr × Addr × List Int × List Int) (fun ⟨p, q, xs, ys⟩ => [.ref p, .ref q]) (fun ⟨p, q, xs, ys⟩ H => TI H p xs ∧ TI H q ys ∧ okDv xs ys = true) (fun ⟨p, q, xs, ys⟩ H v H' => v = .non)
theorem c_dvG (D : Df K mg "divided" (top 19)) (B : Bl mg) (wl : mg "list" = none) (wa : mg "any" = none) : Cal P w K mg base 1 "divided" ["one", "other"] spDvG := by
  refine mkC D g37 (fun _ _ _ _ _ _ us hl => match us, hl with | [_, _], _ => rfl) (fun _ => rfl) (fun f cdv A outer s H a Q E hr h k => ?_)
  obtain ⟨p, q, xs, ys⟩ := a
  obtain ⟨h1, h2, ok⟩ := h
  have h10 : H p = some (.tup (xs.map V.int)) := h1
  have h20 : H q = some (.tup (ys.map V.int)) := h2
  have k : ∀ v H', Same H H' → v = .non → Q v H' := k
  have ok : okDv xs ys = true := ok
  unfold okDv at ok
  simp only [Bool.and_eq_true, decide_eq_true_eq] at ok
  obtain ⟨⟨⟨⟨b0, b1⟩, b2⟩, b3⟩, b4⟩ := ok
  have sy := smB_ok (a := 400000) b3 (by decide)
  refine ⟨_, pss_cons (ps_par (i := 2) (j := 3) rfl g37.nd rfl rfl (by decide) rfl rfl (pa_cons (pe_callTy call_list_of (by rfl) wl PyProof.Rows.boot_list (pa_cons (pv 0) pa_nil)) (pa_cons (pe_lst pa_nil) pa_nil)) rfl)
    (pss_cons (ps_whI PassesOwn.never ((pt_cmpR op_ge ((pe_callB call_len_seq (by rfl) (Bl.len_ B) PySem.boot_len (pa_cons (pv 2) pa_nil))) ((pe_callB call_len_seq (by rfl) (Bl.len_ B) PySem.boot_len (pa_cons (pv 1) pa_nil))) (nomark _)))
      (pss_cons (ps_asg (pe_callB call_divmodW (by rfl) B.divmod_ PyProof.Rows.boot_divmod (pa_cons ((pe_ix ix_list (pv 2) (pe_un un_neg pe_int) (fun _ _ => rfl))) (pa_cons ((pe_ix ix_tup (pv 1) (pe_un un_neg pe_int) (fun _ _ => rfl))) pa_nil))) (pg_tup rfl (pgs_cons ((pg_name (i := 4) (FnScope.nd g37) rfl (Or.inl rfl))) (pgs_cons ((pg_name (i := 5) (FnScope.nd g37) rfl (Or.inl rfl))) pgs_nil))))
      (pss_cons (ps_if ((pt_cmpR op_ne (pv 5) pe_int (nomark _))) (pss_one (ps_ret pe_non)) pss_nil)
      (pss_cons (ps_expr (pe_bm PySem.F.plainAttrs_list PySem.F.slot_list_append PySem.F.type_list_append mt_append (pv 3) (pa_cons (pv 4) pa_nil)))
      (pss_cons ((ps_set (i := 6) (FnScope.nd g37) rfl (Or.inl rfl) (pe_op op_sub ((pe_callB call_len_seq (by rfl) (Bl.len_ B) PySem.boot_len (pa_cons (pv 2) pa_nil))) ((pe_callB call_len_seq (by rfl) (Bl.len_ B) PySem.boot_len (pa_cons (pv 1) pa_nil))))))
      (pss_cons (ps_for PassesOwn.never rfl (pi_enumT (by rfl) B.enumerate_ (pa_cons (pv 1) pa_nil)) (pg_tup rfl (pgs_cons ((pg_name (i := 7) (FnScope.nd g37) rfl (Or.inl rfl))) (pgs_cons ((pg_name (i := 8) (FnScope.nd g37) rfl (Or.inl rfl))) pgs_nil)))
        (pss_one (ps_augS (pv 2) (pe_op op_add (pv 6) (pv 7)) get_list (pe_op op_mulW (pv 4) (pv 8)) ip_sub set_list)))
      (pss_one (ps_expr (pe_bm0 PySem.F.plainAttrs_list PySem.F.slot_list_pop PySem.F.type_list_pop mt_pop (pv 2))))))))))
    (pss_cons (ps_if (pt_val (pe_callB (cr_anyI rfl) (by rfl) wa PyProof.Rows.boot_any (pa_cons (pv 2) pa_nil))) (pss_one (ps_ret pe_non)) pss_nil)
    (pss_one (ps_ret (pe_callTy call_tuple_of (by rfl) B.tuple_ PyProof.Rows.boot_tuple (pa_cons (pe_revG (pv 3)) pa_nil)))))), ?_⟩
  refine ⟨_, rfl, p, _, rfl, .inr (SqT.of h10), fun r hr0 => ⟨by decide, fun fd hfd => ⟨_, _, rfl, ?_⟩⟩⟩
  have s1 := same_new (o := .lst (xs.map V.int)) hr0
  have s2 := Same.new (o := .lst []) s1 hfd
  have nf : r ≠ fd := fun e => by rw [← e, upd_same] at hfd; cases hfd
  have f0 : H fd = none := new_of s1 hfd
  have r0 : H r = none := hr0
  have er : upd (upd H r (.lst (xs.map V.int))) fd (.lst []) r = some (.lst (xs.map V.int)) := by
    rw [upd_ne nf]
    exact upd_same
  have ef : upd (upd H r (.lst (xs.map V.int))) fd (.lst []) fd = some (.lst (([] : List Int).map V.int)) := upd_same
  generalize upd (upd H r (.lst (xs.map V.int))) fd (.lst []) = H0 at *
  show tSeq _ _ _ [some (.ref p), some (.ref q), some (.ref r), some (.ref fd), none, none, none, none, none] H0
  refine ⟨fun m σ H' => ∃ (rs fs : List Int) (z4 z5 z6 z7 z8 : Option V), σ = [some (.ref p), some (.ref q), some (.ref r), some (.ref fd), z4, z5, z6, z7, z8] ∧ Same H H' ∧ H' r = some (.lst (rs.map V.int)) ∧ H' fd = some (.lst (fs.map V.int)) ∧ divN ys m rs = true ∧ fs.length + m ≤ 20, ⟨20, xs, [], none, none, none, none, none, rfl, s2, er, ef, b4, by decide⟩, ?_⟩
  rintro m σ H1 ⟨rs, fs, z4, z5, z6, z7, z8, rfl, s3, e1, e2, ok1, lf⟩
  have h21 := s3 _ _ h20
  have lr' : (rs.map V.int).length = rs.length := List.length_map ..
  have ly' : (ys.map V.int).length = ys.length := List.length_map ..
  refine ⟨_, rfl, r, _, rfl, .inl (SqL.of e1), _, rfl, q, _, rfl, .inr (SqT.of h21), _, _, rfl, rfl, _, rfl, ?_⟩
  by_cases hlt : rs.length < ys.length
  · rw [decide_eq_false (show ¬ ((((rs.map V.int).length : Nat) : Int) ≥ (((ys.map V.int).length : Nat) : Int)) by rw [lr', ly']; omega)]
    have an : (rs.any fun x => x != 0) = true := by
      cases m with
      | zero => exact (Bool.and_eq_true_iff.mp ok1).2
      | succ m =>
        rcases Bool.or_eq_true_iff.mp ok1 with z | z
        · exact (Bool.and_eq_true_iff.mp z).2
        · have z1 := (Bool.and_eq_true_iff.mp (Bool.and_eq_true_iff.mp (Bool.and_eq_true_iff.mp (Bool.and_eq_true_iff.mp z).1).1).1).1
          exact absurd (of_decide_eq_true z1) (by omega)
    refine iteF ⟨_, rfl, r, rs, rfl, SqL.of e1, _, rfl, ?_⟩
    rw [an]
    exact iteT (k _ _ s3 rfl)
  · rw [decide_eq_true (show ((((rs.map V.int).length : Nat) : Int) ≥ (((ys.map V.int).length : Nat) : Int)) by rw [lr', ly']; omega)]
    cases m with
    | zero => exact absurd (of_decide_eq_true (Bool.and_eq_true_iff.mp ok1).1) hlt
    | succ m =>
      have z : (decide (ys.length ≤ rs.length) && smB 4000 rs && decide (rs.length ≤ 1000) && smI 4000 (qD ys rs) && (!decide (rs.getLastD 0 % ys.getLastD 0 = 0) || divN ys m (nxD ys rs))) = true := by
        rcases Bool.or_eq_true_iff.mp ok1 with z | z
        · exact absurd (of_decide_eq_true (Bool.and_eq_true_iff.mp z).1) hlt
        · exact z
      obtain ⟨z, z5⟩ := Bool.and_eq_true_iff.mp z
      obtain ⟨z, z4⟩ := Bool.and_eq_true_iff.mp z
      obtain ⟨z, z3⟩ := Bool.and_eq_true_iff.mp z
      obtain ⟨z1, z2⟩ := Bool.and_eq_true_iff.mp z
      have lx : rs.length ≤ 1000 := of_decide_eq_true z3
      have sr := smB_ok (a := 4000) z2 (by decide)
      have sq := smI_ok (a := 400000) z4 (by decide)
      have l1 : 1 ≤ rs.length := by omega
      have dp : CDivP (rs.getLastD 0) (ys.getLastD 0) := divp_ok b0 (Nat.le_trans (PyProof.Rows.intBits_le (sr _ (last_mem l1))) (by omega))
      refine iteT ⟨_, rfl, _, rfl, r, _, _, _, rfl, rfl, SqL.of e1, at_lastD l1, _, rfl, _, rfl, q, _, _, _, rfl, rfl, SqT.of h21, at_lastD b1, _, _, rfl, dp, fun t ht => ?_⟩
      have t1 := same_new (o := .tup [.int (rs.getLastD 0 / ys.getLastD 0), .int (rs.getLastD 0 % ys.getLastD 0)]) ht
      have nt1 : r ≠ t := ne_of_none e1 ht
      have nt2 : fd ≠ t := ne_of_none e2 ht
      have s4 := s3.trans t1
      have e3 := (upd_ne (o := .tup [.int (rs.getLastD 0 / ys.getLastD 0), .int (rs.getLastD 0 % ys.getLastD 0)]) (H := H1) nt1).trans e1
      have e4 := (upd_ne (o := .tup [.int (rs.getLastD 0 / ys.getLastD 0), .int (rs.getLastD 0 % ys.getLastD 0)]) (H := H1) nt2).trans e2
      refine ⟨t, _, rfl, SqT.of upd_same, rfl, _, _, rfl, _, _, rfl, rfl, ?_⟩
      generalize upd H1 t (.tup [.int (rs.getLastD 0 / ys.getLastD 0), .int (rs.getLastD 0 % ys.getLastD 0)]) = H2 at *
      refine ⟨_, rfl, rfl, _, rfl, ?_⟩
      by_cases hz : rs.getLastD 0 % ys.getLastD 0 = 0
      · rw [decide_eq_true (show V.int (rs.getLastD 0 % ys.getLastD 0) = V.int 0 by rw [hz])]
        have okn : divN ys m (nxD ys rs) = true := by
          rw [decide_eq_true hz] at z5
          exact z5
        have n3 : fd ≠ r := fun e => nf e.symm
        refine iteF ⟨_, rfl, .inl ⟨rfl, _, SqL.of e4⟩, _, rfl, fd, _, _, rfl, rfl, e4, ?_, ?_⟩
        · rw [List.length_map]
          exact Nat.lt_of_le_of_lt (show fs.length ≤ 20 by omega) (by decide)
        have s5 : Same H (upd H2 fd (.lst (fs.map V.int ++ [V.int (rs.getLastD 0 / ys.getLastD 0)]))) := Same.put s4 f0
        have e5 : upd H2 fd (.lst (fs.map V.int ++ [V.int (rs.getLastD 0 / ys.getLastD 0)])) r = some (.lst (rs.map V.int)) := by
          rw [upd_ne nf]
          exact e3
        have e6 : upd H2 fd (.lst (fs.map V.int ++ [V.int (rs.getLastD 0 / ys.getLastD 0)])) fd = some (.lst ((fs ++ [rs.getLastD 0 / ys.getLastD 0]).map V.int)) := by
          rw [upd_same, List.map_append]
          rfl
        generalize upd H2 fd (.lst (fs.map V.int ++ [V.int (rs.getLastD 0 / ys.getLastD 0)])) = H3 at *
        have h23 := s5 _ _ h20
        refine ⟨_, rfl, r, _, rfl, .inl (SqL.of e5), _, rfl, q, _, rfl, .inr (SqT.of h23), _, _, rfl, rfl, ?_⟩
        have en : ((((rs.map V.int).length : Nat) : Int) - (((ys.map V.int).length : Nat) : Int)) = ((rs.length - ys.length : Nat) : Int) := by
          rw [lr', ly']
          omega
        show (tSeq _ _) _ [some (.ref p), some (.ref q), some (.ref r), some (.ref fd), some (.int (qD ys rs)), some (.int (rs.getLastD 0 % ys.getLastD 0)), some (.int ((((rs.map V.int).length : Nat) : Int) - (((ys.map V.int).length : Nat) : Int))), z7, z8] H3
        rw [en]
        refine ⟨_, rfl, q, _, rfl, SqT.of h23, for_enum (xs := ys.map V.int) (fun i σ H' => Same H H' ∧ H' r = some (.lst ((stG (fun o t => o - qD ys rs * t) ys (rs.length - ys.length) rs i).map V.int)) ∧ H' fd = some (.lst ((fs ++ [qD ys rs]).map V.int)) ∧ ∃ y z : Option V, σ = [some (.ref p), some (.ref q), some (.ref r), some (.ref fd), some (.int (qD ys rs)), some (.int (rs.getLastD 0 % ys.getLastD 0)), some (.int ((rs.length - ys.length : Nat) : Int)), y, z]) ⟨s5, e5, e6, _, _, rfl⟩ (fun i σ H' _ e => SqT.of (e.1 _ _ h20)) ?_ ?_⟩
        · rintro i x σ H4 hx ⟨s6, e7, e8, y, z, rfl⟩ T hT
          obtain ⟨b, hb, rfl⟩ := at_map hx
          have hi := lt_of_at hb
          have s7 := Same.new (o := .tup [.int (i : Nat), .int b]) s6 hT
          have nT : r ≠ T := ne_of_none e7 hT
          have nT2 : fd ≠ T := ne_of_none e8 hT
          have e9 : upd H4 T (.tup [.int (i : Nat), .int b]) r = _ := (upd_ne nT).trans e7
          have e10 : upd H4 T (.tup [.int (i : Nat), .int b]) fd = _ := (upd_ne nT2).trans e8
          have li : i + (rs.length - ys.length) < (stG (fun o t => o - qD ys rs * t) ys (rs.length - ys.length) rs i).length := by
            rw [stG_len]
            omega
          have ei : (((rs.length - ys.length : Nat) : Int) + (i : Int)) = ((i + (rs.length - ys.length) : Nat) : Int) := by omega
          refine ⟨T, _, rfl, SqT.of upd_same, rfl, _, _, rfl, _, _, rfl, rfl, _, rfl, _, rfl, _, rfl, _, _, rfl, rfl, r, _, _, V.int ((stG (fun o t => o - qD ys rs * t) ys (rs.length - ys.length) rs i).getD (i + (rs.length - ys.length)) 0), rfl, rfl, SqL.of e9, by rw [ei]; exact atI_nat (getD_map li), ?_⟩
          refine ⟨_, rfl, _, rfl, _, _, rfl, rfl, cm sq (sy b (List.mem_of_getElem? hb)), _, _, rfl, rfl, r, _, _, i + (rs.length - ys.length), rfl, rfl, e9, by rw [ei]; exact ixN_nat (by rw [List.length_map]; exact li), ?_⟩
          refine ⟨Same.put s7 r0, ?_, ?_, _, _, rfl⟩
          · rw [upd_same, set_map]
            show some (HO.lst _) = some (HO.lst (List.map V.int (List.set _ _ _)))
            rw [getD_of hb]
          · rw [upd_ne n3]
            exact e10
        · rintro σ H4 ⟨s6, e7, e8, y, z, rfl⟩
          rw [ly'] at e7
          refine ⟨_, rfl, .inl ⟨rfl, _, SqL.of e7⟩, r, _, V.int ((stG (fun o t => o - qD ys rs * t) ys (rs.length - ys.length) rs ys.length).getD (rs.length - 1) 0), rfl, rfl, e7, ?_, ?_⟩
          · rw [List.length_map, stG_len]
            exact getD_map (by rw [stG_len]; omega)
          · refine ⟨m, Nat.lt_succ_self m, nxD ys rs, fs ++ [qD ys rs], _, _, _, _, _, rfl, Same.put s6 r0, ?_, ?_, okn, ?_⟩
            · rw [upd_same, ← List.map_dropLast]
              rfl
            · rw [upd_ne n3]
              exact e8
            · rw [List.length_append, List.length_singleton]
              omega
      · rw [decide_eq_false (show ¬ V.int (rs.getLastD 0 % ys.getLastD 0) = V.int 0 from fun q => hz (V.int.inj q))]
        exact iteT (k _ _ s4 rfl)
end
end Xq

/-! middles; quadratic_factor, where there is none. -/
namespace Xq
open PySem PySem.Spec PyProof.Rows L2
def mLo (xs : List Int) (f : Int) : Int := (xs.getD 0 0).fdiv f
def mHi (xs : List Int) (l : Int) : Int := (xs.getLastD 0).fdiv l
/-- what middles tells -/
def midL (xs : List Int) (f l : Int) : List Int :=
  if xs.length = 5 then wrL (f * (xs.getD 2 0 - f * mHi xs l - l * mLo xs f)) (-(xs.getD 1 0)) (mLo xs f)
  else wrL (f * (l * (xs.getD 2 0 - l * mLo xs f) - f * xs.getD 4 0)) (f * f * mHi xs l - l * xs.getD 1 0) (l * mLo xs f)
def okMid (xs : List Int) (f l : Int) : Bool :=
  decide (5 ≤ xs.length) && decide (xs.length ≤ 1000) && smB 4000 xs && smI 4000 f && smI 4000 l && !decide (f = 0) && !decide (l = 0) && smI 4000 (mLo xs f) && smI 4000 (mHi xs l) &&
  if xs.length = 5 then smI 4000 (xs.getD 2 0 - f * mHi xs l - l * mLo xs f) && okWr (f * (xs.getD 2 0 - f * mHi xs l - l * mLo xs f)) (-(xs.getD 1 0)) (mLo xs f)
  else smI 4000 (xs.getD 2 0 - l * mLo xs f) && smI 4000 (l * (xs.getD 2 0 - l * mLo xs f) - f * xs.getD 4 0) && okWr (f * (l * (xs.getD 2 0 - l * mLo xs f) - f * xs.getD 4 0)) (f * f * mHi xs l - l * xs.getD 1 0) (l * mLo xs f)
/-- no factor of degree 2 -/
def okQu (xs : List Int) : Bool := decide (5 ≤ xs.length) && decide (xs.length ≤ 1000) && decide ((xs.getD 0 0).natAbs ≤ 1000) && decide ((xs.getLastD 0).natAbs ≤ 1000) &&
  (dvL (xs.getD 0 0)).all fun s => (dvL (xs.getLastD 0)).all fun l => [s, -s].all fun f => okMid xs f l && (midL xs f l).all fun m => okDv xs [f, m, l]
theorem divx_ok {i j : Int} (h : ¬ j = 0) (hs : Sm 4000 j) : CDivX i j := ⟨h, Nat.lt_of_lt_of_le (log_lt hs (by decide)) (by decide)⟩
theorem getD_sm {xs : List Int} {n i : Nat} (h : ∀ x ∈ xs, Sm n x) (hi : i < xs.length) : Sm n (xs.getD i 0) := by
  rw [List.getD_eq_getElem?_getD, List.getElem?_eq_getElem hi]
  exact h _ (List.getElem_mem hi)
section
variable {P : Program} {w : World} {K : PySem.W.Frag} {mg : Str → Option Value} {base : Heap}
abbrev nMi : List Str := ["terms", "first", "last", "lowest", "highest", "constant"]
theorem g58 : FnScope nMi ["terms", "first", "last"] (defScope (top 27)) := (⟨rfl, rfl, rfl, by decide +kernel, rfl, by decide +kernel, by decide +kernel⟩)
abbrev spMidG : Sp := Prm (α := Addr × List Int × Int × Int) (fun ⟨p, xs, f, l⟩ => [.ref p, .int f, .int l]) (fun ⟨p, xs, f, l⟩ H => TI H p xs ∧ okMid xs f l = true) (fun ⟨p, xs, f, l⟩ H v H' => ∃ q, v = .ref q ∧ LI H' q (midL xs f l))
theorem c_midG (D : Df K mg "middles" (top 27)) (B : Bl mg) (CW : Cal P w K mg base 1 "whole_roots" ["constant", "linear", "square"] spWrG) : Cal P w K mg base 2 "middles" ["terms", "first", "last"] spMidG := by
  refine mkC D g58 (fun _ _ _ _ _ _ us hl => match us, hl with | [_, _, _], _ => rfl) (fun _ => rfl) (fun f cdv A outer s H a Q E hr h k => ?_)
  obtain ⟨p, xs, c, l⟩ := a
  obtain ⟨h, ok⟩ := h
  have h0 : H p = some (.tup (xs.map V.int)) := h
  have k : ∀ v H', Same H H' → (∃ q, v = .ref q ∧ LI H' q (midL xs c l)) → Q v H' := k
  have ok : okMid xs c l = true := ok
  unfold okMid at ok
  simp only [Bool.and_eq_true, decide_eq_true_eq, Bool.not_eq_true', decide_eq_false_iff_not] at ok
  obtain ⟨⟨⟨⟨⟨⟨⟨⟨⟨l5, l1⟩, bx⟩, bc⟩, bl⟩, nc⟩, nl⟩, blo⟩, bhi⟩, ok⟩ := ok
  have sx := smB_ok (a := 4000) bx (by decide)
  have sc := smI_ok (a := 4000) bc (by decide)
  have sl := smI_ok (a := 4000) bl (by decide)
  have slo := smI_ok (a := 4000) blo (by decide)
  have shi := smI_ok (a := 4000) bhi (by decide)
  refine ⟨_, pss_cons (ps_par (i := 3) (j := 4) rfl g58.nd rfl rfl (by decide) rfl rfl (pa_cons (pe_op op_fdivX ((pe_ix ix_tup (pv 0) pe_int (fun _ _ => rfl))) (pv 1)) (pa_cons (pe_op op_fdivX ((pe_ix ix_tup (pv 0) (pe_un un_neg pe_int) (fun _ _ => rfl))) (pv 2)) pa_nil)) rfl)
    (pss_cons (ps_if ((pt_cmpR op_eq ((pe_callB call_len_seq (by rfl) (Bl.len_ B) PySem.boot_len (pa_cons (pv 0) pa_nil))) pe_int (nomark _)))
      (pss_cons ((ps_set (i := 5) (FnScope.nd g58) rfl (Or.inl rfl) (pe_op op_mulW (pv 1) (pe_op op_sub (pe_op op_sub ((pe_ix ix_tup (pv 0) pe_int (fun _ _ => rfl))) (pe_op op_mulW (pv 1) (pv 4))) (pe_op op_mulW (pv 2) (pv 3))))))
      (pss_one (ps_ret (pe_cl CW hr (pa_cons (pv 5) (pa_cons (pe_un un_neg ((pe_ix ix_tup (pv 0) pe_int (fun _ _ => rfl)))) (pa_cons (pv 3) pa_nil))))))) pss_nil)
    (pss_cons ((ps_set (i := 5) (FnScope.nd g58) rfl (Or.inl rfl) (pe_op op_mulW (pv 1) (pe_op op_sub (pe_op op_mulW (pv 2) (pe_op op_sub ((pe_ix ix_tup (pv 0) pe_int (fun _ _ => rfl))) (pe_op op_mulW (pv 2) (pv 3)))) (pe_op op_mulW (pv 1) ((pe_ix ix_tup (pv 0) pe_int (fun _ _ => rfl))))))))
    (pss_one (ps_ret (pe_cl CW hr (pa_cons (pv 5) (pa_cons (pe_op op_sub (pe_op op_mulW (pe_op op_mulW (pv 1) (pv 1)) (pv 4)) (pe_op op_mulW (pv 2) ((pe_ix ix_tup (pv 0) pe_int (fun _ _ => rfl))))) (pa_cons (pe_op op_mulW (pv 2) (pv 3)) pa_nil)))))))), ?_⟩
  refine ⟨_, rfl, p, _, _, _, rfl, rfl, SqT.of h0, atI_nat (j := 0) (getD_map (by omega)), _, rfl, _, _, rfl, rfl, divx_ok nc sc, ?_⟩
  refine ⟨_, rfl, _, rfl, p, _, _, _, rfl, rfl, SqT.of h0, at_lastD (by omega), _, rfl, _, _, rfl, rfl, divx_ok nl sl, _, _, rfl, ?_⟩
  show (tSeq _ _) _ [some (.ref p), some (.int c), some (.int l), some (.int (mLo xs c)), some (.int (mHi xs l)), none] H
  have lx' : (xs.map V.int).length = xs.length := List.length_map ..
  refine ⟨_, rfl, p, _, rfl, .inr (SqT.of h0), rfl, _, rfl, ?_⟩
  by_cases e5 : xs.length = 5
  · rw [if_pos e5] at ok
    rw [decide_eq_true (show V.int (((xs.map V.int).length : Nat) : Int) = V.int 5 by rw [lx', e5]; rfl)]
    obtain ⟨o1, o2⟩ := Bool.and_eq_true_iff.mp ok
    have s1 := smI_ok (a := 4000) o1 (by decide)
    refine iteT ?_
    refine ⟨_, rfl, _, rfl, p, _, _, _, rfl, rfl, SqT.of h0, atI_nat (j := 2) (getD_map (by omega)), _, rfl, _, rfl, _, _, rfl, rfl, cm sc shi, _, _, rfl, rfl, _, rfl, _, rfl, _, _, rfl, rfl, cm sl slo, _, _, rfl, rfl, _, _, rfl, rfl, cm sc s1, ?_⟩
    refine ⟨_, rfl, _, rfl, p, _, _, _, rfl, rfl, SqT.of h0, atI_nat (j := 1) (getD_map (by omega)), _, rfl, _, rfl, ?_⟩
    refine ⟨(_, _, _), rfl, o2, ?_⟩
    rintro _ H1 s1 ⟨q, rfl, hq⟩
    refine k _ _ s1 ⟨q, rfl, ?_⟩
    unfold midL
    rw [if_pos e5]
    exact hq
  · rw [if_neg e5] at ok
    rw [decide_eq_false (show ¬ V.int (((xs.map V.int).length : Nat) : Int) = V.int 5 from fun q => e5 (by have := V.int.inj q; rw [lx'] at this; omega))]
    obtain ⟨o, o3⟩ := Bool.and_eq_true_iff.mp ok
    obtain ⟨o1, o2⟩ := Bool.and_eq_true_iff.mp o
    have s1 := smI_ok (a := 4000) o1 (by decide)
    have s2 := smI_ok (a := 4000) o2 (by decide)
    refine iteF ?_
    have scc : Sm 8000 (c * c) := sm_mul sc sc
    refine ⟨_, rfl, _, rfl, _, rfl, p, _, _, _, rfl, rfl, SqT.of h0, atI_nat (j := 2) (getD_map (by omega)), _, rfl, _, rfl, _, _, rfl, rfl, cm sl slo, _, _, rfl, rfl, _, _, rfl, rfl, cm sl s1, ?_⟩
    refine ⟨_, rfl, _, rfl, p, _, _, _, rfl, rfl, SqT.of h0, atI_nat (j := 4) (getD_map (by omega)), _, _, rfl, rfl, cm sc (getD_sm sx (by omega)), _, _, rfl, rfl, _, _, rfl, rfl, cm sc s2, ?_⟩
    refine ⟨_, rfl, _, rfl, _, rfl, _, _, rfl, rfl, cm sc sc, _, rfl, _, _, rfl, rfl, cm scc shi, _, rfl, _, rfl, p, _, _, _, rfl, rfl, SqT.of h0, atI_nat (j := 1) (getD_map (by omega)), _, _, rfl, rfl, cm sl (getD_sm sx (by omega)), _, _, rfl, rfl, ?_⟩
    refine ⟨_, rfl, _, rfl, _, _, rfl, rfl, cm sl slo, ?_⟩
    refine ⟨(_, _, _), rfl, o3, ?_⟩
    rintro _ H1 s1 ⟨q, rfl, hq⟩
    refine k _ _ s1 ⟨q, rfl, ?_⟩
    unfold midL
    rw [if_neg e5]
    exact hq
abbrev nQu : List Str := ["terms", "lasts", "size", "last", "first", "middle", "factor"]
theorem g57 : FnScope nQu ["terms"] (defScope (top 26)) := (⟨rfl, rfl, rfl, by decide +kernel, rfl, by decide +kernel, by decide +kernel⟩)
abbrev spQuG : Sp := Prm (α := Addr × List Int) (fun a => [.ref a.1]) (fun a H => TI H a.1 a.2 ∧ okQu a.2 = true) (fun a H v H' => v = .non)
theorem c_quG (D : Df K mg "quadratic_factor" (top 26)) (B : Bl mg) (CD : Cal P w K mg base 1 "divisors" ["number"] spDivG) (CM : Cal P w K mg base 2 "middles" ["terms", "first", "last"] spMidG) (CV : Cal P w K mg base 1 "divided" ["one", "other"] spDvG) : Cal P w K mg base 3 "quadratic_factor" ["terms"] spQuG := by
  refine mkC D g57 (fun _ _ _ _ _ _ us hl => match us, hl with | [_], _ => rfl) (fun _ => rfl) (fun f cdv A outer s H a Q E hr h k => ?_)
  obtain ⟨p, xs⟩ := a
  obtain ⟨h, ok⟩ := h
  have h : TI H p xs := h
  have h0 : H p = some (.tup (xs.map V.int)) := h
  have k : ∀ v H', Same H H' → v = .non → Q v H' := k
  have ok : okQu xs = true := ok
  unfold okQu at ok
  simp only [Bool.and_eq_true, decide_eq_true_eq] at ok
  obtain ⟨⟨⟨⟨l5, l1⟩, d0⟩, dl⟩, al⟩ := ok
  refine ⟨_, pss_cons ((ps_set (i := 1) (FnScope.nd g57) rfl (Or.inl rfl) (pe_cl CD hr (pa_cons ((pe_ix ix_tup (pv 0) (pe_un un_neg pe_int) (fun _ _ => rfl))) pa_nil))))
    (pss_cons (ps_for PassesOwn.never rfl (pi_list (pe_cl CD hr (pa_cons ((pe_ix ix_tup (pv 0) pe_int (fun _ _ => rfl))) pa_nil))) ((pg_name (i := 2) (FnScope.nd g57) rfl (Or.inl rfl)))
      (pss_one (ps_for PassesOwn.never rfl (pi_list (pv 1)) ((pg_name (i := 3) (FnScope.nd g57) rfl (Or.inl rfl)))
        (pss_one (ps_for PassesOwn.never rfl (pi_tup (pe_tup (pa_cons (pv 2) (pa_cons (pe_un un_neg (pv 2)) pa_nil)))) ((pg_name (i := 4) (FnScope.nd g57) rfl (Or.inl rfl)))
          (pss_one (ps_for PassesOwn.never rfl (pi_list (pe_cl CM hr (pa_cons (pv 0) (pa_cons (pv 4) (pa_cons (pv 3) pa_nil))))) ((pg_name (i := 5) (FnScope.nd g57) rfl (Or.inl rfl)))
            (pss_cons ((ps_set (i := 6) (FnScope.nd g57) rfl (Or.inl rfl) (pe_tup (pa_cons (pv 4) (pa_cons (pv 5) (pa_cons (pv 3) pa_nil))))))
            (pss_one (ps_if (pt_cmpR op_notN (pe_cl CV hr (pa_cons (pv 0) (pa_cons (pv 6) pa_nil))) pe_non (nomark _)) pss_nv pss_nil))))))))))
    (pss_one (ps_ret pe_non))), ?_⟩
  refine ⟨_, rfl, _, rfl, p, _, _, _, rfl, rfl, SqT.of h0, at_lastD (by omega), xs.getLastD 0, rfl, dl, ?_⟩
  rintro _ H1 s1 ⟨bo, rfl, hbo⟩
  have hbo : H1 bo = some (.lst ((dvL (xs.getLastD 0)).map V.int)) := hbo
  have h1 := s1 _ _ h0
  refine ⟨_, rfl, p, _, _, _, rfl, rfl, SqT.of h1, atI_nat (j := 0) (getD_map (by omega)), xs.getD 0 0, rfl, d0, ?_⟩
  rintro _ H2 s2 ⟨to, rfl, hto⟩
  have hto : H2 to = some (.lst ((dvL (xs.getD 0 0)).map V.int)) := hto
  have hbo2 := s2 _ _ hbo
  have s12 := s1.trans s2
  refine ⟨to, rfl, ⟨_, SqL.of hto⟩, for_list (xs := (dvL (xs.getD 0 0)).map V.int) (fun i σ H' => Same H2 H' ∧ ∃ z2 z3 z4 z5 z6 : Option V, σ = [some (.ref p), some (.ref bo), z2, z3, z4, z5, z6]) ⟨Same.refl _, none, none, none, none, none, rfl⟩ (fun i σ H' _ e => SqL.of (e.1 _ _ hto)) ?_ ?_⟩
  · rintro i x σ H3 hx ⟨s3, z2, z3, z4, z5, z6, rfl⟩
    obtain ⟨t, ht, rfl⟩ := at_map hx
    have alt := List.all_eq_true.mp al t (List.mem_of_getElem? ht)
    have hbo3 := s3 _ _ hbo2
    refine ⟨_, rfl, bo, rfl, ⟨_, SqL.of hbo3⟩, for_list (xs := (dvL (xs.getLastD 0)).map V.int) (fun i σ H' => Same H2 H' ∧ ∃ z3 z4 z5 z6 : Option V, σ = [some (.ref p), some (.ref bo), some (.int t), z3, z4, z5, z6]) ⟨s3, z3, z4, z5, z6, rfl⟩ (fun i σ H' _ e => SqL.of (e.1 _ _ hbo2)) ?_ ?_⟩
    · rintro j y σ H4 hy ⟨s4, z3, z4, z5, z6, rfl⟩
      obtain ⟨b, hb, rfl⟩ := at_map hy
      have alb := List.all_eq_true.mp alt b (List.mem_of_getElem? hb)
      refine ⟨_, rfl, _, rfl, t, rfl, (by show 2 ≤ sizeLine; decide), fun a na => ?_⟩
      have t1 := same_new (o := .tup [.int t, .int (-t)]) na
      have ha : upd H4 a (.tup [.int t, .int (-t)]) a = some (.tup ([t, -t].map V.int)) := upd_same
      generalize upd H4 a (.tup [.int t, .int (-t)]) = H5 at *
      refine ⟨a, rfl, ⟨_, SqT.of ha⟩, for_tup (xs := [t, -t].map V.int) (fun i σ H' => Same H5 H' ∧ ∃ z4 z5 z6 : Option V, σ = [some (.ref p), some (.ref bo), some (.int t), some (.int b), z4, z5, z6]) ⟨Same.refl _, z4, z5, z6, rfl⟩ (fun i σ H' _ e => SqT.of (e.1 _ _ ha)) ?_ ?_⟩
      · rintro i2 x2 σ H6 hx2 ⟨s6, z4, z5, z6, rfl⟩
        obtain ⟨f1, hf1, rfl⟩ := at_map hx2
        have alf := List.all_eq_true.mp alb f1 (List.mem_of_getElem? hf1)
        obtain ⟨om, alm⟩ := Bool.and_eq_true_iff.mp alf
        have s7 : Same H H6 := s12.trans (s4.trans (t1.trans s6))
        refine ⟨_, rfl, _, rfl, _, rfl, (p, xs, f1, b), rfl, ⟨TI.same s7 h, om⟩, ?_⟩
        rintro _ H7 s8 ⟨mo, rfl, hmo⟩
        have hmo : H7 mo = some (.lst ((midL xs f1 b).map V.int)) := hmo
        refine ⟨mo, rfl, ⟨_, SqL.of hmo⟩, for_list (xs := (midL xs f1 b).map V.int) (fun i σ H' => Same H7 H' ∧ ∃ z5 z6 : Option V, σ = [some (.ref p), some (.ref bo), some (.int t), some (.int b), some (.int f1), z5, z6]) ⟨Same.refl _, z5, z6, rfl⟩ (fun i σ H' _ e => SqL.of (e.1 _ _ hmo)) ?_ ?_⟩
        · rintro i3 x3 σ H8 hx3 ⟨s9, z5, z6, rfl⟩
          obtain ⟨m1, hm1, rfl⟩ := at_map hx3
          have odv := List.all_eq_true.mp alm m1 (List.mem_of_getElem? hm1)
          refine ⟨_, rfl, _, rfl, _, rfl, (by show 3 ≤ sizeLine; decide), fun fa nfa => ?_⟩
          have u1 := same_new (o := .tup [.int f1, .int m1, .int b]) nfa
          have hfa : upd H8 fa (.tup [.int f1, .int m1, .int b]) fa = some (.tup ([f1, m1, b].map V.int)) := upd_same
          generalize upd H8 fa (.tup [.int f1, .int m1, .int b]) = H9 at *
          have s10 : Same H H9 := s7.trans (s8.trans (s9.trans u1))
          refine ⟨_, rfl, _, rfl, (p, fa, xs, [f1, m1, b]), rfl, ⟨TI.same s10 h, hfa, odv⟩, ?_⟩
          rintro _ HA sA rfl
          exact ⟨rfl, _, rfl, iteF ⟨s9.trans (u1.trans sA), _, _, rfl⟩⟩
        · rintro σ H8 ⟨s9, z5, z6, rfl⟩
          exact ⟨s6.trans (s8.trans s9), _, _, _, rfl⟩
      · rintro σ H6 ⟨s6, z4, z5, z6, rfl⟩
        exact ⟨s4.trans (t1.trans s6), _, _, _, _, rfl⟩
    · rintro σ H4 ⟨s4, z3, z4, z5, z6, rfl⟩
      exact ⟨s4, _, _, _, _, _, rfl⟩
  · rintro σ H3 ⟨s3, z2, z3, z4, z5, z6, rfl⟩
    exact k _ _ (s12.trans s3) rfl
end
end Xq

/-! wrong_term, least_factor, is_least of any equation. -/
namespace Xq
open PySem PySem.Spec PyProof.Rows L2
/-- an equation's terms -/
def okE (xs : List Int) : Bool := decide (2 ≤ xs.length) && decide (xs.length ≤ 6) && (xs.all fun x => decide (-1000 ≤ x) && decide (x ≤ 1000)) && !decide (xs.getLastD 0 = 0)
def okLf (xs : List Int) : Bool := decide (xs.length = 2) || (okLin xs && (decide (xs.length < 5) || okQu xs))
def okLe (xs : List Int) : Bool := decide (1 ≤ xs.length) && decide (xs.length ≤ 1000) && decide (0 ≤ xs.getLastD 0) && decide (gcdL xs = 1) && okLf xs && SeqAt.shaped (dT xs) && (dT xs).canLay0
section
variable {P : Program} {w : World} {K : PySem.W.Frag} {mg : Str → Option Value} {base : Heap}
abbrev spWrongG : Sp := Prm (α := Addr × List Int) (fun a => [.ref a.1]) (fun a H => TI H a.1 a.2 ∧ okE a.2 = true) (fun _ H v H' => v = .non)
theorem getD_last {xs : List Int} (h : 1 ≤ xs.length) : xs.getD (xs.length - 1) 0 = xs.getLastD 0 := by
  rcases List.eq_nil_or_concat xs with e | ⟨l, z, e⟩
  · rw [e] at h
    exact absurd h (by decide)
  · rw [e, List.concat_eq_append]
    simp
theorem c_wrongG (D : Df K mg "wrong_term" (top 37)) (B : Bl mg) (C : Cal P w K mg base 2 "is_term" ["value"] spIsTerm) : Cal P w K mg base 3 "wrong_term" ["equation"] spWrongG := by
  refine mkC D s22 (fun _ _ _ _ _ _ us hl => match us, hl with | [_], _ => rfl) (fun _ => rfl) (fun f cdv A outer s H a Q E hr h k => ?_)
  obtain ⟨p, xs⟩ := a
  obtain ⟨h, ok⟩ := h
  have k : ∀ v H', Same H H' → v = .non → Q v H' := k
  have h0 : H p = some (.tup (xs.map V.int)) := h
  have ok : okE xs = true := ok
  unfold okE at ok
  simp only [Bool.and_eq_true, decide_eq_true_eq, Bool.not_eq_true', decide_eq_false_iff_not] at ok
  obtain ⟨⟨⟨l2, l6⟩, al⟩, nz⟩ := ok
  obtain ⟨t, ht⟩ := B.deg_
  refine ⟨_, pss_cons (ps_for PassesOwn.never rfl (pi_enumT (by rfl) B.enumerate_ (pa_cons (pv 0) pa_nil)) (pg_tup rfl (pgs_cons ((pg_name (i := 1) (FnScope.nd s22) rfl (Or.inl rfl))) (pgs_cons ((pg_name (i := 2) (FnScope.nd s22) rfl (Or.inl rfl))) pgs_nil)))
      (pss_one (ps_if (PW.pt (pw_or ((pt_cmpR op_gt (pv 1) (pe_glob (v := .int 5) (by rfl) ht ⟨_, rfl⟩) (nomark _))) (pw_or1 (pt_not (pt_val (pe_cl C hr (pa_cons (pv 2) pa_nil))))))) pss_nv pss_nil)))
    (pss_cons ((ps_set (i := 3) (FnScope.nd s22) rfl (Or.inl rfl) (pe_op op_sub ((pe_callB call_len_seq (by rfl) (Bl.len_ B) PySem.boot_len (pa_cons (pv 0) pa_nil))) pe_int)))
    (pss_one (ps_ret (pe_ifExp ((pt_cmpR op_eq ((pe_ix ix_tup (pv 0) (pv 3) (fun _ _ => rfl))) pe_int (nomark _))) pe_nv pe_non)))), ?_⟩
  have lx' : (xs.map V.int).length = xs.length := List.length_map ..
  refine ⟨_, rfl, p, _, rfl, SqT.of h0, for_enum (xs := xs.map V.int) (fun i σ H' => Same H H' ∧ ∃ y z u : Option V, σ = [some (.ref p), y, z, u]) ⟨Same.refl _, none, none, none, rfl⟩ (fun i σ H' _ e => SqT.of (e.1 _ _ h0)) ?_ ?_⟩
  · rintro i x σ H3 hx ⟨s3, y, z, u, rfl⟩ T hT
    obtain ⟨b, hb, rfl⟩ := at_map hx
    have hi := lt_of_at hb
    have s4 := Same.new (o := .tup [.int (i : Nat), .int b]) s3 hT
    have bb := List.all_eq_true.mp al b (List.mem_of_getElem? hb)
    simp only [Bool.and_eq_true, decide_eq_true_eq] at bb
    refine ⟨T, _, rfl, SqT.of upd_same, rfl, _, _, rfl, _, _, rfl, rfl, ?_⟩
    refine ⟨_, rfl, _, _, rfl, rfl, _, rfl, ?_⟩
    rw [decide_eq_false (show ¬ ((i : Int) > 5) by omega)]
    refine iteF ⟨_, rfl, b, rfl, bb, ?_⟩
    rintro _ _ - ⟨rfl, rfl⟩
    exact ⟨_, rfl, iteF ⟨s4, _, _, _, rfl⟩⟩
  · rintro σ H3 ⟨s3, y, z, u, rfl⟩
    have h2 := s3 _ _ h0
    have en : ((((xs.map V.int).length : Nat) : Int) - 1) = ((xs.length - 1 : Nat) : Int) := by
      rw [lx']
      omega
    refine ⟨_, rfl, p, _, rfl, .inr (SqT.of h2), _, _, rfl, rfl, ?_⟩
    refine ⟨_, rfl, _, rfl, p, _, _, _, rfl, rfl, SqT.of h2, by rw [en]; exact atI_nat (getD_map (show xs.length - 1 < xs.length by omega)), rfl, _, rfl, ?_⟩
    rw [getD_last (by omega), decide_eq_false (show ¬ V.int (xs.getLastD 0) = V.int 0 from fun q => nz (V.int.inj q))]
    exact iteF (k _ _ s3 rfl)
theorem g54 : FnScope ["terms", "found"] ["terms"] (defScope (top 23)) := (⟨rfl, rfl, rfl, by decide +kernel, rfl, by decide +kernel, by decide +kernel⟩)
abbrev spLfG : Sp := Prm (α := Addr × List Int) (fun a => [.ref a.1]) (fun a H => TI H a.1 a.2 ∧ okLf a.2 = true) (fun a H v H' => v = .ref a.1)
theorem c_lfG (D : Df K mg "least_factor" (top 23)) (B : Bl mg) (C : Cal P w K mg base 2 "linear_factor" ["terms"] spLinG) (CQ : Cal P w K mg base 3 "quadratic_factor" ["terms"] spQuG) : Cal P w K mg base 4 "least_factor" ["terms"] spLfG := by
  refine mkC D g54 (fun _ _ _ _ _ _ us hl => match us, hl with | [_], _ => rfl) (fun _ => rfl) (fun f cdv A outer s H a Q E hr h k => ?_)
  obtain ⟨p, xs⟩ := a
  obtain ⟨h, ok⟩ := h
  have h : TI H p xs := h
  have k : ∀ v H', Same H H' → v = .ref p → Q v H' := k
  have h0 : H p = some (.tup (xs.map V.int)) := h
  have ok : okLf xs = true := ok
  have lx' : (xs.map V.int).length = xs.length := List.length_map ..
  refine ⟨_, pss_cons (ps_if ((pt_cmpR op_eq ((pe_callB call_len_seq (by rfl) (Bl.len_ B) PySem.boot_len (pa_cons (pv 0) pa_nil))) pe_int (nomark _))) (pss_one (ps_ret (pv 0))) pss_nil)
    (pss_cons ((ps_set (i := 1) (FnScope.nd g54) rfl (Or.inl rfl) (pe_cl C hr (pa_cons (pv 0) pa_nil))))
    (pss_cons (ps_if (PW.pt (pw_and (pt_cmpR op_isN (pv 1) pe_non (nomark _)) (pw_and1 ((pt_cmpR op_ge ((pe_callB call_len_seq (by rfl) (Bl.len_ B) PySem.boot_len (pa_cons (pv 0) pa_nil))) pe_int (nomark _)))))) (pss_one ((ps_set (i := 1) (FnScope.nd g54) rfl (Or.inl rfl) (pe_cl CQ hr (pa_cons (pv 0) pa_nil))))) pss_nil)
    (pss_one (ps_ret (pe_ifExp (pt_cmpR op_isN (pv 1) pe_non (nomark _)) (pv 0) pe_nv))))), ?_⟩
  refine ⟨_, rfl, p, _, rfl, .inr (SqT.of h0), rfl, _, rfl, ?_⟩
  by_cases e2 : xs.length = 2
  · rw [decide_eq_true (show V.int (((xs.map V.int).length : Nat) : Int) = V.int 2 by rw [lx', e2]; rfl)]
    exact iteT ⟨_, rfl, k _ _ (Same.refl _) rfl⟩
  · rw [decide_eq_false (show ¬ V.int (((xs.map V.int).length : Nat) : Int) = V.int 2 from fun q => e2 (by have := V.int.inj q; rw [lx'] at this; omega))]
    unfold okLf at ok
    rw [decide_eq_false e2, Bool.false_or] at ok
    obtain ⟨o1, o2⟩ := Bool.and_eq_true_iff.mp ok
    refine iteF ⟨_, rfl, (p, xs), rfl, ⟨h, o1⟩, ?_⟩
    rintro _ H1 s1 rfl
    refine ⟨_, rfl, rfl, _, rfl, iteT ⟨_, rfl, p, _, rfl, .inr (SqT.of (s1 _ _ h0)), _, _, rfl, rfl, _, rfl, ?_⟩⟩
    by_cases e5 : xs.length < 5
    · rw [decide_eq_false (show ¬ ((((xs.map V.int).length : Nat) : Int) ≥ 5) by rw [lx']; omega)]
      exact iteF ⟨_, rfl, rfl, _, rfl, iteT ⟨_, rfl, k _ _ s1 rfl⟩⟩
    · rw [decide_eq_true (show ((((xs.map V.int).length : Nat) : Int) ≥ 5) by rw [lx']; omega)]
      rw [decide_eq_false e5, Bool.false_or] at o2
      refine iteT ⟨_, rfl, (p, xs), rfl, ⟨TI.same s1 h, o2⟩, ?_⟩
      rintro _ H2 s2 rfl
      exact ⟨_, rfl, rfl, _, rfl, iteT ⟨_, rfl, k _ _ (s1.trans s2) rfl⟩⟩
theorem g52 : FnScope ["equation"] ["equation"] (defScope (top 21)) := (⟨rfl, rfl, rfl, by decide +kernel, rfl, by decide +kernel, by decide +kernel⟩)
abbrev spLeG : Sp := Prm (α := Addr × List Int) (fun a => [.ref a.1]) (fun a H => TI H a.1 a.2 ∧ okLe a.2 = true) (fun a H v H' => v = .bl true)
theorem c_leastG (D : Df K mg "is_least" (top 21)) (CG : Cal P w K mg base 1 "common_divisor" ["terms"] spGcd) (CL : Cal P w K mg base 4 "least_factor" ["terms"] spLfG) : Cal P w K mg base 5 "is_least" ["equation"] spLeG := by
  refine mkC D g52 (fun _ _ _ _ _ _ us hl => match us, hl with | [_], _ => rfl) (fun _ => rfl) (fun f cdv A outer s H a Q E hr h k => ?_)
  obtain ⟨p, xs⟩ := a
  obtain ⟨h, ok⟩ := h
  have h : TI H p xs := h
  have h0 : H p = some (.tup (xs.map V.int)) := h
  have k : ∀ v H', Same H H' → v = .bl true → Q v H' := k
  have ok : okLe xs = true := ok
  unfold okLe at ok
  simp only [Bool.and_eq_true, decide_eq_true_eq] at ok
  obtain ⟨⟨⟨⟨⟨⟨l0, l1⟩, ps⟩, hg⟩, ol⟩, sh⟩, cl⟩ := ok
  have hu : (A.deeper (envOfC "is_least" (defScope (top 21)) s.heap.objs.size f cdv)).units + 64 < cLine := by have := hr.un; omega
  refine ⟨_, pss_cons (ps_if (PW.pt (pw_or ((pt_cmpR op_lt ((pe_ix ix_tup (pv 0) (pe_un un_neg pe_int) (fun _ _ => rfl))) pe_int (nomark _))) (pw_or1 ((pt_cmpR op_ne (pe_cl CG hr (pa_cons (pv 0) pa_nil)) pe_int (nomark _)))))) pss_nv pss_nil)
    (pss_one (ps_ret (pe_cmpR (op_eqD hu) (pe_cl CL hr (pa_cons (pv 0) pa_nil)) (pv 0) (nomark _)))), ?_⟩
  refine ⟨_, rfl, _, rfl, p, _, _, _, rfl, rfl, SqT.of h0, at_lastD l0, _, _, rfl, rfl, _, rfl, ?_⟩
  rw [decide_eq_false (show ¬ (xs.getLastD 0 < 0) by omega)]
  refine iteF ⟨_, rfl, (p, xs), rfl, .inr h, ?_⟩
  rintro _ _ - ⟨rfl, rfl⟩
  refine ⟨rfl, _, rfl, ?_⟩
  show (if (!decide (V.int ((gcdL xs : Nat) : Int) = V.int 1)) = true then _ else _)
  rw [hg]
  refine iteF ⟨_, rfl, (p, xs), rfl, ⟨h, ol⟩, ?_⟩
  rintro _ H1 s1 rfl
  have h1 := s1 _ _ h0
  refine ⟨_, rfl, dT xs, dT xs, .tup (SqT.of h1) (dp_ints xs), .tup (SqT.of h1) (dp_ints xs), sh, sh, k _ _ s1 ?_⟩
  rw [SeqAt.eqv_refl _ cl]
end
end Xq

namespace Xq
open PySem PySem.Spec PyProof.Rows L2
/-! ### texts of ints -/
/-- the text of an int -/
abbrev W (i : Int) : Str := Str.ofString (toString i)
theorem tlW_nat (n : Nat) : TL.tl (W (n : Int)) = TL.numL n := TL.tl_num n
theorem tlW_neg {i : Int} (h : i < 0) : TL.tl (W i) = 45 :: TL.numL i.natAbs := by
  obtain ⟨m, rfl⟩ : ∃ m : Nat, i = Int.negSucc m := by
    cases i with
    | ofNat k => exact absurd h (by have := Int.natCast_nonneg k; show ¬ ((k : Int) < 0); omega)
    | negSucc m => exact ⟨m, rfl⟩
  rw [TL.tl_ofString]
  have e : (toString (Int.negSucc m) : String) = "-" ++ Nat.repr (m + 1) := rfl
  rw [e, String.toList_append, List.map_append, Nat.toList_repr]
  rfl
theorem tlW (i : Int) : TL.tl (W i) = (if i < 0 then [45] else []) ++ TL.numL i.natAbs := by
  by_cases h : i < 0
  · rw [if_pos h, tlW_neg h]
    rfl
  · rw [if_neg h, List.nil_append]
    have e : i = ((i.natAbs : Nat) : Int) := by omega
    have q := tlW_nat i.natAbs
    rw [← e] at q
    exact q
theorem free32 (i : Int) : 32 ∉ TL.tl (W i) := int_text_free' 32 ⟨by decide, by decide⟩ i
theorem len4 {i : Int} (h : i.natAbs ≤ 1000) : (TL.numL i.natAbs).length ≤ 4 := TL.numL_len (by decide) (by omega)
/-- the digits of it -/
def Dg (i : Int) : Str := ⟨(TL.numL i.natAbs).toArray⟩
theorem rm_minus (i : Int) : Txt.removeprefix (W i) (Str.ofString "-") = Dg i := by
  have e1 : (Str.ofString "-").cps.toList = [45] := rfl
  have e2 : (Str.ofString "-").length = 1 := rfl
  unfold Txt.removeprefix
  rw [PySem.StrLaws.subAt_eq, e1, e2, List.drop_zero]
  by_cases h : i < 0
  · have q : (W i).cps.toList = 45 :: TL.numL i.natAbs := tlW_neg h
    rw [q]
    have e3 : (List.take 1 (45 :: TL.numL i.natAbs) == [45]) = true := by simp
    rw [e3, if_pos rfl]
    unfold Txt.affix
    have hl : (W i).length = (TL.numL i.natAbs).length + 1 := by
      rw [TL.len_tl, show TL.tl (W i) = _ from q]
      rfl
    rw [hl]
    have e4 : ((TL.numL i.natAbs).length + 1 - 1 == (TL.numL i.natAbs).length + 1) = false := by
      rw [beq_eq_false_iff_ne]
      omega
    show (if ((TL.numL i.natAbs).length + 1 - 1 == (TL.numL i.natAbs).length + 1) = true then _ else _) = _
    rw [e4, if_neg (by decide)]
    refine TL.ext_tl ?_
    rw [TL.tl_strSub, show TL.tl (W i) = _ from q]
    show List.take ((TL.numL i.natAbs).length + 1 - 1) (TL.numL i.natAbs) = TL.numL i.natAbs
    rw [Nat.add_sub_cancel, List.take_length]
  · have q : (W i).cps.toList = TL.numL i.natAbs := by
      have z := tlW i
      rw [if_neg h] at z
      exact z
    rw [q]
    have e3 : (List.take 1 (TL.numL i.natAbs) == [45]) = false := by
      have hn := TL.numL_ne i.natAbs
      have hf := TL.numL_free (n := i.natAbs) (s := 45) (.inl (by decide))
      cases e : TL.numL i.natAbs with
      | nil => exact absurd e hn
      | cons a r =>
        rw [e] at hf
        rw [beq_eq_false_iff_ne]
        intro z
        have z2 : a = 45 := by simpa using z
        exact hf (by rw [z2]; exact List.mem_cons_self)
    rw [e3, if_neg (by decide)]
    show W i = _
    exact TL.ext_tl q
theorem dg_ascii (i : Int) : Txt.isascii (Dg i) = true := by
  unfold Txt.isascii Dg
  rw [List.all_toArray, List.all_eq_true]
  intro c hc
  have h := TL.numL_digits _ c hc
  exact decide_eq_true (by omega)
theorem ten_digits : ∀ k, k < 10 → Unicode.isDigit (48 + k) = true := by decide +kernel
theorem dg_digit (i : Int) : Txt.isdigit (Dg i) = true := by
  unfold Txt.isdigit
  have hl : (Dg i).length > 0 := by
    rw [TL.len_tl]
    exact List.length_pos_iff.mpr (TL.numL_ne _)
  rw [decide_eq_true hl, Bool.true_and]
  unfold Dg
  rw [List.all_toArray, List.all_eq_true]
  intro c hc
  have h := TL.numL_digits _ c hc
  obtain ⟨k, rfl⟩ : ∃ k, c = 48 + k := ⟨c - 48, by omega⟩
  exact ten_digits k (by omega)
theorem dg_len {i : Int} (h : i.natAbs ≤ 1000) : (Dg i).length ≤ 4 := by
  rw [TL.len_tl]
  exact len4 h
theorem w_len {i : Int} (h : i.natAbs ≤ 1000) : (W i).length ≤ 5 := by
  rw [TL.len_tl, tlW]
  have q := len4 h
  rw [List.length_append]
  split
  · show 1 + _ ≤ 5
    omega
  · show 0 + _ ≤ 5
    omega
theorem w_int {i : Int} (h : i.natAbs ≤ 1000) : PySem.intText? (W i) = some i := by
  have hl := w_len h
  by_cases hi : i < 0
  · have e := PySem.intText_neg (x := W i) (cs := TL.numL i.natAbs) (tlW_neg hi) (TL.numL_digits _) (TL.numL_ne _) (by omega)
    rw [TL.numL_val] at e
    refine e.trans ?_
    congr 1
    omega
  · have e : i = ((i.natAbs : Nat) : Int) := by omega
    have q := TL.int_num (n := i.natAbs) (by have := len4 h; omega)
    rw [← e] at q
    exact q
theorem len1000 : (W 1000).length = 4 := by decide +kernel
end Xq

/-! integer_of; told_by of any shape. -/
namespace Xq
open PySem PySem.Spec PyProof.Rows L2
theorem cut3 (a b c : V) (l : List V) : cutV (a :: b :: c :: l) (some 3) none = l := by
  unfold cutV
  have e1 : HT.sIx (a :: b :: c :: l).length 0 (some 3) = 3 := by
    unfold HT.sIx
    simp
    try omega
  have e2 : HT.sIx (a :: b :: c :: l).length (a :: b :: c :: l).length none = l.length + 3 := rfl
  rw [e1, e2]
  simp
/-- the text t tells rank r of xs, and it is a shape -/
def okT (t : Str) (r : Int) (xs : List Int) : Bool := decide (Txt.split t (Str.ofString " ") = Str.ofString "root" :: W r :: Str.ofString "of" :: xs.map W) && decide (t.length ≤ 600) && decide (r.natAbs ≤ 1000) && okE xs && okLe xs && okS xs &&
  okUB (sturmL xs) && okChB (sturmL xs) 0 1 && okChB (sturmL xs) (reachL ((sturmL xs).headD [])) 1 && decide (upL (sturmL xs) 0 1 ≤ r) && decide (r < allL (sturmL xs))
section
variable {P : Program} {w : World} {K : PySem.W.Frag} {mg : Str → Option Value} {base : Heap}
theorem s63 : FnScope ["word", "digits"] ["word"] (defScope (top 60)) := (⟨rfl, rfl, rfl, by decide +kernel, rfl, by decide +kernel, by decide +kernel⟩)
abbrev spIntOf : Sp := Prm (α := Int) (fun i => [.str (W i)]) (fun i _ => i.natAbs ≤ 1000) (fun i H v H' => v = .int i ∧ H' = H)
theorem c_intof (D : Df K mg "integer_of" (top 60)) (B : Bl mg) : Cal P w K mg base 1 "integer_of" ["word"] spIntOf := by
  refine mkC D s63 (fun _ _ _ _ _ _ us hl => match us, hl with | [_], _ => rfl) (fun _ => rfl) (fun f cdv A outer s H i Q E hr h k => ?_)
  have h : i.natAbs ≤ 1000 := h
  obtain ⟨tt, htt⟩ := B.term_
  refine ⟨_, pss_cons ((ps_set (i := 1) (FnScope.nd s63) rfl (Or.inl rfl) (pe_m1 PySem.F.slot_str_removeprefix PySem.F.type_str_removeprefix mt_removeprefix (pv 0) pe_str)))
    (pss_cons (ps_if (PW.pt (pw_or (pt_not (pt_val (pe_m0 PySem.F.slot_str_isascii PySem.F.type_str_isascii mt_isascii (pv 1))))
      (pw_or (pt_not (pt_val (pe_m0 PySem.F.slot_str_isdigit PySem.F.type_str_isdigit mt_isdigit (pv 1))))
      (pw_or1 ((pt_cmpR op_gt ((pe_callB call_len_str (by rfl) (Bl.len_ B) PySem.boot_len (pa_cons (pv 1) pa_nil))) ((pe_callB call_len_str (by rfl) (Bl.len_ B) PySem.boot_len (pa_cons (pe_callTy call_str_int (by rfl) B.str_ PyProof.Rows.boot_str (pa_cons (pe_glob (v := .int 1000) (by rfl) htt ⟨_, rfl⟩) pa_nil)) pa_nil))) (nomark _))))))) pss_nv pss_nil)
    (pss_one (ps_ret (pe_ifExp ((pt_cmpR op_eq (pe_callTy call_str_int (by rfl) B.str_ PyProof.Rows.boot_str (pa_cons (pe_callTy call_int_str (by rfl) B.int_ PyProof.Rows.boot_int (pa_cons (pv 0) pa_nil)) pa_nil)) (pv 0) (nomark _)))
      (pe_callTy call_int_str (by rfl) B.int_ PyProof.Rows.boot_int (pa_cons (pv 0) pa_nil)) pe_nv)))), ?_⟩
  have w5 := w_len h
  have sl : (640 : Nat) ≤ sizeLine := by decide
  refine ⟨_, rfl, ⟨_, rfl⟩, _, _, rfl, rfl, by omega, ?_⟩
  rw [rm_minus]
  refine ⟨_, rfl, ⟨_, rfl⟩, _, rfl, rfl, trivial, _, rfl, ?_⟩
  rw [dg_ascii]
  refine iteF ⟨_, rfl, ⟨_, rfl⟩, _, rfl, rfl, trivial, _, rfl, ?_⟩
  rw [dg_digit]
  have d4 := dg_len h
  refine iteF ⟨_, rfl, _, rfl, by omega, _, rfl, (by decide +kernel), _, rfl, ?_, _, _, rfl, rfl, _, rfl, ?_⟩
  · rw [show Str.length (Str.ofString (toString (1000 : Int))) = 4 from len1000]
    omega
  have ng : ¬ (((Dg i).length : Int) > (((W 1000).length : Nat) : Int)) := by
    rw [len1000]
    omega
  refine ite2 (fun hb => absurd (of_decide_eq_true hb) ng) (fun _ => ?_)
  have l2 : i.natAbs.log2 < 1920 := Nat.lt_of_lt_of_le (PySem.Flt.log2_lt_of (show 0 < 10 by decide) (show i.natAbs < 2 ^ 10 by omega)) (by decide)
  refine ⟨_, rfl, _, i, rfl, w_int h, by omega, i, rfl, l2, _, rfl, rfl, _, rfl, ?_⟩
  rw [decide_eq_true rfl]
  exact iteT ⟨_, rfl, _, i, rfl, w_int h, by omega, k _ _ (Same.refl _) ⟨rfl, rfl⟩⟩
abbrev nT : List Str := ["text", "words", "rank", "equation", "chain", "word"]
theorem s62 : FnScope nT ["text"] (defScope (top 59)) := (⟨rfl, rfl, rfl, by decide +kernel, rfl, by decide +kernel, by decide +kernel⟩)
abbrev spToldG : Sp := Prm (α := Str × Int × List Int) (fun a => [.str a.1]) (fun a H => okT a.1 a.2.1 a.2.2 = true) (fun a H v H' => ∃ r q, v = .ref r ∧ H' r = some (.tup [.int a.2.1, .ref q]) ∧ TI H' q a.2.2)
theorem c_toldG (D : Df K mg "told_by" (top 59)) (B : Bl mg) (CI : Cal P w K mg base 1 "integer_of" ["word"] spIntOf) (CW : Cal P w K mg base 3 "wrong_term" ["equation"] spWrongG)
    (CL : Cal P w K mg base 5 "is_least" ["equation"] spLeG) (CS : Cal P w K mg base 4 "sturm_chain" ["terms"] spSturmG) (CU : Cal P w K mg base 3 "roots_up_to" ["chain", "top", "bottom"] spUpG) (CA : Cal P w K mg base 4 "roots_in_all" ["chain"] spAllG) :
    Cal P w K mg base 6 "told_by" ["text"] spToldG := by
  refine mkC D s62 (fun _ _ _ _ _ _ us hl => match us, hl with | [_], _ => rfl) (fun _ => rfl) (fun f cdv A outer s H a Q E hr h k => ?_)
  obtain ⟨tx, rk, xs⟩ := a
  have h : okT tx rk xs = true := h
  unfold okT at h
  simp only [Bool.and_eq_true, decide_eq_true_eq] at h
  obtain ⟨⟨⟨⟨⟨⟨⟨⟨⟨⟨hsp, ht⟩, hrk⟩, oE⟩, oLe⟩, oS⟩, oU⟩, oC0⟩, oC1⟩, up⟩, al⟩ := h
  have oE' := oE
  unfold okE at oE'
  simp only [Bool.and_eq_true, decide_eq_true_eq, Bool.not_eq_true', decide_eq_false_iff_not] at oE'
  obtain ⟨⟨⟨l2, l6⟩, alx⟩, nz⟩ := oE'
  refine ⟨_, pss_cons ((ps_set (i := 1) (FnScope.nd s62) rfl (Or.inl rfl) (pe_ifExp (pt_val (pe_isi (v := .ty "str") (by rfl) B.isinstance_ (pv 0) (by rfl) B.str_ PyProof.Rows.boot_str rfl)) (pe_split (pv 0) pe_str) pe_nv)))
    (pss_cons (ps_if (PW.pt (pw_or ((pt_cmpR op_lt ((pe_callB call_len_seq (by rfl) (Bl.len_ B) PySem.boot_len (pa_cons (pv 1) pa_nil))) pe_int (nomark _))) (pw_or ((pt_cmpR op_ne ((pe_ix ix_list (pv 1) pe_int (fun _ _ => rfl))) pe_str (nomark _))) (pw_or1 ((pt_cmpR op_ne ((pe_ix ix_list (pv 1) pe_int (fun _ _ => rfl))) pe_str (nomark _))))))) pss_nv pss_nil)
    (pss_cons (ps_par (i := 2) (j := 3) rfl s62.nd rfl rfl (by decide) rfl rfl (pa_cons (pe_cl CI hr (pa_cons ((pe_ix ix_list (pv 1) pe_int (fun _ _ => rfl))) pa_nil)) (pa_cons (pe_callTy call_tuple_of (by rfl) B.tuple_ PyProof.Rows.boot_tuple (pa_cons
        (pe_lc (own := [("word", 5)]) (g := gName 5) (tt := tYes) (te := tCall spIntOf [] E0 (tCons (tVar 5) tNil)) rfl s62.nd (pi_list (pe_slice sl_list (pv 1) (po_some pe_int) po_none))
          (blkOk_by (N := nT) (sc := defScope (top 59)) (by decide +kernel)) (fun _ _ _ _ _ => (pg_name (i := 5) (FnScope.nd s62) rfl (Or.inl rfl))) (fun _ _ _ _ _ => pts_nil)
          (fun _ _ _ _ _ => pe_cl CI hr (pa_cons (pv 5) pa_nil))) pa_nil)) pa_nil)) rfl)
    (pss_cons (ps_if (PW.pt (pw_or (pt_cmpR op_isN (pv 2) pe_non (nomark _)) (pw_or ((pt_cmpR op_lt ((pe_callB call_len_seq (by rfl) (Bl.len_ B) PySem.boot_len (pa_cons (pv 3) pa_nil))) pe_int (nomark _))) (pw_or (pt_cmpR op_notN (pe_cl CW hr (pa_cons (pv 3) pa_nil)) pe_non (nomark _)) (pw_or1 (pt_not (pt_val (pe_cl CL hr (pa_cons (pv 3) pa_nil))))))))) pss_nv pss_nil)
    (pss_cons ((ps_set (i := 4) (FnScope.nd s62) rfl (Or.inl rfl) (pe_cl CS hr (pa_cons (pv 3) pa_nil))))
    (pss_cons (ps_if (pt_not (pt_chain op_le op_lt (pe_cl CU hr (pa_cons (pv 4) (pa_cons pe_int (pa_cons pe_int pa_nil)))) (pv 2) (pe_cl CA hr (pa_cons (pv 4) pa_nil)))) pss_nv pss_nil)
    (pss_one (ps_ret (pe_tup (pa_cons (pv 2) (pa_cons (pv 3) pa_nil)))))))))), ?_⟩
  have sl : (1000 : Nat) ≤ sizeLine := by decide
  refine ⟨_, rfl, _, _, _, _, true, rfl, .ty _, .base (.str _), kit_ty (by decide +kernel), _, rfl, iteT ?_⟩
  refine ⟨_, rfl, ⟨_, rfl⟩, _, _, rfl, rfl, rfl, (by show tx.length + 2 ≤ sizeLine; omega), fun ws hws => ?_⟩
  rw [hsp]
  have s1 := same_new (o := .lst ((Str.ofString "root" :: W rk :: Str.ofString "of" :: xs.map W).map V.str)) hws
  have w1 : upd H ws (.lst ((Str.ofString "root" :: W rk :: Str.ofString "of" :: xs.map W).map V.str)) ws = some (.lst (V.str (Str.ofString "root") :: V.str (W rk) :: V.str (Str.ofString "of") :: (xs.map W).map V.str)) := upd_same
  generalize upd H ws (.lst ((Str.ofString "root" :: W rk :: Str.ofString "of" :: xs.map W).map V.str)) = H0 at *
  refine ⟨_, rfl, ws, _, rfl, .inl (SqL.of w1), _, _, rfl, rfl, _, rfl, ?_⟩
  rw [decide_eq_false (show ¬ (((V.str (Str.ofString "root") :: V.str (W rk) :: V.str (Str.ofString "of") :: (xs.map W).map V.str).length : Nat) : Int) < 3 by simp only [List.length_cons]; omega)]
  refine iteF ?_
  refine ⟨_, rfl, ws, _, _, .str (Str.ofString "root"), rfl, rfl, SqL.of w1, atI_nat (j := 0) rfl, rfl, _, rfl, ?_⟩
  rw [decide_eq_true (show (.str (Str.ofString "root") : V) = .str "root" from rfl)]
  refine iteF ⟨_, rfl, ws, _, _, .str (Str.ofString "of"), rfl, rfl, SqL.of w1, atI_nat (j := 2) rfl, rfl, _, rfl, ?_⟩
  rw [decide_eq_true (show (.str (Str.ofString "of") : V) = .str "of" from rfl)]
  refine iteF ⟨_, rfl, ws, _, _, .str (W rk), rfl, rfl, SqL.of w1, atI_nat (j := 1) rfl, ?_⟩
  refine ⟨rk, rfl, hrk, ?_⟩
  rintro _ HX - ⟨rfl, eH⟩
  have eH : H0 = HX := eH.symm
  subst eH
  refine ⟨_, rfl, _, rfl, ws, _, rfl, SqL.of w1, fun t ht => ?_⟩
  rw [cut3]
  have s2 := Same.new (o := .lst ((xs.map W).map V.str)) s1 ht
  have w2 : upd H0 t (.lst ((xs.map W).map V.str)) t = some (.lst ((xs.map W).map V.str)) := upd_same
  generalize upd H0 t (.lst ((xs.map W).map V.str)) = H1 at *
  refine ⟨t, rfl, ⟨_, SqL.of w2⟩, fun D2 hD => lc_list (xs := (xs.map W).map V.str) (fun i H' => Same H1 H' ∧ H' D2 = some (.lst ((xs.take i).map V.int))) ⟨same_new hD, upd_same⟩ (fun i H' _ e => SqL.of (e.1 _ _ w2)) (fun i x H' hx e => ?_) (fun H' e => ?_)⟩
  · obtain ⟨s3, e3⟩ := e
    rw [List.map_map, List.getElem?_map] at hx
    have hi : i < xs.length := by
      rcases Nat.lt_or_ge i xs.length with q | q
      · exact q
      · rw [List.getElem?_eq_none q] at hx
        cases hx
    rw [List.getElem?_eq_getElem hi] at hx
    cases hx
    have bb := List.all_eq_true.mp alx xs[i] (List.getElem_mem hi)
    simp only [Bool.and_eq_true, decide_eq_true_eq] at bb
    refine ⟨rfl, _, rfl, xs[i], rfl, (by show (xs[i]).natAbs ≤ 1000; omega), ?_⟩
    rintro _ _ - ⟨rfl, rfl⟩
    refine ⟨_, e3, ?_, Same.put s3 hD, ?_⟩
    · rw [List.length_map, List.length_take]
      omega
    · rw [upd_same, List.take_succ, List.getElem?_eq_getElem hi, List.map_append]
      rfl
  · obtain ⟨s3, e3⟩ := e
    rw [List.length_map, List.length_map, List.take_length] at e3
    refine ⟨D2, _, rfl, .inl ⟨SqL.of e3, fun q hq => ?_⟩⟩
    have s4 := Same.new (o := .tup (xs.map V.int)) (s2.trans s3) hq
    have q4 : TI (upd H' q (.tup (xs.map V.int))) q xs := upd_same
    have q40 : upd H' q (.tup (xs.map V.int)) q = some (.tup (xs.map V.int)) := upd_same
    generalize upd H' q (.tup (xs.map V.int)) = H4 at *
    have lx' : (xs.map V.int).length = xs.length := List.length_map ..
    refine ⟨_, _, rfl, ?_⟩
    refine ⟨_, rfl, rfl, _, rfl, iteF ?_⟩
    refine ⟨_, rfl, q, _, rfl, .inr (SqT.of q40), _, _, rfl, rfl, _, rfl, ?_⟩
    rw [decide_eq_false (show ¬ ((((xs.map V.int).length : Nat) : Int) < 2) by rw [lx']; omega)]
    refine iteF ⟨_, rfl, (q, xs), rfl, ⟨q4, oE⟩, ?_⟩
    rintro _ H5 s5 rfl
    refine ⟨rfl, _, rfl, iteF ?_⟩
    have q5 := TI.same s5 q4
    refine ⟨_, rfl, (q, xs), rfl, ⟨q5, oLe⟩, ?_⟩
    rintro _ H6 s6 rfl
    have q6 := TI.same s6 q5
    refine ⟨_, rfl, iteF ?_⟩
    refine ⟨_, rfl, (q, xs), rfl, ⟨q6, oS⟩, ?_⟩
    rintro _ H7 s7 ⟨c, rfl, hc⟩
    have hc : Chn H7 c (sturmL xs) := hc
    refine ⟨_, rfl, (c, sturmL xs, 0, 1), rfl, ⟨hc, okUB_ok oU, okChB_ok oC0⟩, ?_⟩
    rintro _ H8 s8 rfl
    refine ⟨_, rfl, _, _, rfl, rfl, _, rfl, ?_⟩
    rw [decide_eq_true up]
    refine iteT ⟨_, rfl, (c, sturmL xs), rfl, ⟨hc.same s8, okUB_ok oU, okChB_ok oC1⟩, ?_⟩
    rintro _ H9 s9 rfl
    refine ⟨_, _, rfl, rfl, _, rfl, ?_⟩
    rw [decide_eq_true al]
    refine iteF ⟨_, rfl, _, rfl, (by show 2 ≤ sizeLine; decide), fun r hr9 => ?_⟩
    have sa := s5.trans (s6.trans (s7.trans (s8.trans (Same.new (o := .tup [.int rk, .ref q]) s9 hr9))))
    refine k _ _ (s4.trans sa) ⟨r, q, rfl, upd_same, ?_⟩
    exact TI.same sa q4
end
end Xq

/-! l[::-1] of a list; divided, whole. -/
namespace Xq
open PySem PySem.Spec PySem.Calls PyProof.Rows L2
theorem slicePick_rev (its : List Value) : slicePick its.toArray none none (some (-1)) = its.reverse.toArray := by
  have e : sliceRange (sliceBounds none none (some (-1)) its.toArray.size).1 (sliceBounds none none (some (-1)) its.toArray.size).2.1 (sliceBounds none none (some (-1)) its.toArray.size).2.2 = (List.range its.length).map fun (m : Nat) => ((((its.length : Nat) : Int) - 1) + (-1) * (m : Int)).toNat := by
    rw [List.size_toArray]
    show sliceRange (((its.length : Nat) : Int) - 1) (-1) (-1) = _
    unfold sliceRange
    by_cases h : its.length = 0
    · rw [h]
      rfl
    · have e2 : (if (-1 : Int) > 0 then (if ((its.length : Nat) : Int) - 1 < -1 then (-1 - (((its.length : Nat) : Int) - 1) + -1 - 1) / -1 else 0) else (if ((its.length : Nat) : Int) - 1 > -1 then (((its.length : Nat) : Int) - 1 - -1 - -1 - 1) / (- -1) else 0)).toNat = its.length := by
        rw [if_neg (by decide), if_pos (by omega), show (- -1 : Int) = 1 from rfl, Int.ediv_one]
        omega
      show (List.range (if (-1 : Int) > 0 then (if ((its.length : Nat) : Int) - 1 < -1 then (-1 - (((its.length : Nat) : Int) - 1) + -1 - 1) / -1 else 0) else (if ((its.length : Nat) : Int) - 1 > -1 then (((its.length : Nat) : Int) - 1 - -1 - -1 - 1) / (- -1) else 0)).toNat).map _ = _
      rw [e2]
  unfold slicePick
  rw [e, List.filterMap_map]
  refine congrArg List.toArray ?_
  rw [← rev_pick its]
  refine congrArg (fun f => List.filterMap f (List.range its.length)) (funext fun m => ?_)
  show its.toArray[(((its.length : Int) - 1) + (-1) * (m : Int)).toNat]? = its.toArray[(((its.length : Int) - 1) + (m : Int) * (-1)).toNat]?
  rw [Int.mul_comm]
def tRevL (K : PySem.W.Frag) (te : TE) : TE := fun σ H Q => te σ H fun x H1 => ∃ a xs, x = .ref a ∧ SqL K H1 a xs ∧ ∀ p, H1 p = none → Q (.ref p) (upd H1 p (.lst xs.reverse))
theorem pe_revL {X : Cx} {e : Expr} {te : TE} {k : Nat} {p1 p2 p3 pos : Pos} (he : PE X e te) : PE X (.Subscript e (.Slice none none (some (.UnaryOp .USub (.Constant (.int 1) k p1) p2)) p3) pos) (tRevL X.K te) := by
  refine ⟨fun pins s σ H Q I h => ?_⟩
  refine Subscript_ (thn (he.run pins s σ H _ I h) fun v s1 ⟨x, H1, I1, r1, q1⟩ => ?_)
  obtain ⟨a, xs, ex, hx, q⟩ := q1
  subst ex
  cases r1
  have hst : PO X (some (.UnaryOp .USub (.Constant (.int 1) k p1) p2)) (tPart (tUn (rU fun i => .int (-i)) (tC (.int 1)))) := po_some (pe_un un_neg pe_int)
  refine wpAny_Slice (thn (po_none.run pins s1 σ H1 (fun o H2 => o = none ∧ H2 = H1) I1 ⟨rfl, rfl⟩) fun vl s2 ⟨l, H2, I2, pl, el, e2⟩ => ?_)
  subst el e2
  refine thn (po_none.run pins s2 σ H2 (fun o H3 => o = none ∧ H3 = H2) I2 ⟨rfl, rfl⟩) fun vu s3 ⟨u, H3, I3, pu, eu, e3⟩ => ?_
  subst eu e3
  refine thn (hst.run pins s3 σ H3 (fun o H4 => o = some (-1) ∧ H4 = H3) I3 ⟨1, rfl, -1, rfl, rfl, rfl⟩) fun vs s4 ⟨o, H4, I4, ps, eo, e4⟩ => ?_
  subst eo e4
  have I5 : Inv X pins σ H4 { s4 with heap := s4.heap.push { cls := .type "slice", data := .fields #[vl, vu, vs] } } := I4.kept (t' := s4.toks) fun b ob q => Heap.get?_push_of_some _ q
  obtain ⟨its, r, ht, hz⟩ := I5.list hx
  have hlen := r.length
  show wpAny (model X.prog X.w) X.A (subscriptTail e (.Slice none none (some (.UnaryOp .USub (.Constant (.int 1) k p1) p2)) p3) (.ref a) (.ref s4.heap.objs.size)) (EP X pins σ Q) X.xe { s4 with heap := s4.heap.push { cls := .type "slice", data := .fields #[vl, vu, vs] } }
  refine tail_any (ops := [.ref a, .ref s4.heap.objs.size]) ht.isList.typeIs (slot_list_getitem.lookup) ?_ (by with_unfolding_all rfl)
  refine wpAny_getItem_list_slice ht.isList (Heap.IsSliceOf.new _ vl vu vs) pl pu ps (by decide) ?_ (by rw [List.size_toArray]; omega)
  rw [slicePick_rev]
  refine ⟨.ref _, _, I5.laid (t' := s4.toks) (o := .lst xs.reverse) (fun b ob q => Heap.get?_push_of_some _ q) (Nat.le_refl _) ?_, rfl, q _ (I5.hok.fresh (Nat.le_refl _))⟩
  exact ⟨by rw [List.length_reverse]; exact hz, _, 0, r.reverse, Heap.get?_push_size _ rfl⟩
end Xq

/-! divided. -/
namespace Xq
open PySem PySem.Spec PySem.Calls PyProof.Rows L2
/-- what divided tells -/
def divL (ys : List Int) : Nat → List Int → List Int → Option (List Int)
  | 0, rest, fs => if (rest.any fun x => x != 0) = true then none else some fs.reverse
  | n + 1, rest, fs => if rest.length < ys.length then (if (rest.any fun x => x != 0) = true then none else some fs.reverse) else if rest.getLastD 0 % ys.getLastD 0 = 0 then divL ys n (nxD ys rest) (fs ++ [qD ys rest]) else none
def okDw (ys : List Int) : Nat → List Int → Bool
  | 0, rest => decide (rest.length < ys.length)
  | n + 1, rest => decide (rest.length < ys.length) ||
      (decide (ys.length ≤ rest.length) && smB 4000 rest && decide (rest.length ≤ 1000) && smI 4000 (qD ys rest) && (!decide (rest.getLastD 0 % ys.getLastD 0 = 0) || okDw ys n (nxD ys rest)))
def okDg (xs ys : List Int) : Bool := decide (0 < ys.getLastD 0) && decide (1 ≤ ys.length) && decide (ys.length ≤ 1000) && smB 4000 ys && okDw ys 20 xs
def oT (H : Hp) (v : V) : Option (List Int) → Prop
  | none => v = .non
  | some l => ∃ q, v = .ref q ∧ TI H q l
section
variable {P : Program} {w : World} {K : PySem.W.Frag} {mg : Str → Option Value} {base : Heap}
theorem g37b : FnScope nDv ["one", "other"] (defScope (top 19)) := (⟨rfl, rfl, rfl, by decide +kernel, rfl, by decide +kernel, by decide +kernel⟩)
abbrev spDvA : Sp := Prm (α := Addr × Addr × List Int × List Int) (fun ⟨p, q, xs, ys⟩ => [.ref p, .ref q]) (fun ⟨p, q, xs, ys⟩ H => TI H p xs ∧ TI H q ys ∧ okDg xs ys = true) (fun ⟨p, q, xs, ys⟩ H v H' => oT H' v (divL ys 20 xs []))
theorem c_dvA (D : Df K mg "divided" (top 19)) (B : Bl mg) (wl : mg "list" = none) (wa : mg "any" = none) : Cal P w K mg base 1 "divided" ["one", "other"] spDvA := by
  refine mkC D g37b (fun _ _ _ _ _ _ us hl => match us, hl with | [_, _], _ => rfl) (fun _ => rfl) (fun f cdv A outer s H a Q E hr h k => ?_)
  obtain ⟨p, q, xs, ys⟩ := a
  obtain ⟨h1, h2, ok⟩ := h
  have h10 : H p = some (.tup (xs.map V.int)) := h1
  have h20 : H q = some (.tup (ys.map V.int)) := h2
  have k : ∀ v H', Same H H' → oT H' v (divL ys 20 xs []) → Q v H' := k
  have ok : okDg xs ys = true := ok
  unfold okDg at ok
  simp only [Bool.and_eq_true, decide_eq_true_eq] at ok
  obtain ⟨⟨⟨⟨b0, b1⟩, b2⟩, b3⟩, b4⟩ := ok
  have sy := smB_ok (a := 400000) b3 (by decide)
  refine ⟨_, pss_cons (ps_par (i := 2) (j := 3) rfl g37b.nd rfl rfl (by decide) rfl rfl (pa_cons (pe_callTy call_list_of (by rfl) wl PyProof.Rows.boot_list (pa_cons (pv 0) pa_nil)) (pa_cons (pe_lst pa_nil) pa_nil)) rfl)
    (pss_cons (ps_whI PassesOwn.never ((pt_cmpR op_ge ((pe_callB call_len_seq (by rfl) (Bl.len_ B) PySem.boot_len (pa_cons (pv 2) pa_nil))) ((pe_callB call_len_seq (by rfl) (Bl.len_ B) PySem.boot_len (pa_cons (pv 1) pa_nil))) (nomark _)))
      (pss_cons (ps_asg (pe_callB call_divmodW (by rfl) B.divmod_ PyProof.Rows.boot_divmod (pa_cons ((pe_ix ix_list (pv 2) (pe_un un_neg pe_int) (fun _ _ => rfl))) (pa_cons ((pe_ix ix_tup (pv 1) (pe_un un_neg pe_int) (fun _ _ => rfl))) pa_nil))) (pg_tup rfl (pgs_cons ((pg_name (i := 4) (FnScope.nd g37b) rfl (Or.inl rfl))) (pgs_cons ((pg_name (i := 5) (FnScope.nd g37b) rfl (Or.inl rfl))) pgs_nil))))
      (pss_cons (ps_if ((pt_cmpR op_ne (pv 5) pe_int (nomark _))) (pss_one (ps_ret pe_non)) pss_nil)
      (pss_cons (ps_expr (pe_bm PySem.F.plainAttrs_list PySem.F.slot_list_append PySem.F.type_list_append mt_append (pv 3) (pa_cons (pv 4) pa_nil)))
      (pss_cons ((ps_set (i := 6) (FnScope.nd g37b) rfl (Or.inl rfl) (pe_op op_sub ((pe_callB call_len_seq (by rfl) (Bl.len_ B) PySem.boot_len (pa_cons (pv 2) pa_nil))) ((pe_callB call_len_seq (by rfl) (Bl.len_ B) PySem.boot_len (pa_cons (pv 1) pa_nil))))))
      (pss_cons (ps_for PassesOwn.never rfl (pi_enumT (by rfl) B.enumerate_ (pa_cons (pv 1) pa_nil)) (pg_tup rfl (pgs_cons ((pg_name (i := 7) (FnScope.nd g37b) rfl (Or.inl rfl))) (pgs_cons ((pg_name (i := 8) (FnScope.nd g37b) rfl (Or.inl rfl))) pgs_nil)))
        (pss_one (ps_augS (pv 2) (pe_op op_add (pv 6) (pv 7)) get_list (pe_op op_mulW (pv 4) (pv 8)) ip_sub set_list)))
      (pss_one (ps_expr (pe_bm0 PySem.F.plainAttrs_list PySem.F.slot_list_pop PySem.F.type_list_pop mt_pop (pv 2))))))))))
    (pss_cons (ps_if (pt_val (pe_callB (cr_anyI rfl) (by rfl) wa PyProof.Rows.boot_any (pa_cons (pv 2) pa_nil))) (pss_one (ps_ret pe_non)) pss_nil)
    (pss_one (ps_ret (pe_callTy call_tuple_of (by rfl) B.tuple_ PyProof.Rows.boot_tuple (pa_cons (pe_revL (pv 3)) pa_nil)))))), ?_⟩
  refine ⟨_, rfl, p, _, rfl, .inr (SqT.of h10), fun r hr0 => ⟨by decide, fun fd hfd => ⟨_, _, rfl, ?_⟩⟩⟩
  have s1 := same_new (o := .lst (xs.map V.int)) hr0
  have s2 := Same.new (o := .lst []) s1 hfd
  have nf : r ≠ fd := fun e => by rw [← e, upd_same] at hfd; cases hfd
  have f0 : H fd = none := new_of s1 hfd
  have r0 : H r = none := hr0
  have er : upd (upd H r (.lst (xs.map V.int))) fd (.lst []) r = some (.lst (xs.map V.int)) := by
    rw [upd_ne nf]
    exact upd_same
  have ef : upd (upd H r (.lst (xs.map V.int))) fd (.lst []) fd = some (.lst (([] : List Int).map V.int)) := upd_same
  generalize upd (upd H r (.lst (xs.map V.int))) fd (.lst []) = H0 at *
  show tSeq _ _ _ [some (.ref p), some (.ref q), some (.ref r), some (.ref fd), none, none, none, none, none] H0
  refine ⟨fun m σ H' => ∃ (rs fs : List Int) (z4 z5 z6 z7 z8 : Option V), σ = [some (.ref p), some (.ref q), some (.ref r), some (.ref fd), z4, z5, z6, z7, z8] ∧ Same H H' ∧ H' r = some (.lst (rs.map V.int)) ∧ H' fd = some (.lst (fs.map V.int)) ∧ okDw ys m rs = true ∧ divL ys m rs fs = divL ys 20 xs [] ∧ fs.length + m ≤ 20, ⟨20, xs, [], none, none, none, none, none, rfl, s2, er, ef, b4, rfl, by decide⟩, ?_⟩
  rintro m σ H1 ⟨rs, fs, z4, z5, z6, z7, z8, rfl, s3, e1, e2, ok1, ed, lf⟩
  have h21 := s3 _ _ h20
  have lr' : (rs.map V.int).length = rs.length := List.length_map ..
  have ly' : (ys.map V.int).length = ys.length := List.length_map ..
  refine ⟨_, rfl, r, _, rfl, .inl (SqL.of e1), _, rfl, q, _, rfl, .inr (SqT.of h21), _, _, rfl, rfl, _, rfl, ?_⟩
  by_cases hlt : rs.length < ys.length
  · rw [decide_eq_false (show ¬ ((((rs.map V.int).length : Nat) : Int) ≥ (((ys.map V.int).length : Nat) : Int)) by rw [lr', ly']; omega)]
    have ed2 : divL ys m rs fs = if (rs.any fun x => x != 0) = true then none else some fs.reverse := by
      cases m with
      | zero => rfl
      | succ m => exact if_pos hlt
    rw [ed2] at ed
    refine iteF ⟨_, rfl, r, rs, rfl, SqL.of e1, _, rfl, ?_⟩
    cases han : rs.any (fun x => x != 0) with
    | true =>
      rw [han, if_pos rfl] at ed
      refine iteT (k _ _ s3 ?_)
      rw [← ed]
      rfl
    | false =>
      rw [han, if_neg (by decide)] at ed
      refine iteF ⟨_, rfl, fd, _, rfl, SqL.of e2, fun rv nrv => ⟨rv, _, rfl, .inl ⟨SqL.of upd_same, fun tq ntq => ?_⟩⟩⟩
      refine k _ _ ((s3.trans (same_new nrv)).trans (same_new ntq)) ?_
      rw [← ed]
      refine ⟨tq, rfl, ?_⟩
      show upd _ tq _ tq = some (.tup (fs.reverse.map V.int))
      rw [upd_same, List.map_reverse]
  · rw [decide_eq_true (show ((((rs.map V.int).length : Nat) : Int) ≥ (((ys.map V.int).length : Nat) : Int)) by rw [lr', ly']; omega)]
    cases m with
    | zero => exact absurd (of_decide_eq_true ok1) hlt
    | succ m =>
      have z : (decide (ys.length ≤ rs.length) && smB 4000 rs && decide (rs.length ≤ 1000) && smI 4000 (qD ys rs) && (!decide (rs.getLastD 0 % ys.getLastD 0 = 0) || okDw ys m (nxD ys rs))) = true := by
        rcases Bool.or_eq_true_iff.mp ok1 with z | z
        · exact absurd (of_decide_eq_true z) hlt
        · exact z
      obtain ⟨z, z5⟩ := Bool.and_eq_true_iff.mp z
      obtain ⟨z, z4⟩ := Bool.and_eq_true_iff.mp z
      obtain ⟨z, z3⟩ := Bool.and_eq_true_iff.mp z
      obtain ⟨z1, z2⟩ := Bool.and_eq_true_iff.mp z
      have lx : rs.length ≤ 1000 := of_decide_eq_true z3
      have sr := smB_ok (a := 4000) z2 (by decide)
      have sq := smI_ok (a := 400000) z4 (by decide)
      have l1 : 1 ≤ rs.length := by omega
      have dp : CDivP (rs.getLastD 0) (ys.getLastD 0) := divp_ok b0 (Nat.le_trans (PyProof.Rows.intBits_le (sr _ (last_mem l1))) (by omega))
      refine iteT ⟨_, rfl, _, rfl, r, _, _, _, rfl, rfl, SqL.of e1, at_lastD l1, _, rfl, _, rfl, q, _, _, _, rfl, rfl, SqT.of h21, at_lastD b1, _, _, rfl, dp, fun t ht => ?_⟩
      have t1 := same_new (o := .tup [.int (rs.getLastD 0 / ys.getLastD 0), .int (rs.getLastD 0 % ys.getLastD 0)]) ht
      have nt1 : r ≠ t := ne_of_none e1 ht
      have nt2 : fd ≠ t := ne_of_none e2 ht
      have s4 := s3.trans t1
      have e3 := (upd_ne (o := .tup [.int (rs.getLastD 0 / ys.getLastD 0), .int (rs.getLastD 0 % ys.getLastD 0)]) (H := H1) nt1).trans e1
      have e4 := (upd_ne (o := .tup [.int (rs.getLastD 0 / ys.getLastD 0), .int (rs.getLastD 0 % ys.getLastD 0)]) (H := H1) nt2).trans e2
      refine ⟨t, _, rfl, SqT.of upd_same, rfl, _, _, rfl, _, _, rfl, rfl, ?_⟩
      generalize upd H1 t (.tup [.int (rs.getLastD 0 / ys.getLastD 0), .int (rs.getLastD 0 % ys.getLastD 0)]) = H2 at *
      refine ⟨_, rfl, rfl, _, rfl, ?_⟩
      by_cases hz : rs.getLastD 0 % ys.getLastD 0 = 0
      · rw [decide_eq_true (show V.int (rs.getLastD 0 % ys.getLastD 0) = V.int 0 by rw [hz])]
        have okn : okDw ys m (nxD ys rs) = true := by
          rw [decide_eq_true hz] at z5
          exact z5
        have n3 : fd ≠ r := fun e => nf e.symm
        have edn : divL ys m (nxD ys rs) (fs ++ [qD ys rs]) = divL ys 20 xs [] := by
          rw [← ed]
          show _ = if rs.length < ys.length then _ else _
          rw [if_neg hlt, if_pos hz]
        refine iteF ⟨_, rfl, .inl ⟨rfl, _, SqL.of e4⟩, _, rfl, fd, _, _, rfl, rfl, e4, ?_, ?_⟩
        · rw [List.length_map]
          exact Nat.lt_of_le_of_lt (show fs.length ≤ 20 by omega) (by decide)
        have s5 : Same H (upd H2 fd (.lst (fs.map V.int ++ [V.int (rs.getLastD 0 / ys.getLastD 0)]))) := Same.put s4 f0
        have e5 : upd H2 fd (.lst (fs.map V.int ++ [V.int (rs.getLastD 0 / ys.getLastD 0)])) r = some (.lst (rs.map V.int)) := by
          rw [upd_ne nf]
          exact e3
        have e6 : upd H2 fd (.lst (fs.map V.int ++ [V.int (rs.getLastD 0 / ys.getLastD 0)])) fd = some (.lst ((fs ++ [rs.getLastD 0 / ys.getLastD 0]).map V.int)) := by
          rw [upd_same, List.map_append]
          rfl
        generalize upd H2 fd (.lst (fs.map V.int ++ [V.int (rs.getLastD 0 / ys.getLastD 0)])) = H3 at *
        have h23 := s5 _ _ h20
        refine ⟨_, rfl, r, _, rfl, .inl (SqL.of e5), _, rfl, q, _, rfl, .inr (SqT.of h23), _, _, rfl, rfl, ?_⟩
        have en : ((((rs.map V.int).length : Nat) : Int) - (((ys.map V.int).length : Nat) : Int)) = ((rs.length - ys.length : Nat) : Int) := by
          rw [lr', ly']
          omega
        show (tSeq _ _) _ [some (.ref p), some (.ref q), some (.ref r), some (.ref fd), some (.int (qD ys rs)), some (.int (rs.getLastD 0 % ys.getLastD 0)), some (.int ((((rs.map V.int).length : Nat) : Int) - (((ys.map V.int).length : Nat) : Int))), z7, z8] H3
        rw [en]
        refine ⟨_, rfl, q, _, rfl, SqT.of h23, for_enum (xs := ys.map V.int) (fun i σ H' => Same H H' ∧ H' r = some (.lst ((stG (fun o t => o - qD ys rs * t) ys (rs.length - ys.length) rs i).map V.int)) ∧ H' fd = some (.lst ((fs ++ [qD ys rs]).map V.int)) ∧ ∃ y z : Option V, σ = [some (.ref p), some (.ref q), some (.ref r), some (.ref fd), some (.int (qD ys rs)), some (.int (rs.getLastD 0 % ys.getLastD 0)), some (.int ((rs.length - ys.length : Nat) : Int)), y, z]) ⟨s5, e5, e6, _, _, rfl⟩ (fun i σ H' _ e => SqT.of (e.1 _ _ h20)) ?_ ?_⟩
        · rintro i x σ H4 hx ⟨s6, e7, e8, y, z, rfl⟩ T hT
          obtain ⟨b, hb, rfl⟩ := at_map hx
          have hi := lt_of_at hb
          have s7 := Same.new (o := .tup [.int (i : Nat), .int b]) s6 hT
          have nT : r ≠ T := ne_of_none e7 hT
          have nT2 : fd ≠ T := ne_of_none e8 hT
          have e9 : upd H4 T (.tup [.int (i : Nat), .int b]) r = _ := (upd_ne nT).trans e7
          have e10 : upd H4 T (.tup [.int (i : Nat), .int b]) fd = _ := (upd_ne nT2).trans e8
          have li : i + (rs.length - ys.length) < (stG (fun o t => o - qD ys rs * t) ys (rs.length - ys.length) rs i).length := by
            rw [stG_len]
            omega
          have ei : (((rs.length - ys.length : Nat) : Int) + (i : Int)) = ((i + (rs.length - ys.length) : Nat) : Int) := by omega
          refine ⟨T, _, rfl, SqT.of upd_same, rfl, _, _, rfl, _, _, rfl, rfl, _, rfl, _, rfl, _, rfl, _, _, rfl, rfl, r, _, _, V.int ((stG (fun o t => o - qD ys rs * t) ys (rs.length - ys.length) rs i).getD (i + (rs.length - ys.length)) 0), rfl, rfl, SqL.of e9, by rw [ei]; exact atI_nat (getD_map li), ?_⟩
          refine ⟨_, rfl, _, rfl, _, _, rfl, rfl, cm sq (sy b (List.mem_of_getElem? hb)), _, _, rfl, rfl, r, _, _, i + (rs.length - ys.length), rfl, rfl, e9, by rw [ei]; exact ixN_nat (by rw [List.length_map]; exact li), ?_⟩
          refine ⟨Same.put s7 r0, ?_, ?_, _, _, rfl⟩
          · rw [upd_same, set_map]
            show some (HO.lst _) = some (HO.lst (List.map V.int (List.set _ _ _)))
            rw [getD_of hb]
          · rw [upd_ne n3]
            exact e10
        · rintro σ H4 ⟨s6, e7, e8, y, z, rfl⟩
          rw [ly'] at e7
          refine ⟨_, rfl, .inl ⟨rfl, _, SqL.of e7⟩, r, _, V.int ((stG (fun o t => o - qD ys rs * t) ys (rs.length - ys.length) rs ys.length).getD (rs.length - 1) 0), rfl, rfl, e7, ?_, ?_⟩
          · rw [List.length_map, stG_len]
            exact getD_map (by rw [stG_len]; omega)
          · refine ⟨m, Nat.lt_succ_self m, nxD ys rs, fs ++ [qD ys rs], _, _, _, _, _, rfl, Same.put s6 r0, ?_, ?_, okn, edn, ?_⟩
            · rw [upd_same, ← List.map_dropLast]
              rfl
            · rw [upd_ne n3]
              exact e8
            · rw [List.length_append, List.length_singleton]
              omega
      · rw [decide_eq_false (show ¬ V.int (rs.getLastD 0 % ys.getLastD 0) = V.int 0 from fun q => hz (V.int.inj q))]
        refine iteT (k _ _ s4 ?_)
        rw [← ed]
        have ed3 : divL ys (m + 1) rs fs = none := by
          show (if rs.length < ys.length then _ else _) = _
          rw [if_neg hlt, if_neg hz]
        rw [ed3]
        rfl
end
end Xq

/-! linear_factor, least_factor, whole. -/
namespace Xq
open PySem PySem.Spec PyProof.Rows L2
def linIn (xs : List Int) (t b : Int) : Option (List Int) :=
  if Nat.gcd t.natAbs b.natAbs = 1 then (if valL xs t b = 0 then some [-t, b] else if valL xs (-t) b = 0 then some [- -t, b] else none) else none
def linF (xs : List Int) (t : Int) : Option (List Int) := (dvL (xs.getLastD 0)).findSome? (linIn xs t)
/-- what linear_factor tells -/
def linL (xs : List Int) : Option (List Int) := if xs.getD 0 0 = 0 then some [0, 1] else (dvL (xs.getD 0 0)).findSome? (linF xs)
def okLinG (xs : List Int) : Bool := decide (2 ≤ xs.length) && decide (xs.length ≤ 1000) && decide ((xs.getD 0 0).natAbs ≤ 1000) && decide ((xs.getLastD 0).natAbs ≤ 1000) &&
  (dvL (xs.getD 0 0)).all fun t => (dvL (xs.getLastD 0)).all fun b => !decide (Nat.gcd t.natAbs b.natAbs = 1) || (okVB xs t b && okVB xs (-t) b)
theorem drop_at {α β : Type} {l : List α} {i : Nat} {x : α} (h : l[i]? = some x) (f : α → Option β) : (l.drop i).findSome? f = (match f x with | some r => some r | none => (l.drop (i + 1)).findSome? f) := by
  have hi : i < l.length := by
    rcases Nat.lt_or_ge i l.length with q | q
    · exact q
    · rw [List.getElem?_eq_none q] at h
      cases h
  rw [List.getElem?_eq_getElem hi] at h
  rw [List.drop_eq_getElem_cons hi, List.findSome?_cons, Option.some.inj h]
  cases f x <;> rfl
section
variable {P : Program} {w : World} {K : PySem.W.Frag} {mg : Str → Option Value} {base : Heap}
abbrev spLinA : Sp := Prm (α := Addr × List Int) (fun a => [.ref a.1]) (fun a H => TI H a.1 a.2 ∧ okLinG a.2 = true) (fun a H v H' => oT H' v (linL a.2))
theorem c_linA (D : Df K mg "linear_factor" (top 25)) (B : Bl mg) (CD : Cal P w K mg base 1 "divisors" ["number"] spDivG) (C : Cal P w K mg base 1 "value_at" ["terms", "top", "bottom"] spValG) : Cal P w K mg base 2 "linear_factor" ["terms"] spLinA := by
  refine mkC D g56 (fun _ _ _ _ _ _ us hl => match us, hl with | [_], _ => rfl) (fun _ => rfl) (fun f cdv A outer s H a Q E hr h k => ?_)
  obtain ⟨p, xs⟩ := a
  obtain ⟨h, ok⟩ := h
  have h : TI H p xs := h
  have h0 : H p = some (.tup (xs.map V.int)) := h
  have k : ∀ v H', Same H H' → oT H' v (linL xs) → Q v H' := k
  have ok : okLinG xs = true := ok
  unfold okLinG at ok
  simp only [Bool.and_eq_true, decide_eq_true_eq] at ok
  obtain ⟨⟨⟨⟨l2, l1⟩, d0⟩, dl⟩, al⟩ := ok
  have call : ∀ {H1 : Hp} {t b : Int} {Qv : VK}, Same H H1 → okVB xs t b = true → (∀ H2, Same H1 H2 → Qv (.int (valL xs t b)) H2) → spValG [.ref p, .int t, .int b] H1 Qv E0 := fun {H1 t b Qv} s1 o kk => by
    refine ⟨(p, xs, t, b), rfl, ⟨TI.same s1 h, okVB_ok o⟩, ?_⟩
    rintro _ H2 s2 rfl
    exact kk _ s2
  refine ⟨_, pss_cons (ps_if ((pt_cmpR op_eq ((pe_ix ix_tup (pv 0) pe_int (fun _ _ => rfl))) pe_int (nomark _))) (pss_one (ps_ret (pe_tup (pa_cons pe_int (pa_cons pe_int pa_nil))))) pss_nil)
    (pss_cons ((ps_set (i := 1) (FnScope.nd g56) rfl (Or.inl rfl) (pe_cl CD hr (pa_cons ((pe_ix ix_tup (pv 0) (pe_un un_neg pe_int) (fun _ _ => rfl))) pa_nil))))
    (pss_cons (ps_for PassesOwn.never rfl (pi_list (pe_cl CD hr (pa_cons ((pe_ix ix_tup (pv 0) pe_int (fun _ _ => rfl))) pa_nil))) ((pg_name (i := 2) (FnScope.nd g56) rfl (Or.inl rfl)))
      (pss_one (ps_for PassesOwn.never rfl (pi_list (pv 1)) ((pg_name (i := 3) (FnScope.nd g56) rfl (Or.inl rfl)))
        (pss_cons (ps_if ((pt_cmpR op_ne (pe_callBfun cr_gcd (by rfl) B.gcd_ (pa_cons (pv 2) (pa_cons (pv 3) pa_nil))) pe_int (nomark _))) (pss_one ps_continue) pss_nil)
        (pss_one (ps_for PassesOwn.never rfl (pi_tup (pe_tup (pa_cons (pv 2) (pa_cons (pe_un un_neg (pv 2)) pa_nil)))) ((pg_name (i := 4) (FnScope.nd g56) rfl (Or.inl rfl)))
          (pss_one (ps_if ((pt_cmpR op_eq (pe_cl C hr (pa_cons (pv 0) (pa_cons (pv 4) (pa_cons (pv 3) pa_nil)))) pe_int (nomark _))) (pss_one (ps_ret (pe_tup (pa_cons (pe_un un_neg (pv 4)) (pa_cons (pv 3) pa_nil))))) pss_nil))))))))
    (pss_one (ps_ret pe_non)))), ?_⟩
  have nz : ∀ {v : Int}, ¬ v = 0 → decide (V.int v = V.int 0) = false := fun {v} e => decide_eq_false fun q => e (V.int.inj q)
  have yz : ∀ {v : Int}, v = 0 → decide (V.int v = V.int 0) = true := fun {v} e => decide_eq_true (by rw [e])
  have sz2 : 2 ≤ sizeLine := by decide
  refine ⟨_, rfl, p, _, _, _, rfl, rfl, SqT.of h0, atI_nat (j := 0) (getD_map (by omega)), rfl, _, rfl, ?_⟩
  by_cases n0 : xs.getD 0 0 = 0
  · rw [yz n0]
    refine iteT ⟨sz2, fun q hq => k _ _ (same_new hq) ?_⟩
    unfold linL
    rw [if_pos n0]
    exact ⟨q, rfl, upd_same⟩
  rw [nz n0]
  have eL : linL xs = (dvL (xs.getD 0 0)).findSome? (linF xs) := by
    unfold linL
    rw [if_neg n0]
  rw [eL] at k
  refine iteF ⟨_, rfl, _, rfl, p, _, _, _, rfl, rfl, SqT.of h0, at_lastD (by omega), xs.getLastD 0, rfl, dl, ?_⟩
  rintro _ H1 s1 ⟨bo, rfl, hbo⟩
  have hbo : H1 bo = some (.lst ((dvL (xs.getLastD 0)).map V.int)) := hbo
  have h1 := s1 _ _ h0
  refine ⟨_, rfl, p, _, _, _, rfl, rfl, SqT.of h1, atI_nat (j := 0) (getD_map (by omega)), xs.getD 0 0, rfl, d0, ?_⟩
  rintro _ H2 s2 ⟨to, rfl, hto⟩
  have hto : H2 to = some (.lst ((dvL (xs.getD 0 0)).map V.int)) := hto
  have hbo2 := s2 _ _ hbo
  have s12 := s1.trans s2
  refine ⟨to, rfl, ⟨_, SqL.of hto⟩, for_list (xs := (dvL (xs.getD 0 0)).map V.int) (fun i σ H' => Same H2 H' ∧ ((dvL (xs.getD 0 0)).drop i).findSome? (linF xs) = (dvL (xs.getD 0 0)).findSome? (linF xs) ∧ ∃ z2 z3 z4 : Option V, σ = [some (.ref p), some (.ref bo), z2, z3, z4]) ⟨Same.refl _, rfl, none, none, none, rfl⟩ (fun i σ H' _ e => SqL.of (e.1 _ _ hto)) ?_ ?_⟩
  · rintro i x σ H3 hx ⟨s3, ei, z2, z3, z4, rfl⟩
    obtain ⟨t, ht, rfl⟩ := at_map hx
    rw [drop_at ht] at ei
    have alt := List.all_eq_true.mp al t (List.mem_of_getElem? ht)
    have hbo3 := s3 _ _ hbo2
    refine ⟨_, rfl, bo, rfl, ⟨_, SqL.of hbo3⟩, for_list (xs := (dvL (xs.getLastD 0)).map V.int) (fun j σ H' => Same H2 H' ∧ ((dvL (xs.getLastD 0)).drop j).findSome? (linIn xs t) = linF xs t ∧ ∃ z3 z4 : Option V, σ = [some (.ref p), some (.ref bo), some (.int t), z3, z4]) ⟨s3, rfl, z3, z4, rfl⟩ (fun i σ H' _ e => SqL.of (e.1 _ _ hbo2)) ?_ ?_⟩
    · rintro j y σ H4 hy ⟨s4, ej, z3, z4, rfl⟩
      obtain ⟨b, hb, rfl⟩ := at_map hy
      rw [drop_at hb] at ej
      have alb := List.all_eq_true.mp alt b (List.mem_of_getElem? hb)
      refine ⟨_, rfl, _, rfl, t, b, rfl, rfl, _, rfl, ?_⟩
      by_cases hg : Nat.gcd t.natAbs b.natAbs = 1
      · rw [decide_eq_true hg, Bool.not_true, Bool.false_or] at alb
        obtain ⟨o1, o2⟩ := Bool.and_eq_true_iff.mp alb
        have hit : ∀ r, linIn xs t b = some r → (dvL (xs.getD 0 0)).findSome? (linF xs) = some r := fun r e => by
          rw [e] at ej
          rw [← ej] at ei
          exact ei.symm
        rw [decide_eq_true (show V.int ((Nat.gcd t.natAbs b.natAbs : Nat) : Int) = V.int 1 by rw [hg]; rfl)]
        refine iteF ⟨_, rfl, _, rfl, t, rfl, sz2, fun a na => ?_⟩
        have t1 := same_new (o := .tup [.int t, .int (-t)]) na
        have ha : upd H4 a (.tup [.int t, .int (-t)]) a = some (.tup [.int t, .int (-t)]) := upd_same
        have s5 := s12.trans (s4.trans t1)
        refine ⟨a, rfl, ⟨_, SqT.of ha⟩, for_unr (xs := [.int t, .int (-t)]) walk_tup ?_⟩
        refine ⟨SqT.of ha, ?_⟩
        refine ⟨_, rfl, _, rfl, _, rfl, call s5 o1 fun H6 s6 => ⟨rfl, _, rfl, ?_⟩⟩
        by_cases v1 : valL xs t b = 0
        · rw [yz v1]
          refine iteT ⟨_, rfl, t, rfl, _, rfl, sz2, fun q hq => k _ _ ((s5.trans s6).trans (same_new hq)) ?_⟩
          rw [hit [-t, b] (by unfold linIn; rw [if_pos hg, if_pos v1])]
          exact ⟨q, rfl, upd_same⟩
        rw [nz v1]
        refine iteF ⟨SqT.of (s6 _ _ ha), ?_⟩
        refine ⟨_, rfl, _, rfl, _, rfl, call (s5.trans s6) o2 fun H7 s7 => ⟨rfl, _, rfl, ?_⟩⟩
        by_cases v2 : valL xs (-t) b = 0
        · rw [yz v2]
          refine iteT ⟨_, rfl, -t, rfl, _, rfl, sz2, fun q hq => k _ _ (((s5.trans s6).trans s7).trans (same_new hq)) ?_⟩
          rw [hit [- -t, b] (by unfold linIn; rw [if_pos hg, if_neg v1, if_pos v2])]
          exact ⟨q, rfl, upd_same⟩
        rw [nz v2]
        have mis : linIn xs t b = none := by unfold linIn; rw [if_pos hg, if_neg v1, if_neg v2]
        rw [mis] at ej
        exact iteF ⟨SqT.of (s7 _ _ (s6 _ _ ha)), s4.trans (t1.trans (s6.trans s7)), ej, _, _, rfl⟩
      · rw [decide_eq_false (show ¬ V.int ((Nat.gcd t.natAbs b.natAbs : Nat) : Int) = V.int 1 from fun q => hg (by have := V.int.inj q; omega))]
        have mis : linIn xs t b = none := by unfold linIn; rw [if_neg hg]
        rw [mis] at ej
        exact iteT ⟨s4, ej, _, _, rfl⟩
    · rintro σ H4 ⟨s4, ej, z3, z4, rfl⟩
      rw [List.length_map, List.drop_length] at ej
      rw [← ej] at ei
      exact ⟨s4, ei, _, _, _, rfl⟩
  · rintro σ H3 ⟨s3, ei, z2, z3, z4, rfl⟩
    rw [List.length_map, List.drop_length] at ei
    refine k _ _ (s12.trans s3) ?_
    rw [← ei]
    rfl
/-- what least_factor tells; None of degree 2 in what has none of degree 1 -/
def lfL (xs : List Int) : List Int := if xs.length = 2 then xs else (linL xs).getD xs
def okLfG (xs : List Int) : Bool := decide (xs.length = 2) || (okLinG xs && (!decide (linL xs = none) || decide (xs.length < 5) || okQu xs))
abbrev spLfA : Sp := Prm (α := Addr × List Int) (fun a => [.ref a.1]) (fun a H => TI H a.1 a.2 ∧ okLfG a.2 = true) (fun a H v H' => ∃ q, v = .ref q ∧ TI H' q (lfL a.2))
theorem c_lfA (D : Df K mg "least_factor" (top 23)) (B : Bl mg) (C : Cal P w K mg base 2 "linear_factor" ["terms"] spLinA) (CQ : Cal P w K mg base 3 "quadratic_factor" ["terms"] spQuG) : Cal P w K mg base 4 "least_factor" ["terms"] spLfA := by
  refine mkC D g54 (fun _ _ _ _ _ _ us hl => match us, hl with | [_], _ => rfl) (fun _ => rfl) (fun f cdv A outer s H a Q E hr h k => ?_)
  obtain ⟨p, xs⟩ := a
  obtain ⟨h, ok⟩ := h
  have h : TI H p xs := h
  have k : ∀ v H', Same H H' → (∃ q, v = .ref q ∧ TI H' q (lfL xs)) → Q v H' := k
  have h0 : H p = some (.tup (xs.map V.int)) := h
  have ok : okLfG xs = true := ok
  have lx' : (xs.map V.int).length = xs.length := List.length_map ..
  refine ⟨_, pss_cons (ps_if ((pt_cmpR op_eq ((pe_callB call_len_seq (by rfl) (Bl.len_ B) PySem.boot_len (pa_cons (pv 0) pa_nil))) pe_int (nomark _))) (pss_one (ps_ret (pv 0))) pss_nil)
    (pss_cons ((ps_set (i := 1) (FnScope.nd g54) rfl (Or.inl rfl) (pe_cl C hr (pa_cons (pv 0) pa_nil))))
    (pss_cons (ps_if (PW.pt (pw_and (pt_cmpR op_isN (pv 1) pe_non (nomark _)) (pw_and1 ((pt_cmpR op_ge ((pe_callB call_len_seq (by rfl) (Bl.len_ B) PySem.boot_len (pa_cons (pv 0) pa_nil))) pe_int (nomark _)))))) (pss_one ((ps_set (i := 1) (FnScope.nd g54) rfl (Or.inl rfl) (pe_cl CQ hr (pa_cons (pv 0) pa_nil))))) pss_nil)
    (pss_one (ps_ret (pe_ifExp (pt_cmpR op_isN (pv 1) pe_non (nomark _)) (pv 0) (pv 1)))))), ?_⟩
  refine ⟨_, rfl, p, _, rfl, .inr (SqT.of h0), rfl, _, rfl, ?_⟩
  by_cases e2 : xs.length = 2
  · rw [decide_eq_true (show V.int (((xs.map V.int).length : Nat) : Int) = V.int 2 by rw [lx', e2]; rfl)]
    refine iteT ⟨_, rfl, k _ _ (Same.refl _) ⟨p, rfl, ?_⟩⟩
    unfold lfL
    rw [if_pos e2]
    exact h
  · rw [decide_eq_false (show ¬ V.int (((xs.map V.int).length : Nat) : Int) = V.int 2 from fun q => e2 (by have := V.int.inj q; rw [lx'] at this; omega))]
    unfold okLfG at ok
    rw [decide_eq_false e2, Bool.false_or] at ok
    obtain ⟨o1, o2⟩ := Bool.and_eq_true_iff.mp ok
    have eF : lfL xs = (linL xs).getD xs := by
      unfold lfL
      rw [if_neg e2]
    rw [eF] at k
    refine iteF ⟨_, rfl, (p, xs), rfl, ⟨h, o1⟩, ?_⟩
    rintro v H1 s1 ho
    have ho : oT H1 v (linL xs) := ho
    cases hl : linL xs with
    | some l =>
      rw [hl] at ho k
      obtain ⟨q, rfl, hq⟩ := ho
      refine ⟨_, rfl, rfl, _, rfl, iteF ?_⟩
      exact ⟨_, rfl, rfl, _, rfl, iteF ⟨_, rfl, k _ _ s1 ⟨q, rfl, hq⟩⟩⟩
    | none =>
      rw [hl] at ho k
      have ho : v = .non := ho
      subst ho
      rw [decide_eq_true hl, Bool.not_true, Bool.false_or] at o2
      refine ⟨_, rfl, rfl, _, rfl, iteT ⟨_, rfl, p, _, rfl, .inr (SqT.of (s1 _ _ h0)), _, _, rfl, rfl, _, rfl, ?_⟩⟩
      by_cases e5 : xs.length < 5
      · rw [decide_eq_false (show ¬ ((((xs.map V.int).length : Nat) : Int) ≥ 5) by rw [lx']; omega)]
        exact iteF ⟨_, rfl, rfl, _, rfl, iteT ⟨_, rfl, k _ _ s1 ⟨p, rfl, TI.same s1 h⟩⟩⟩
      · rw [decide_eq_true (show ((((xs.map V.int).length : Nat) : Int) ≥ 5) by rw [lx']; omega)]
        rw [decide_eq_false e5, Bool.false_or] at o2
        refine iteT ⟨_, rfl, (p, xs), rfl, ⟨TI.same s1 h, o2⟩, ?_⟩
        rintro _ H2 s2 rfl
        exact ⟨_, rfl, rfl, _, rfl, iteT ⟨_, rfl, k _ _ (s1.trans s2) ⟨p, rfl, TI.same (s1.trans s2) h⟩⟩⟩
end
end Xq

/-! factors_of. -/
namespace Xq
open PySem PySem.Spec PyProof.Rows L2
def inF (fs : List (List Int)) (f : List Int) : Bool := (fs.map dT).any fun z => PyData.eqv z (dT f)
def facS : Nat → List Int → List (List Int) → List (List Int)
  | 0, _, fs => fs
  | n + 1, rest, fs => if rest.length ≤ 1 then fs else facS n ((divL (lfL rest) 20 rest []).getD []) (if inF fs (lfL rest) then fs else fs ++ [lfL rest])
def okFc : Nat → List Int → List (List Int) → Bool
  | 0, rest, _ => decide (rest.length ≤ 1)
  | n + 1, rest, fs => decide (rest.length ≤ 1) || (decide (rest.length ≤ 1000) && okLfG rest && okDg rest (lfL rest) && (divL (lfL rest) 20 rest []).isSome && SeqAt.shaped (dT (lfL rest)) && SeqAt.shaped (.list (fs.map dT)) && decide (fs.length ≤ 100) &&
      okFc n ((divL (lfL rest) 20 rest []).getD []) (if inF fs (lfL rest) then fs else fs ++ [lfL rest]))
def posL (ys : List Int) : List Int := if ys.getLastD 0 < 0 then ys.map fun x => -x else ys
/-- what factors_of tells -/
def facL (xs : List Int) : List (List Int) := facS 10 (posL (primL xs)) []
def okFac (xs : List Int) : Bool := decide (xs.length ≤ 1000) && decide (gcdL xs < 2 ^ 9000) && decide (1 ≤ (primL xs).length) && decide ((primL xs).length ≤ 1000) && okFc 10 (posL (primL xs)) []
theorem dp_rows {K : PySem.W.Frag} {H : Hp} {ps : List Addr} {cs : List (List Int)} (h : Rw H ps cs) : DpAll K H (ps.map V.ref) (cs.map dT) := by
  induction h with
  | nil => exact .nil
  | @cons p _ xs _ h _ ih => exact .cons (.tup (SqT.of (show H p = some (.tup (xs.map V.int)) from h)) (dp_ints xs)) ih
section
variable {P : Program} {w : World} {K : PySem.W.Frag} {mg : Str → Option Value} {base : Heap}
theorem j22 : FnScope ["equation", "rest", "found", "factor"] ["equation"] (defScope (top 22)) := (⟨rfl, rfl, rfl, by decide +kernel, rfl, by decide +kernel, by decide +kernel⟩)
abbrev spFac : Sp := Prm (α := Addr × List Int) (fun a => [.ref a.1]) (fun a H => TI H a.1 a.2 ∧ okFac a.2 = true) (fun a H v H' => ∃ c, v = .ref c ∧ Chn H' c (facL a.2))
theorem c_fac (D : Df K mg "factors_of" (top 22)) (B : Bl mg) (CP : Cal P w K mg base 2 "primitive" ["terms"] spPrimH) (CN : Cal P w K mg base 1 "negative" ["terms"] spNegG) (CL : Cal P w K mg base 4 "least_factor" ["terms"] spLfA) (CV : Cal P w K mg base 1 "divided" ["one", "other"] spDvA) : Cal P w K mg base 5 "factors_of" ["equation"] spFac := by
  refine mkC D j22 (fun _ _ _ _ _ _ us hl => match us, hl with | [_], _ => rfl) (fun _ => rfl) (fun f cdv A outer s H a Q E hr h k => ?_)
  obtain ⟨p, xs⟩ := a
  obtain ⟨h, ok⟩ := h
  have h : TI H p xs := h
  have h0 : H p = some (.tup (xs.map V.int)) := h
  have k : ∀ v H', Same H H' → (∃ c, v = .ref c ∧ Chn H' c (facL xs)) → Q v H' := k
  have ok : okFac xs = true := ok
  unfold okFac at ok
  simp only [Bool.and_eq_true, decide_eq_true_eq] at ok
  obtain ⟨⟨⟨⟨l1, lg⟩, p1⟩, p2⟩, okc⟩ := ok
  have hu : (A.deeper (envOfC "factors_of" (defScope (top 22)) s.heap.objs.size f cdv)).units + 65 < cLine := by have := hr.un; omega
  refine ⟨_, pss_cons ((ps_set (i := 1) (FnScope.nd j22) rfl (Or.inl rfl) (pe_cl CP hr (pa_cons (pv 0) pa_nil))))
    (C8.pss_cut (ps_if ((pt_cmpR op_lt ((pe_ix ix_tup (pv 1) (pe_un un_neg pe_int) (fun _ _ => rfl))) pe_int (nomark _))) (pss_one ((ps_set (i := 1) (FnScope.nd j22) rfl (Or.inl rfl) (pe_cl CN hr (pa_cons (pv 1) pa_nil))))) pss_nil)
    (pss_cons ((ps_set (i := 2) (FnScope.nd j22) rfl (Or.inl rfl) (pe_lst pa_nil)))
    (pss_cons (ps_whI PassesOwn.never ((pt_cmpR op_gt ((pe_callB call_len_seq (by rfl) (Bl.len_ B) PySem.boot_len (pa_cons (pv 1) pa_nil))) pe_int (nomark _)))
      (pss_cons ((ps_set (i := 3) (FnScope.nd j22) rfl (Or.inl rfl) (pe_cl CL hr (pa_cons (pv 1) pa_nil))))
      (C8.pss_cut (ps_if (pt_cmpR (op_notInD hu) (pv 3) (pv 2) (by rfl)) (pss_one (ps_expr (pe_bm PySem.F.plainAttrs_list PySem.F.slot_list_append PySem.F.type_list_append mt_append (pv 2) (pa_cons (pv 3) pa_nil)))) pss_nil)
      (pss_one ((ps_set (i := 1) (FnScope.nd j22) rfl (Or.inl rfl) (pe_cl CV hr (pa_cons (pv 1) (pa_cons (pv 3) pa_nil)))))))))
    (pss_one (ps_ret (pv 2)))))), ?_⟩
  refine ⟨_, rfl, (p, xs), rfl, ⟨h, l1, lg⟩, ?_⟩
  rintro _ H1 s1 ⟨q, rfl, hq⟩
  have hq : TI H1 q (primL xs) := hq
  have hq0 : H1 q = some (.tup ((primL xs).map V.int)) := hq
  refine ⟨fun σ H' => Same H H' ∧ ∃ q2, σ = [some (.ref p), some (.ref q2), none, none] ∧ TI H' q2 (posL (primL xs)), ?_, ?_⟩
  · refine ⟨_, rfl, _, rfl, q, _, _, _, rfl, rfl, SqT.of hq0, at_lastD p1, _, _, rfl, rfl, _, rfl, ?_⟩
    by_cases hn : (primL xs).getLastD 0 < 0
    · rw [decide_eq_true hn]
      refine iteT ⟨_, rfl, (q, primL xs), rfl, ⟨hq, p2⟩, ?_⟩
      rintro _ H2 s2 ⟨q2, rfl, hq2⟩
      refine ⟨s1.trans s2, q2, rfl, ?_⟩
      unfold posL
      rw [if_pos hn]
      exact hq2
    · rw [decide_eq_false hn]
      refine iteF ⟨s1, q, rfl, ?_⟩
      unfold posL
      rw [if_neg hn]
      exact hq
  rintro σ H2 ⟨s2, q2, rfl, hq2⟩
  refine ⟨by decide, fun c hc => ?_⟩
  have c0 : H c = none := new_of s2 hc
  refine ⟨fun m σ H' => ∃ (rest : List Int) (fs : List (List Int)) (p' : Addr) (ps : List Addr) (z : Option V), σ = [some (.ref p), some (.ref p'), some (.ref c), z] ∧ Same H H' ∧ TI H' p' rest ∧ H' c = some (.lst (ps.map V.ref)) ∧ Rw H' ps fs ∧ okFc m rest fs = true ∧ facS m rest fs = facL xs, ⟨10, posL (primL xs), [], q2, [], none, rfl, Same.new s2 hc, TI.same (same_new hc) hq2, upd_same, .nil, okc, rfl⟩, ?_⟩
  rintro m σ H3 ⟨rest, fs, p', ps, z, rfl, s3, h3, e3, r3, ok3, ef3⟩
  have h30 : H3 p' = some (.tup (rest.map V.int)) := h3
  have lr' : (rest.map V.int).length = rest.length := List.length_map ..
  refine ⟨_, rfl, p', _, rfl, .inr (SqT.of h30), _, _, rfl, rfl, _, rfl, ?_⟩
  by_cases hle : rest.length ≤ 1
  · rw [decide_eq_false (show ¬ ((((rest.map V.int).length : Nat) : Int) > 1) by rw [lr']; omega)]
    have ee : facS m rest fs = fs := by
      cases m with
      | zero => rfl
      | succ m => exact if_pos hle
    rw [ee] at ef3
    refine iteF ⟨_, rfl, k _ _ s3 ⟨c, rfl, ps, e3, ?_⟩⟩
    rw [← ef3]
    exact r3
  · rw [decide_eq_true (show ((((rest.map V.int).length : Nat) : Int) > 1) by rw [lr']; omega)]
    cases m with
    | zero => exact absurd (of_decide_eq_true ok3) hle
    | succ m =>
      have ok4 := ok3
      unfold okFc at ok4
      rw [decide_eq_false hle, Bool.false_or] at ok4
      simp only [Bool.and_eq_true, decide_eq_true_eq] at ok4
      obtain ⟨⟨⟨⟨⟨⟨⟨g1, g2⟩, g3⟩, g4⟩, g5⟩, g6⟩, g7⟩, g8⟩ := ok4
      have ef4 : facS m ((divL (lfL rest) 20 rest []).getD []) (if inF fs (lfL rest) then fs else fs ++ [lfL rest]) = facL xs := by
        rw [← ef3]
        exact (if_neg hle).symm
      refine iteT ⟨_, rfl, (p', rest), rfl, ⟨h3, g2⟩, ?_⟩
      rintro _ H4 s4 ⟨f1, rfl, hf⟩
      have hf : TI H4 f1 (lfL rest) := hf
      have hf0 : H4 f1 = some (.tup ((lfL rest).map V.int)) := hf
      have e4 := s4 _ _ e3
      have r4 := Rw.same s4 r3
      refine ⟨fun σ H' => σ = [some (.ref p), some (.ref p'), some (.ref c), some (.ref f1)] ∧ Same H H' ∧ TI H' p' rest ∧ TI H' f1 (lfL rest) ∧ ∃ ps' : List Addr, H' c = some (.lst (ps'.map V.ref)) ∧ Rw H' ps' (if inF fs (lfL rest) then fs else fs ++ [lfL rest]), ?_, ?_⟩
      · refine ⟨_, rfl, _, rfl, dT (lfL rest), fs.map dT, .tup (SqT.of hf0) (dp_ints _), .lst (SqL.of e4) (dp_rows r4), g5, g6, _, rfl, ?_⟩
        show (if (!inF fs (lfL rest)) = true then _ else _)
        cases hin : inF fs (lfL rest) with
        | true =>
          refine iteF ⟨rfl, s3.trans s4, TI.same s4 h3, hf, ps, e4, ?_⟩
          rw [if_pos rfl]
          exact r4
        | false =>
          refine iteT ⟨_, rfl, .inl ⟨rfl, _, SqL.of e4⟩, _, rfl, c, _, _, rfl, rfl, e4, ?_, ?_⟩
          · rw [List.length_map, r4.len]
            exact Nat.lt_of_le_of_lt g7 (by decide)
          · have n1 : ∀ {x : Addr} {ys : List Int}, TI H4 x ys → TI (upd H4 c (.lst (ps.map V.ref ++ [V.ref f1]))) x ys := fun {x ys} t => by
              have t0 : H4 x = some (.tup (ys.map V.int)) := t
              have n : x ≠ c := fun e => by
                rw [e, e4] at t0
                cases t0
              exact (upd_ne n).trans t
            refine ⟨rfl, Same.put (s3.trans s4) c0, n1 (TI.same s4 h3), n1 hf, ps ++ [f1], ?_, ?_⟩
            · rw [upd_same, List.map_append]
              rfl
            · rw [if_neg (by decide)]
              exact Rw.snoc (Rw.put e4 r4) (n1 hf)
      · rintro σ H5 ⟨rfl, s5, h5, hf5, ps', e5, r5⟩
        refine ⟨_, rfl, _, rfl, (p', f1, rest, lfL rest), rfl, ⟨h5, hf5, g3⟩, ?_⟩
        rintro v H6 s6 hv
        have hv : oT H6 v (divL (lfL rest) 20 rest []) := hv
        cases hd : divL (lfL rest) 20 rest [] with
        | none =>
          rw [hd] at g4
          cases g4
        | some l =>
          rw [hd] at hv g8 ef4
          obtain ⟨q6, rfl, hq6⟩ := hv
          exact ⟨m, Nat.lt_succ_self m, l, _, q6, ps', _, rfl, s5.trans s6, hq6, s6 _ _ e5, Rw.same s6 r5, g8, ef4⟩
end
end Xq

/-! roots_within, rank_of_last, factor_within. -/
namespace Xq
open PySem PySem.Spec PyProof.Rows L2
/-- what roots_within tells -/
def rwL (xs : List Int) (a b c d : Int) : Int := if a > 0 ∧ valL xs a b = 0 then chgL (sturmL xs) a b - chgL (sturmL xs) c d + 1 else chgL (sturmL xs) a b - chgL (sturmL xs) c d
def okRw (xs : List Int) (a b c d : Int) : Bool := okS xs && okChB (sturmL xs) a b && okChB (sturmL xs) c d && okVB xs a b
/-- what rank_of_last tells -/
def rlL (xs : List Int) (c d : Int) : Int := upL (sturmL xs) c d - 1
def okRl (xs : List Int) (c d : Int) : Bool := okS xs && okUB (sturmL xs) && okChB (sturmL xs) c d
def fwT (a b c d : Int) (s : Option (List Int) × Int) (xs : List Int) : Option (List Int) × Int := if rwL xs a b c d > 0 then (some xs, s.2 + rwL xs a b c d) else s
def fwS (xs : List Int) (a b c d : Int) (i : Nat) : Option (List Int) × Int := ((facL xs).take i).foldl (fwT a b c d) (none, 0)
/-- what factor_within tells -/
def fwL (xs : List Int) (a b c d : Int) : Option (List Int) := if (fwS xs a b c d (facL xs).length).2 = 1 then (fwS xs a b c d (facL xs).length).1 else none
def okFw (xs : List Int) (a b c d : Int) : Bool := okFac xs && (facL xs).all fun ys => okRw ys a b c d
theorem oT.same {H H' : Hp} {v : V} {o : Option (List Int)} (s : Same H H') (h : oT H v o) : oT H' v o := by
  cases o with
  | none => exact h
  | some l =>
    obtain ⟨q, e, t⟩ := h
    exact ⟨q, e, TI.same s t⟩
section
variable {P : Program} {w : World} {K : PySem.W.Frag} {mg : Str → Option Value} {base : Heap}
theorem j45 : FnScope ["terms", "low", "high", "chain", "many"] ["terms", "low", "high"] (defScope (top 45)) := (⟨rfl, rfl, rfl, by decide +kernel, rfl, by decide +kernel, by decide +kernel⟩)
abbrev spRw : Sp := Prm (α := Addr × Addr × Addr × List Int × Int × Int × Int × Int) (fun ⟨p, l, h, xs, a, b, c, d⟩ => [.ref p, .ref l, .ref h]) (fun ⟨p, l, h, xs, a, b, c, d⟩ H => TI H p xs ∧ TI H l [a, b] ∧ TI H h [c, d] ∧ okRw xs a b c d = true) (fun ⟨p, l, h, xs, a, b, c, d⟩ H v H' => v = .int (rwL xs a b c d))
theorem c_rw (D : Df K mg "roots_within" (top 45)) (CS : Cal P w K mg base 4 "sturm_chain" ["terms"] spSturmG) (CC : Cal P w K mg base 2 "changes" ["chain", "top", "bottom"] spChgG) (CV : Cal P w K mg base 1 "value_at" ["terms", "top", "bottom"] spValG) : Cal P w K mg base 5 "roots_within" ["terms", "low", "high"] spRw := by
  refine mkC D j45 (fun _ _ _ _ _ _ us hl => match us, hl with | [_, _, _], _ => rfl) (fun _ => rfl) (fun f cdv A outer s H x Q E hr h k => ?_)
  obtain ⟨p, l, hh, xs, a, b, c, d⟩ := x
  obtain ⟨hp, hl, hhh, ok⟩ := h
  have hp : TI H p xs := hp
  have hl0 : H l = some (.tup [.int a, .int b]) := hl
  have hh0 : H hh = some (.tup [.int c, .int d]) := hhh
  have k : ∀ v H', Same H H' → v = .int (rwL xs a b c d) → Q v H' := k
  have ok : okRw xs a b c d = true := ok
  unfold okRw at ok
  simp only [Bool.and_eq_true] at ok
  obtain ⟨⟨⟨oS, o1⟩, o2⟩, o3⟩ := ok
  refine ⟨_, pss_cons ((ps_set (i := 3) (FnScope.nd j45) rfl (Or.inl rfl) (pe_cl CS hr (pa_cons (pv 0) pa_nil))))
    (pss_cons ((ps_set (i := 4) (FnScope.nd j45) rfl (Or.inl rfl) (pe_op op_sub (pe_cl CC hr (pa_cons (pv 3) (pa_cons ((pe_ix ix_tup (pv 1) pe_int (fun _ _ => rfl))) (pa_cons ((pe_ix ix_tup (pv 1) pe_int (fun _ _ => rfl))) pa_nil)))) (pe_cl CC hr (pa_cons (pv 3) (pa_cons ((pe_ix ix_tup (pv 2) pe_int (fun _ _ => rfl))) (pa_cons ((pe_ix ix_tup (pv 2) pe_int (fun _ _ => rfl))) pa_nil)))))))
    (pss_cons (ps_if (PW.pt (pw_and ((pt_cmpR op_gt ((pe_ix ix_tup (pv 1) pe_int (fun _ _ => rfl))) pe_int (nomark _))) (pw_and1 ((pt_cmpR op_eq (pe_cl CV hr (pa_cons (pv 0) (pa_cons ((pe_ix ix_tup (pv 1) pe_int (fun _ _ => rfl))) (pa_cons ((pe_ix ix_tup (pv 1) pe_int (fun _ _ => rfl))) pa_nil)))) pe_int (nomark _)))))) (pss_one (ps_aug (i := 4) j45.nd rfl (Or.inl rfl) pe_int ip_add)) pss_nil)
    (pss_one (ps_ret (pv 4))))), ?_⟩
  refine ⟨_, rfl, (p, xs), rfl, ⟨hp, oS⟩, ?_⟩
  rintro _ H1 s1 ⟨ch, rfl, hc⟩
  have hc : Chn H1 ch (sturmL xs) := hc
  refine ⟨_, rfl, _, rfl, l, _, _, _, rfl, rfl, SqT.of (s1 _ _ hl0), atI_nat (j := 0) rfl, _, rfl, l, _, _, _, rfl, rfl, SqT.of (s1 _ _ hl0), atI_nat (j := 1) rfl, ?_⟩
  refine ⟨(ch, sturmL xs, a, b), rfl, ⟨hc, okChB_ok o1⟩, ?_⟩
  rintro _ H2 s2 rfl
  have s12 := s1.trans s2
  refine ⟨_, rfl, _, rfl, hh, _, _, _, rfl, rfl, SqT.of (s12 _ _ hh0), atI_nat (j := 0) rfl, _, rfl, hh, _, _, _, rfl, rfl, SqT.of (s12 _ _ hh0), atI_nat (j := 1) rfl, ?_⟩
  refine ⟨(ch, sturmL xs, c, d), rfl, ⟨hc.same s2, okChB_ok o2⟩, ?_⟩
  rintro _ H3 s3 rfl
  have s13 := s12.trans s3
  refine ⟨_, _, rfl, rfl, ?_⟩
  refine ⟨_, rfl, l, _, _, _, rfl, rfl, SqT.of (s13 _ _ hl0), atI_nat (j := 0) rfl, _, _, rfl, rfl, _, rfl, ?_⟩
  by_cases ha : a > 0
  · rw [decide_eq_true ha]
    refine iteT ⟨_, rfl, _, rfl, l, _, _, _, rfl, rfl, SqT.of (s13 _ _ hl0), atI_nat (j := 0) rfl, _, rfl, l, _, _, _, rfl, rfl, SqT.of (s13 _ _ hl0), atI_nat (j := 1) rfl, ?_⟩
    refine ⟨(p, xs, a, b), rfl, ⟨TI.same s13 hp, okVB_ok o3⟩, ?_⟩
    rintro _ H4 s4 rfl
    refine ⟨rfl, _, rfl, ?_⟩
    show (if decide (V.int (valL xs a b) = V.int 0) = true then _ else _)
    by_cases hz : valL xs a b = 0
    · rw [decide_eq_true (show V.int (valL xs a b) = V.int 0 by rw [hz])]
      refine iteT ⟨_, rfl, _, _, rfl, rfl, _, rfl, k _ _ (s13.trans s4) ?_⟩
      unfold rwL
      rw [if_pos ⟨ha, hz⟩]
    · rw [decide_eq_false (show ¬ V.int (valL xs a b) = V.int 0 from fun q => hz (V.int.inj q))]
      refine iteF ⟨_, rfl, k _ _ (s13.trans s4) ?_⟩
      unfold rwL
      rw [if_neg (fun z => hz z.2)]
  · rw [decide_eq_false ha]
    refine iteF ⟨_, rfl, k _ _ s13 ?_⟩
    unfold rwL
    rw [if_neg (fun z => ha z.1)]
theorem j46 : FnScope ["terms", "high"] ["terms", "high"] (defScope (top 46)) := (⟨rfl, rfl, rfl, by decide +kernel, rfl, by decide +kernel, by decide +kernel⟩)
abbrev spRl : Sp := Prm (α := Addr × Addr × List Int × Int × Int) (fun ⟨p, h, xs, c, d⟩ => [.ref p, .ref h]) (fun ⟨p, h, xs, c, d⟩ H => TI H p xs ∧ TI H h [c, d] ∧ okRl xs c d = true) (fun ⟨p, h, xs, c, d⟩ H v H' => v = .int (rlL xs c d))
theorem c_rl (D : Df K mg "rank_of_last" (top 46)) (CS : Cal P w K mg base 4 "sturm_chain" ["terms"] spSturmG) (CU : Cal P w K mg base 3 "roots_up_to" ["chain", "top", "bottom"] spUpG) : Cal P w K mg base 5 "rank_of_last" ["terms", "high"] spRl := by
  refine mkC D j46 (fun _ _ _ _ _ _ us hl => match us, hl with | [_, _], _ => rfl) (fun _ => rfl) (fun f cdv A outer s H x Q E hr h k => ?_)
  obtain ⟨p, hh, xs, c, d⟩ := x
  obtain ⟨hp, hhh, ok⟩ := h
  have hp : TI H p xs := hp
  have hh0 : H hh = some (.tup [.int c, .int d]) := hhh
  have k : ∀ v H', Same H H' → v = .int (rlL xs c d) → Q v H' := k
  have ok : okRl xs c d = true := ok
  unfold okRl at ok
  simp only [Bool.and_eq_true] at ok
  obtain ⟨⟨oS, o1⟩, o2⟩ := ok
  refine ⟨_, pss_one (ps_ret (pe_op op_sub (pe_cl CU hr (pa_cons (pe_cl CS hr (pa_cons (pv 0) pa_nil)) (pa_cons ((pe_ix ix_tup (pv 1) pe_int (fun _ _ => rfl))) (pa_cons ((pe_ix ix_tup (pv 1) pe_int (fun _ _ => rfl))) pa_nil)))) pe_int)), ?_⟩
  refine ⟨_, rfl, (p, xs), rfl, ⟨hp, oS⟩, ?_⟩
  rintro _ H1 s1 ⟨ch, rfl, hc⟩
  have hc : Chn H1 ch (sturmL xs) := hc
  refine ⟨_, rfl, hh, _, _, _, rfl, rfl, SqT.of (s1 _ _ hh0), atI_nat (j := 0) rfl, _, rfl, hh, _, _, _, rfl, rfl, SqT.of (s1 _ _ hh0), atI_nat (j := 1) rfl, ?_⟩
  refine ⟨(ch, sturmL xs, c, d), rfl, ⟨hc, okUB_ok o1, okChB_ok o2⟩, ?_⟩
  rintro _ H2 s2 rfl
  exact ⟨_, _, rfl, rfl, k _ _ (s1.trans s2) rfl⟩
theorem j58 : FnScope ["equation", "low", "high", "found", "many", "terms", "here"] ["equation", "low", "high"] (defScope (top 58)) := (⟨rfl, rfl, rfl, by decide +kernel, rfl, by decide +kernel, by decide +kernel⟩)
abbrev spFw : Sp := Prm (α := Addr × Addr × Addr × List Int × Int × Int × Int × Int) (fun ⟨p, l, h, xs, a, b, c, d⟩ => [.ref p, .ref l, .ref h]) (fun ⟨p, l, h, xs, a, b, c, d⟩ H => TI H p xs ∧ TI H l [a, b] ∧ TI H h [c, d] ∧ okFw xs a b c d = true) (fun ⟨p, l, h, xs, a, b, c, d⟩ H v H' => oT H' v (fwL xs a b c d))
theorem c_fw (D : Df K mg "factor_within" (top 58)) (CF : Cal P w K mg base 5 "factors_of" ["equation"] spFac) (CR : Cal P w K mg base 5 "roots_within" ["terms", "low", "high"] spRw) : Cal P w K mg base 6 "factor_within" ["equation", "low", "high"] spFw := by
  refine mkC D j58 (fun _ _ _ _ _ _ us hl => match us, hl with | [_, _, _], _ => rfl) (fun _ => rfl) (fun f cdv A outer s H x Q E hr h k => ?_)
  obtain ⟨p, l, hh, xs, a, b, c, d⟩ := x
  obtain ⟨hp, hl, hhh, ok⟩ := h
  have hp : TI H p xs := hp
  have hl : TI H l [a, b] := hl
  have hhh : TI H hh [c, d] := hhh
  have k : ∀ v H', Same H H' → oT H' v (fwL xs a b c d) → Q v H' := k
  have ok : okFw xs a b c d = true := ok
  unfold okFw at ok
  obtain ⟨oF, oA⟩ := Bool.and_eq_true_iff.mp ok
  refine ⟨_, pss_cons (ps_asg (pe_tup (pa_cons pe_non (pa_cons pe_int pa_nil))) (pg_tup rfl (pgs_cons ((pg_name (i := 3) (FnScope.nd j58) rfl (Or.inl rfl))) (pgs_cons ((pg_name (i := 4) (FnScope.nd j58) rfl (Or.inl rfl))) pgs_nil))))
    (pss_cons (ps_for PassesOwn.never rfl (pi_list (pe_cl CF hr (pa_cons (pv 0) pa_nil))) ((pg_name (i := 5) (FnScope.nd j58) rfl (Or.inl rfl)))
      (pss_cons ((ps_set (i := 6) (FnScope.nd j58) rfl (Or.inl rfl) (pe_cl CR hr (pa_cons (pv 5) (pa_cons (pv 1) (pa_cons (pv 2) pa_nil))))))
      (pss_one (ps_if ((pt_cmpR op_gt (pv 6) pe_int (nomark _))) (pss_one (ps_par (i := 3) (j := 4) rfl j58.nd rfl rfl (by decide) rfl rfl (pa_cons (pv 5) (pa_cons (pe_op op_add (pv 4) (pv 6)) pa_nil)) rfl)) pss_nil))))
    (pss_one (ps_ret (pe_ifExp ((pt_cmpR op_eq (pv 4) pe_int (nomark _))) (pv 3) pe_non)))), ?_⟩
  refine ⟨by decide, fun z hz => ⟨z, _, rfl, SqT.of upd_same, rfl, _, _, rfl, _, _, rfl, rfl, ?_⟩⟩
  have s0 := same_new (o := .tup [.non, .int 0]) hz
  refine ⟨_, rfl, (p, xs), rfl, ⟨TI.same s0 hp, oF⟩, ?_⟩
  rintro _ H1 s1' ⟨fc, rfl, ps, e1, r1⟩
  have s1 := s0.trans s1'
  refine ⟨fc, rfl, ⟨_, SqL.of e1⟩, for_list (xs := ps.map V.ref) (fun i σ H' => Same H1 H' ∧ ∃ (v : V) (z5 z6 : Option V), σ = [some (.ref p), some (.ref l), some (.ref hh), some v, some (.int (fwS xs a b c d i).2), z5, z6] ∧ oT H' v (fwS xs a b c d i).1) ⟨Same.refl _, .non, none, none, rfl, rfl⟩ (fun i σ H' _ e => SqL.of (e.1 _ _ e1)) ?_ ?_⟩
  · rintro i x σ H2 hx ⟨s2, v, z5, z6, rfl, hv⟩
    rw [List.getElem?_map] at hx
    obtain ⟨t, ht, rfl⟩ := Option.map_eq_some_iff.mp hx
    obtain ⟨ys, hys, ty⟩ := r1.at ht
    have oy := List.all_eq_true.mp oA ys (List.mem_of_getElem? hys)
    have st : fwS xs a b c d (i + 1) = fwT a b c d (fwS xs a b c d i) ys := by
      unfold fwS
      rw [List.take_succ, hys, List.foldl_append]
      rfl
    have s02 := s1.trans s2
    refine ⟨_, rfl, _, rfl, _, rfl, (t, l, hh, ys, a, b, c, d), rfl, ⟨TI.same s2 ty, TI.same s02 hl, TI.same s02 hhh, oy⟩, ?_⟩
    rintro _ H3 s3 rfl
    refine ⟨_, rfl, _, _, rfl, rfl, _, rfl, ?_⟩
    by_cases hg : rwL ys a b c d > 0
    · rw [decide_eq_true hg]
      have e2 : fwS xs a b c d (i + 1) = (some ys, (fwS xs a b c d i).2 + rwL ys a b c d) := by
        rw [st]
        unfold fwT
        rw [if_pos hg]
      refine iteT ⟨_, rfl, _, rfl, _, rfl, _, _, rfl, rfl, _, _, rfl, s2.trans s3, .ref t, some (.ref t), some (.int (rwL ys a b c d)), ?_, ?_⟩
      · rw [e2]
        rfl
      · rw [e2]
        exact ⟨t, rfl, TI.same (s2.trans s3) ty⟩
    · rw [decide_eq_false hg]
      have e2 : fwS xs a b c d (i + 1) = fwS xs a b c d i := by
        rw [st]
        unfold fwT
        rw [if_neg hg]
      refine iteF ⟨s2.trans s3, v, some (.ref t), some (.int (rwL ys a b c d)), ?_, ?_⟩
      · rw [e2]
        rfl
      · rw [e2]
        exact hv.same s3
  · rintro σ H2 ⟨s2, v, z5, z6, rfl, hv⟩
    rw [List.length_map, r1.len] at hv ⊢
    refine ⟨_, rfl, rfl, _, rfl, ?_⟩
    by_cases h1 : (fwS xs a b c d (facL xs).length).2 = 1
    · rw [decide_eq_true (show V.int (fwS xs a b c d (facL xs).length).2 = V.int 1 by rw [h1])]
      refine iteT ⟨_, rfl, k _ _ (s1.trans s2) ?_⟩
      unfold fwL
      rw [if_pos h1]
      exact hv
    · rw [decide_eq_false (show ¬ V.int (fwS xs a b c d (facL xs).length).2 = V.int 1 from fun q => h1 (V.int.inj q))]
      refine iteF (k _ _ (s1.trans s2) ?_)
      unfold fwL
      rw [if_neg h1]
      rfl
end
end Xq

/-! The class Shape, for any shape. -/
namespace Xq
open PySem PySem.Spec PyProof.Rows L2
/-- o.f as a target -/
def gFld (K : PySem.W.Frag) (to : TE) (f : Str) : TG := fun v σ H Q => to σ H fun x H2 => ∃ a C dx fs, x = .ref a ∧ H2 a = some (.ins C dx fs) ∧ Cls K C ∧ NoAttr K C f ∧ fs.length < 1000 ∧ Q σ (upd H2 a (.ins C dx (putF f v fs)))
theorem pg_fld {X : Cx} {o : Expr} {f : Str} {pos : Pos} {to : TE} (ho : PE X o to) : PG X (.Attribute o f pos) (gFld X.K to f) := by
  refine ⟨fun pins s σ H v u Q I r h => ?_⟩
  refine PySem.W.kas_attr (thn (ho.run pins s σ H _ I h) fun ov s2 ⟨x, H2, I2, rx, a, C, dx, fs, ex, ea, c, n, l, q2⟩ => ?_)
  subst ex
  obtain rfl : ov = Value.ref a := rx
  exact setattr_ok I2 ea c n l r fun s3 I3 => ⟨σ, _, I3, q2⟩
/-- the class as it stands behind the top -/
structure ShC (K : PySem.W.Frag) (mg : Str → Option Value) (C : Addr) : Prop where
  cl : Cls K C
  n1 : NoAttr K C "_text"
  n2 : NoAttr K C "_rank"
  n3 : NoAttr K C "_equation"
  n4 : NoAttr K C "_near"
  n5 : NoAttr K C "_bits"
  mgC : mg "Shape" = some (.ref C)
  mkS : ∃ f fd, Mk K C f ∧ Fun K "__init__" "Shape.__init__" (inClass (top 52) 0) f fd
  txt : ∃ p f fd, PropOf K C "text" p f ∧ Fun K "text" "Shape.text" (inClass (top 52) 2) f fd
  eqn : ∃ p f fd, PropOf K C "equation" p f ∧ Fun K "equation" "Shape.equation" (inClass (top 52) 3) f fd
  deg : ∃ p f fd, PropOf K C "degree" p f ∧ Fun K "degree" "Shape.degree" (inClass (top 52) 4) f fd
  rnk : ∃ p f fd, PropOf K C "rank" p f ∧ Fun K "rank" "Shape.rank" (inClass (top 52) 5) f fd
  flo : ∃ f fd, Meth K C "floor_at" f ∧ Fun K "floor_at" "Shape.floor_at" (inClass (top 52) 6) f fd
  c1 : PySem.W.findIn K (.ref C) "__class__" = some (some (.builtin "object.__class__"))
  c2 : PySem.W.specialIn K (.builtin "object.__class__") "__get__" = some (some (.builtin "getset_descriptor.__get__"))
  c3 : PySem.W.takesIn K (.builtin "object.__class__") = some true
  c4 : PySem.W.mroIn K C (.type "object") = some true
  kit : PySem.W.kitOne K (.ref C) (.ref C) = some true
def fsG (t : Str) (q : Addr) (r : Int) (xs : List Int) : List (Str × V) := [("_text", .str t), ("_rank", .int r), ("_equation", .ref q), ("_near", .int (strL xs r).1), ("_bits", .int ((strL xs r).2 : Int))]
/-- a shape at a -/
def ShpG (C : Addr) (H : Hp) (a : Addr) (t : Str) (r : Int) (xs : List Int) : Prop := ∃ dx q, H a = some (.ins C dx (fsG t q r xs)) ∧ TI H q xs
theorem ShpG.same {C : Addr} {H H' : Hp} {a : Addr} {t : Str} {r : Int} {xs : List Int} (s : Same H H') (h : ShpG C H a t r xs) : ShpG C H' a t r xs := by
  obtain ⟨dx, q, h1, h2⟩ := h
  exact ⟨dx, q, s _ _ h1, TI.same s h2⟩
section
variable {P : Program} {w : World} {K : PySem.W.Frag} {mg : Str → Option Value} {base : Heap} {C : Addr}
theorem sI : FnScope ["self", "text", "told"] ["self", "text"] (defScope (inClass (top 52) 0)) := (⟨rfl, rfl, rfl, by decide +kernel, rfl, by decide +kernel, by decide +kernel⟩)
def spInitG (C : Addr) : Sp := fun vs H Q _ => ∃ (H0 : Hp) (a dx : Addr) (t : Str) (r : Int) (xs : List Int), vs = [.ref a, .str t] ∧ Same H0 H ∧ H0 a = none ∧ H a = some (.ins C dx []) ∧ okT t r xs = true ∧ okStr xs r = true ∧ ∀ H', Same H0 H' → ShpG C H' a t r xs → Q .non H'
theorem ok_initG {f : Addr} {fd : FuncData} (F : Fun K "__init__" "Shape.__init__" (inClass (top 52) 0) f fd) (S : ShC K mg C) (CT : Cal P w K mg base 6 "told_by" ["text"] spToldG) (CS : Cal P w K mg base 6 "stretch_of" ["equation", "rank"] spStrG) :
    FnOk P w K mg base CX0 7 f fd ["self", "text"] (spInitG C) := by
  refine F.ok sI (fun vs H Q E h => ?_) (fun cdv A outer s H vs Q E hr h => ?_)
  · obtain ⟨H0, a, dx, t, r, xs, rfl, _⟩ := h
    rfl
  · obtain ⟨H0, a, dx, t, rk, xs, rfl, s0, a0, ha, oT', oS, k⟩ := h
    refine ⟨_, pss_cons ((ps_set (i := 2) (FnScope.nd sI) rfl (Or.inl rfl) (pe_cl CT hr (pa_cons (pv 1) pa_nil))))
      (pss_cons (ps_if (pt_cmpR op_isN (pv 2) pe_non (nomark _)) pss_nv pss_nil)
      (pss_cons (ps_fld (pv 0) (pv 1) rfl)
      (pss_cons (ps_asg (pv 2) (pg_tup rfl (pgs_cons (pg_fld (pv 0)) (pgs_cons (pg_fld (pv 0)) pgs_nil))))
      (pss_one (ps_asg (pe_cl CS hr (pa_cons (pe_fld (pv 0) rfl) (pa_cons (pe_fld (pv 0) rfl) pa_nil))) (pg_tup rfl (pgs_cons (pg_fld (pv 0)) (pgs_cons (pg_fld (pv 0)) pgs_nil)))))))), ?_⟩
    refine ⟨_, rfl, (t, rk, xs), rfl, oT', ?_⟩
    rintro _ H1 s1 ⟨r, q, rfl, hr1, hq1⟩
    have hr1 : H1 r = some (.tup [.int rk, .ref q]) := hr1
    have hq1 : TI H1 q xs := hq1
    have a1 := s1 _ _ ha
    have nr : r ≠ a := fun e => by rw [e, a1] at hr1; cases hr1
    have nq : q ≠ a := fun e => by
      have z : H1 q = some (.tup (xs.map V.int)) := hq1
      rw [e, a1] at z
      cases z
    refine ⟨_, rfl, rfl, _, rfl, iteF ?_⟩
    refine ⟨_, rfl, _, rfl, a, C, dx, _, rfl, a1, S.cl, S.n1, by decide, ?_⟩
    have t2 := Same.put (o := .ins C dx [("_text", .str t)]) (s0.trans s1) a0
    refine ⟨_, rfl, r, _, rfl, SqT.of ((upd_ne nr).trans hr1), rfl, ?_⟩
    refine ⟨_, _, rfl, _, rfl, a, C, dx, _, rfl, upd_same, S.cl, S.n2, (by show 1 < 1000; decide), ?_⟩
    refine ⟨_, _, rfl, _, rfl, a, C, dx, _, rfl, upd_same, S.cl, S.n3, (by show 2 < 1000; decide), rfl, ?_⟩
    have t4 := Same.put (o := .ins C dx [("_text", .str t), ("_rank", .int rk), ("_equation", .ref q)]) (Same.put (o := .ins C dx [("_text", .str t), ("_rank", .int rk)]) t2 a0) a0
    have a4 : ∀ HH : Hp, (upd HH a (.ins C dx [("_text", .str t), ("_rank", .int rk), ("_equation", .ref q)])) a = some (.ins C dx [("_text", .str t), ("_rank", .int rk), ("_equation", .ref q)]) := fun _ => upd_same
    refine ⟨_, rfl, a, C, dx, _, _, rfl, a4 _, S.cl, S.n3, rfl, ?_⟩
    refine ⟨_, rfl, a, C, dx, _, _, rfl, a4 _, S.cl, S.n2, rfl, ?_⟩
    refine ⟨(q, xs, rk), rfl, ⟨?_, oS⟩, ?_⟩
    · show upd _ a _ q = _
      rw [upd_ne nq, upd_ne nq, upd_ne nq]
      exact hq1
    rintro _ H5 s5 ⟨r2, rfl, hr2⟩
    have hr2 : H5 r2 = some (.tup [.int (strL xs rk).1, .int ((strL xs rk).2 : Int)]) := hr2
    have a5 := s5 _ _ (a4 _)
    have nr2 : r2 ≠ a := fun e => by rw [e, a5] at hr2; cases hr2
    refine ⟨r2, _, rfl, SqT.of hr2, rfl, ?_⟩
    refine ⟨_, _, rfl, _, rfl, a, C, dx, _, rfl, a5, S.cl, S.n4, (by show 3 < 1000; decide), ?_⟩
    refine ⟨_, _, rfl, _, rfl, a, C, dx, _, rfl, upd_same, S.cl, S.n5, (by show 4 < 1000; decide), rfl, ?_⟩
    refine k _ (Same.put (Same.put (t4.trans s5) a0) a0) ⟨dx, q, upd_same, ?_⟩
    show upd _ a _ q = _
    rw [upd_ne nq, upd_ne nq]
    refine s5 _ _ ?_
    rw [upd_ne nq, upd_ne nq, upd_ne nq]
    exact hq1
/-- the getters -/
def spGet (C : Addr) (v : Str → Int → List Int → Addr → V) : Sp := fun vs H Q _ => ∃ (a : Addr) (t : Str) (r : Int) (xs : List Int), vs = [.ref a] ∧ ShpG C H a t r xs ∧ ∀ q, TI H q xs → Q (v t r xs q) H
abbrev spTxtG (C : Addr) : Sp := spGet C fun t _ _ _ => .str t
abbrev spEqnG (C : Addr) : Sp := spGet C fun _ _ _ q => .ref q
abbrev spDegG (C : Addr) : Sp := spGet C fun _ _ xs _ => .int ((xs.length : Int) - 1)
abbrev spRnkG (C : Addr) : Sp := spGet C fun _ r _ _ => .int r
theorem sTx : FnScope ["self"] ["self"] (defScope (inClass (top 52) 2)) := (⟨rfl, rfl, rfl, by decide +kernel, rfl, by decide +kernel, by decide +kernel⟩)
theorem sE : FnScope ["self"] ["self"] (defScope (inClass (top 52) 3)) := (⟨rfl, rfl, rfl, by decide +kernel, rfl, by decide +kernel, by decide +kernel⟩)
theorem sD : FnScope ["self"] ["self"] (defScope (inClass (top 52) 4)) := (⟨rfl, rfl, rfl, by decide +kernel, rfl, by decide +kernel, by decide +kernel⟩)
theorem sRk : FnScope ["self"] ["self"] (defScope (inClass (top 52) 5)) := (⟨rfl, rfl, rfl, by decide +kernel, rfl, by decide +kernel, by decide +kernel⟩)
theorem ok_txtG {f : Addr} {fd : FuncData} (F : Fun K "text" "Shape.text" (inClass (top 52) 2) f fd) (S : ShC K mg C) : FnOk P w K mg base CX0 1 f fd ["self"] (spTxtG C) := by
  refine F.ok sTx (fun vs H Q E h => ?_) (fun cdv A outer s H vs Q E hr h => ?_)
  · obtain ⟨a, t, r, xs, rfl, _⟩ := h
    rfl
  · obtain ⟨a, t, r, xs, rfl, ⟨dx, q, h1, h2⟩, k⟩ := h
    exact ⟨_, pss_one (ps_ret (pe_fld (pv 0) rfl)), _, rfl, a, C, dx, _, _, rfl, h1, S.cl, S.n1, rfl, k q h2⟩
theorem ok_eqnG {f : Addr} {fd : FuncData} (F : Fun K "equation" "Shape.equation" (inClass (top 52) 3) f fd) (S : ShC K mg C) : FnOk P w K mg base CX0 1 f fd ["self"] (spEqnG C) := by
  refine F.ok sE (fun vs H Q E h => ?_) (fun cdv A outer s H vs Q E hr h => ?_)
  · obtain ⟨a, t, r, xs, rfl, _⟩ := h
    rfl
  · obtain ⟨a, t, r, xs, rfl, ⟨dx, q, h1, h2⟩, k⟩ := h
    exact ⟨_, pss_one (ps_ret (pe_fld (pv 0) rfl)), _, rfl, a, C, dx, _, _, rfl, h1, S.cl, S.n3, rfl, k q h2⟩
theorem ok_rnkG {f : Addr} {fd : FuncData} (F : Fun K "rank" "Shape.rank" (inClass (top 52) 5) f fd) (S : ShC K mg C) : FnOk P w K mg base CX0 1 f fd ["self"] (spRnkG C) := by
  refine F.ok sRk (fun vs H Q E h => ?_) (fun cdv A outer s H vs Q E hr h => ?_)
  · obtain ⟨a, t, r, xs, rfl, _⟩ := h
    rfl
  · obtain ⟨a, t, r, xs, rfl, ⟨dx, q, h1, h2⟩, k⟩ := h
    exact ⟨_, pss_one (ps_ret (pe_fld (pv 0) rfl)), _, rfl, a, C, dx, _, _, rfl, h1, S.cl, S.n2, rfl, k q h2⟩
theorem ok_degG {f : Addr} {fd : FuncData} (F : Fun K "degree" "Shape.degree" (inClass (top 52) 4) f fd) (S : ShC K mg C) (B : Bl mg) : FnOk P w K mg base CX0 1 f fd ["self"] (spDegG C) := by
  refine F.ok sD (fun vs H Q E h => ?_) (fun cdv A outer s H vs Q E hr h => ?_)
  · obtain ⟨a, t, r, xs, rfl, _⟩ := h
    rfl
  · obtain ⟨a, t, r, xs, rfl, ⟨dx, q, h1, h2⟩, k⟩ := h
    have h20 : H q = some (.tup (xs.map V.int)) := h2
    have k2 := k q h2
    have lx : (xs.map V.int).length = xs.length := List.length_map ..
    refine ⟨_, pss_one (ps_ret (pe_op op_sub ((pe_callB call_len_seq (by rfl) (Bl.len_ B) PySem.boot_len (pa_cons (pe_fld (pv 0) rfl) pa_nil))) pe_int)), _, rfl, a, C, dx, _, _, rfl, h1, S.cl, S.n3, rfl, q, _, rfl, .inr (SqT.of h20), _, _, rfl, rfl, ?_⟩
    rw [lx]
    exact k2
theorem sFl : FnScope ["self", "bits"] ["self", "bits"] (defScope (inClass (top 52) 6)) := (⟨rfl, rfl, rfl, by decide +kernel, rfl, by decide +kernel, by decide +kernel⟩)
def spFloG (C : Addr) : Sp := fun vs H Q _ => ∃ (a : Addr) (t : Str) (r : Int) (xs : List Int), vs = [.ref a, .int 64] ∧ ShpG C H a t r xs ∧ (strL xs r).2 = 64 ∧ Q (.int (strL xs r).1) H
theorem ok_floG {f : Addr} {fd : FuncData} (F : Fun K "floor_at" "Shape.floor_at" (inClass (top 52) 6) f fd) (S : ShC K mg C) : FnOk P w K mg base CX0 1 f fd ["self", "bits"] (spFloG C) := by
  refine F.ok sFl (fun vs H Q E h => ?_) (fun cdv A outer s H vs Q E hr h => ?_)
  · obtain ⟨a, t, r, xs, rfl, _⟩ := h
    rfl
  · obtain ⟨a, t, r, xs, rfl, ⟨dx, q, h1, h2⟩, h3, k⟩ := h
    refine ⟨_, pss_cons (ps_if ((pt_cmpR op_eq (pv 1) (pe_fld (pv 0) rfl) (nomark _))) (pss_one (ps_ret (pe_fld (pv 0) rfl))) pss_nil) pss_nv, ?_⟩
    refine ⟨_, rfl, _, rfl, a, C, dx, _, _, rfl, h1, S.cl, S.n5, rfl, rfl, _, rfl, ?_⟩
    rw [decide_eq_true (show V.int 64 = V.int ((strL xs r).2 : Int) by rw [h3]; rfl)]
    exact iteT ⟨_, rfl, a, C, dx, _, _, rfl, h1, S.cl, S.n4, rfl, k⟩
/-! ### as they are used -/
section
variable {X : Cx} {e : Expr} {te : TE} {pos : Pos} {j : Nat}
theorem pe_txtG (S : ShC X.K X.mg C) (he : PE X e te) (hr : Room (j + 2) X.A) (hab : attributeBase e "text" X.env (eval e X.env) = eval e X.env := by rfl) :
    PE X (.Attribute e "text" pos) (tProp C (spTxtG C) [] E0 te) := by
  obtain ⟨p, f, fd, hp, F⟩ := S.txt
  exact pe_prop (pos := pos) he S.cl hp (ok_txtG (P := X.prog) (w := X.w) (base := X.base) F S) (hr.mono (by omega)) (F.binds (fun _ _ _ _ _ _ us hl => match us, hl with | [_], _ => rfl)) .nil pass0 hab
theorem pe_eqnG (S : ShC X.K X.mg C) (he : PE X e te) (hr : Room (j + 2) X.A) (hab : attributeBase e "equation" X.env (eval e X.env) = eval e X.env := by rfl) :
    PE X (.Attribute e "equation" pos) (tProp C (spEqnG C) [] E0 te) := by
  obtain ⟨p, f, fd, hp, F⟩ := S.eqn
  exact pe_prop (pos := pos) he S.cl hp (ok_eqnG (P := X.prog) (w := X.w) (base := X.base) F S) (hr.mono (by omega)) (F.binds (fun _ _ _ _ _ _ us hl => match us, hl with | [_], _ => rfl)) .nil pass0 hab
theorem pe_rnkG (S : ShC X.K X.mg C) (he : PE X e te) (hr : Room (j + 2) X.A) (hab : attributeBase e "rank" X.env (eval e X.env) = eval e X.env := by rfl) :
    PE X (.Attribute e "rank" pos) (tProp C (spRnkG C) [] E0 te) := by
  obtain ⟨p, f, fd, hp, F⟩ := S.rnk
  exact pe_prop (pos := pos) he S.cl hp (ok_rnkG (P := X.prog) (w := X.w) (base := X.base) F S) (hr.mono (by omega)) (F.binds (fun _ _ _ _ _ _ us hl => match us, hl with | [_], _ => rfl)) .nil pass0 hab
theorem pe_degG (S : ShC X.K X.mg C) (B : Bl X.mg) (he : PE X e te) (hr : Room (j + 2) X.A) (hab : attributeBase e "degree" X.env (eval e X.env) = eval e X.env := by rfl) :
    PE X (.Attribute e "degree" pos) (tProp C (spDegG C) [] E0 te) := by
  obtain ⟨p, f, fd, hp, F⟩ := S.deg
  exact pe_prop (pos := pos) he S.cl hp (ok_degG (P := X.prog) (w := X.w) (base := X.base) F S B) (hr.mono (by omega)) (F.binds (fun _ _ _ _ _ _ us hl => match us, hl with | [_], _ => rfl)) .nil pass0 hab
theorem pe_floG {apos : Pos} {e2 : Expr} {t : TE} {pl : Sem Bool} (S : ShC X.K X.mg C) (he : PE X e te) (h2 : PE X e2 t) (hr : Room (j + 1) X.A)
    (hst : starEach (e2 :: []) X.env = (false, eval e2 X.env) :: starEach [] X.env := by rfl)
    (ht : eval (.Call (.Attribute e "floor_at" apos) (e2 :: []) [] pos) X.env = (do
      let ov ← eval e X.env
      standAt apos.atName
      let (f, first) ← holding [ov] (getMethod ov "floor_at" pl)
      callWith pos f first (backTo pos (starEach (e2 :: []) X.env)) (backToKw pos (keywordEach [] X.env))) := by rfl) :
    PE X (.Call (.Attribute e "floor_at" apos) [e2] [] pos) (tMeth C "floor_at" (spFloG C) [] E0 te (tCons t tNil)) := by
  obtain ⟨f, fd, hm, F⟩ := S.flo
  exact pe_meth (pl := pl) he S.cl hm (ok_floG (P := X.prog) (w := X.w) (base := X.base) F S) (hr.mono (by omega)) (F.binds (fun _ _ _ _ _ _ us hl => match us, hl with | [_, _], _ => rfl)) .nil pass0 (pa_cons h2 pa_nil hst) hst rfl ht
theorem pe_mkG {p : Pos} {e2 : Expr} {t : TE} (S : ShC X.K X.mg C) (CT : Cal X.prog X.w X.K X.mg X.base 6 "told_by" ["text"] spToldG) (CS : Cal X.prog X.w X.K X.mg X.base 6 "stretch_of" ["equation", "rank"] spStrG) (h2 : PE X e2 t) (hr : Room (j + 8) X.A) (hg : Gl X "Shape")
    (hst : starEach (e2 :: []) X.env = (false, eval e2 X.env) :: starEach [] X.env := by rfl) :
    PE X (.Call (.Name "Shape" p) [e2] [] pos) (tMake C (spInitG C) [] E0 (tCons t tNil)) := by
  obtain ⟨f, fd, hm, F⟩ := S.mkS
  exact pe_make hm (ok_initG (P := X.prog) (w := X.w) (base := X.base) F S CT CS) (hr.mono (by omega)) hg S.mgC (F.binds (fun _ _ _ _ _ _ us hl => match us, hl with | [_, _], _ => rfl)) .nil pass0 (pa_cons h2 pa_nil hst) (by decide) hst rfl
end
theorem j55 : FnScope ["value"] ["value"] (defScope (top 55)) := (⟨rfl, rfl, rfl, by decide +kernel, rfl, by decide +kernel, by decide +kernel⟩)
abbrev spChkG (C : Addr) : Sp := Prm (α := Addr × Str × Int × List Int) (fun a => [.ref a.1]) (fun a H => ShpG C H a.1 a.2.1 a.2.2.1 a.2.2.2) (fun a H v H' => H' = H)
theorem c_chkG (D : Df K mg "check_shape" (top 55)) (B : Bl mg) (S : ShC K mg C) : Cal P w K mg base 1 "check_shape" ["value"] (spChkG C) := by
  refine mkC D j55 (fun _ _ _ _ _ _ us hl => match us, hl with | [_], _ => rfl) (fun _ => rfl) (fun f cdv A outer s H a Q E hr h k => ?_)
  obtain ⟨a, t, r, xs⟩ := a
  obtain ⟨dx, q, h1, h2⟩ := h
  refine ⟨_, pss_one (ps_if (pt_not (pt_val (pe_callB call_isi (by rfl) B.isinstance_ (by decide +kernel) (pa_cons (pv 0) (pa_cons (pe_glob (v := .ref C) (by rfl) S.mgC rfl) pa_nil))))) pss_nv pss_nil), ?_⟩
  refine ⟨_, rfl, _, _, _, _, true, rfl, .own _, .base (.ins h1 S.cl S.c1 S.c2 S.c3 S.c4), S.kit, _, rfl, iteF ?_⟩
  exact k _ _ (Same.refl _) rfl
end
end Xq

/-! A staticmethod called through its class; == by an own __eq__, with any answer. -/
namespace Xq
open PySem PySem.Spec PyProof.Rows L2 ClX
/-- C.m is a staticmethod: its record at p, its def at g -/
structure CSm (K : PySem.W.Frag) (C : Addr) (mc : Value) (m : Str) (p g : Addr) : Prop where
  at_ : PySem.W.findCls K (.ref C) mc m = some (.get (.builtin "staticmethod.__get__") (.ref p) .none (.ref C))
  rc : ∃ rest, PySem.W.recIn K p "staticmethod" = some (.ref g :: rest)
def tSMeth (C : Addr) (sp : Sp) (E : XK) (ta : TE) (t : TA) : TE := fun σ H Q => ta σ H fun x H1 => x = .ref C ∧ t σ H1 fun vs H2 => sp (vs ++ []) H2 Q E
section
variable {X : Cx} {pins : List (Addr × Obj)} {σ : L2.St} {H : Hp} {s : Shared} {a C p g : Addr} {mc : Value} {f m : Str} {v : V} {u : Value} {A : Around} {E : Value → Shared → Prop}
theorem getcsm_ok {b : Bool} {Q : Value → Shared → Prop} (I : Inv X pins σ H s) (r : CRead X.K C mc) (k : CSm X.K C mc m p g)
    (h : ∀ s', Inv X pins σ H s' → Q (.ref g) s') : wpAny (model X.prog X.w) A (getAttr (.ref C) m b) Q E s := by
  obtain ⟨rest, hp⟩ := k.rc
  refine PySem.W.cls_bind I.kIn r.rd k.at_ ?_
  refine wpAny_call (PySem.W.sm_get (s := { s with toks := s.toks + 1 }) I.kIn hp (PySem.W.handed_on rfl ?_))
  exact h _ (I.tok _)
theorem getmethsm_ok {pl : Sem Bool} {Q : Value × List Value → Shared → Prop} (I : Inv X pins σ H s) (r : CRead X.K C mc) (k : CSm X.K C mc m p g)
    (h : ∀ s', Inv X pins σ H s' → Q (.ref g, []) s') : wpAny (model X.prog X.w) A (getMethod (.ref C) m pl) Q E s :=
  PySem.W.method_cls I.kIn r.ga (getcsm_ok I r k h)
end
section
variable {X : Cx} {CX : CXT} {k : Nat} {C p g : Addr} {mc : Value} {sp : Sp} {E : XK} {o e : Expr} {es : List Expr} {f m : Str} {pos apos : Pos} {ta : TE} {t : TA} {pl : Sem Bool} {fd : FuncData} {ps : List Str}
theorem pe_smeth (he : PE X o ta) (r : CRead X.K C mc) (c : CSm X.K C mc m p g) (F : FnOk X.prog X.w X.K X.mg X.base CX k g fd ps sp) (hr : Room k X.A) (hk : PySem.W.keepIn X.K (.ref g) = true) (hb : Binds X.K fd ps []) (hx : Passes CX X E) (ha : PA X (e :: es) t)
    (hst : starEach (e :: es) X.env = (false, eval e X.env) :: starEach es X.env := by rfl) (hpl : (backTo pos (starEach es X.env)).any (·.1) = false := by rfl)
    (ht : eval (.Call (.Attribute o m apos) (e :: es) [] pos) X.env = (do
      let ov ← eval o X.env
      standAt apos.atName
      let (f, first) ← holding [ov] (getMethod ov m pl)
      callWith pos f first (backTo pos (starEach (e :: es) X.env)) (backToKw pos (keywordEach [] X.env))) := by rfl) :
    PE X (.Call (.Attribute o m apos) (e :: es) [] pos) (tSMeth C sp E ta t) := by
  refine ⟨fun pins s σ H Q I h => ?_⟩
  refine PySem.W.methodCall_KW (pl := pl) (thn (he.run pins s σ H _ I h) fun u s1 ⟨x, H1, I1, rx, ex, q⟩ => ?_) ht
  subst ex
  obtain rfl : u = Value.ref C := rx
  refine getmethsm_ok I1 r c fun s2 I2 => ?_
  refine PySem.W.callWith_K (h₀ := X.base) I.ok.mod.kin hk (thn (ha.run pos pins s2 σ H1 _ I2 q) fun us s3 ⟨vs, H2, I3, rv, q2⟩ => ⟨I3.kIn, ?_⟩) hst hpl
  exact run_fn F hr hb .nil hx I3 rv q2
/-- x == y, both of a class with an __eq__ of its own that tells a bool -/
def rEqI (C : Addr) (sp : Sp) (E : XK) : R2 := fun x y H Q => ∃ a b dx dy fs gs, x = .ref a ∧ y = .ref b ∧ H a = some (.ins C dx fs) ∧ H b = some (.ins C dy gs) ∧ sp [.ref a, .ref b] H (fun v H' => ∃ z : Bool, v = .bl z ∧ Q (.bl z) H') E
theorem op_eqI {n : Nat} (F : FnOk X.prog X.w X.K X.mg X.base CX n g fd ps sp) (hr : Room n X.A)
    (hs : PySem.W.findIn X.K (.ref C) "__eq__" = some (some (.ref g))) (hf : PySem.W.isFn X.K (.ref g) = true) (hb : Binds X.K fd ps []) (hx : Passes CX X E) : OpR X (compareOp .Eq) (rEqI C sp E) := by
  intro pins s σ H x y v u Q I rx ry d
  obtain ⟨a, b, dx, dy, fs, gs, rfl, rfl, ha, hb', hsp⟩ := d
  cases rx
  cases ry
  obtain ⟨mA, J, _⟩ := ins_get I.hok ha
  obtain ⟨mB, J', _⟩ := ins_get I.hok hb'
  obtain ⟨od, J, _⟩ := J.look
  obtain ⟨od', J', _⟩ := J'.look
  obtain ⟨m, hF⟩ := I.fr
  show wpAny (model X.prog X.w) X.A (richCompare .Eq (.ref a) (.ref b)) (EP X pins σ Q) X.xe s
  refine PySem.W.cmp_K (op := .Eq) (tb := .ref C) hr.units0 hF I.ok.mod.kin J J'.type (by simp [PySem.W.notFirst]) hs hf ?_
  have hl := F.len _ _ _ _ hsp
  have r2 : Vals [V.ref a, V.ref b] [Value.ref a, Value.ref b] := .cons rfl (.cons rfl .nil)
  refine wpAny_call (codeAny_mono (F.run X.A X.stack s H ⟨[.ref a, .ref b], []⟩ [.ref a, .ref b] [.ref a, .ref b] _ E hr I.env0 (by
    have := hb s [.ref a, .ref b] I.kIn (by simpa using hl)
    simpa using this) r2 hsp) fun r s' hq => ?_)
  cases r with
  | error e => exact hx pins σ H s e s' I hq
  | ok fl =>
    cases fl with
    | ret w =>
      obtain ⟨z, H', I', rz, z2, ez, hq2⟩ := I.after hq
      subst ez
      cases rz
      exact ⟨.bl z2, H', I', rfl, hq2⟩
    | next => exact False.elim hq
    | brk => exact False.elim hq
    | cont => exact False.elim hq
end
end Xq

/-! text_of, turned_text, ==, less, alike. -/
namespace Xq
open PySem PySem.Spec PyProof.Rows L2
def wordsL (xs : List Int) : Str := Txt.join (Str.ofString " ") (xs.map W)
/-- what text_of tells -/
def txL (r : Int) (xs : List Int) : Str := ((((Str.empty ++ Str.ofString "root ") ++ W r) ++ Str.ofString " of ") ++ wordsL xs)
def okTx (r : Int) (xs : List Int) : Bool := decide (r.natAbs < 2 ^ 1000) && (xs.all fun x => decide (x.natAbs < 2 ^ 1000)) && decide (xs.length ≤ 100) && decide (((xs.map W).map (·.length)).sum + (xs.map W).length * (Str.ofString " ").length ≤ 16777216) &&
  decide ((Str.empty ++ Str.ofString "root ").length ≤ 600) && decide (((Str.empty ++ Str.ofString "root ") ++ W r).length ≤ 600) && decide ((((Str.empty ++ Str.ofString "root ") ++ W r) ++ Str.ofString " of ").length ≤ 600) && decide ((txL r xs).length ≤ 600) && decide ((wordsL xs).length ≤ 600)
def ttR (xs : List Int) (r : Int) : Int := upL (sturmL xs) 0 1 + allL (sturmL xs) - 1 - r
def ttE (xs : List Int) : List Int := if xs.reverse.getLastD 0 > 0 then xs.reverse else xs.reverse.map fun x => -x
def okTT (xs : List Int) (r : Int) : Bool := decide (1 ≤ xs.length) && decide (xs.length ≤ 1000) && okS xs && okUB (sturmL xs) && okChB (sturmL xs) 0 1 && okChB (sturmL xs) (reachL ((sturmL xs).headD [])) 1 && okTx (ttR xs r) (ttE xs)
section
variable {P : Program} {w : World} {K : PySem.W.Frag} {mg : Str → Option Value} {base : Heap} {C : Addr}
theorem j61 : FnScope ["rank", "equation", "words", "term"] ["rank", "equation"] (defScope (top 61)) := (⟨rfl, rfl, rfl, by decide +kernel, rfl, by decide +kernel, by decide +kernel⟩)
abbrev spTx : Sp := Prm (α := Addr × Int × List Int) (fun a => [.int a.2.1, .ref a.1]) (fun a H => TI H a.1 a.2.2 ∧ okTx a.2.1 a.2.2 = true) (fun a H v H' => v = .str (txL a.2.1 a.2.2))
theorem c_tx (D : Df K mg "text_of" (top 61)) (B : Bl mg) : Cal P w K mg base 1 "text_of" ["rank", "equation"] spTx := by
  refine mkC D j61 (fun _ _ _ _ _ _ us hl => match us, hl with | [_, _], _ => rfl) (fun _ => rfl) (fun f cdv A outer s H a Q E hr h k => ?_)
  obtain ⟨p, r, xs⟩ := a
  obtain ⟨h, ok⟩ := h
  have h0 : H p = some (.tup (xs.map V.int)) := h
  have k : ∀ v H', Same H H' → v = .str (txL r xs) → Q v H' := k
  have ok : okTx r xs = true := ok
  unfold okTx at ok
  simp only [Bool.and_eq_true, decide_eq_true_eq] at ok
  obtain ⟨⟨⟨⟨⟨⟨⟨⟨o1, o2⟩, o3⟩, o4⟩, o5⟩, o6⟩, o7⟩, o8⟩, o9⟩ := ok
  have l2 : ∀ {i : Int}, i.natAbs < 2 ^ 1000 → i.natAbs.log2 < 1920 := fun {i} hi => Nat.lt_of_lt_of_le (PySem.Flt.log2_lt_of (show 0 < 1000 by decide) hi) (by decide)
  have sz : ∀ {n : Nat}, n ≤ 600 → n ≤ sizeLine := fun {n} hn => Nat.le_trans hn (by decide)
  refine ⟨_, pss_cons ((ps_set (i := 2) (FnScope.nd j61) rfl (Or.inl rfl) (pe_bm PySem.F.plainAttrs_str PySem.F.slot_str_join PySem.F.type_str_join mt_join pe_str (pa_cons
      (pe_lc (own := [("term", 3)]) (g := gName 3) (tt := tYes) (te := tCB (fun xs H Q => ∃ i, xs = [.int i] ∧ i.natAbs.log2 < 1920 ∧ Q (.str (toString i)) H) (tCons (tVar 3) tNil)) rfl j61.nd (pi_tup (pv 1))
        (blkOk_by (N := ["rank", "equation", "words", "term"]) (sc := defScope (top 61)) (by decide +kernel)) (fun _ _ _ _ _ => (pg_name (i := 3) (FnScope.nd j61) rfl (Or.inl rfl))) (fun _ _ _ _ _ => pts_nil)
        (fun _ _ _ _ _ => pe_callTy call_str_int (by rfl) B.str_ PyProof.Rows.boot_str (pa_cons (pv 3) pa_nil))) pa_nil))))
    (pss_one (ps_ret (pe_joined (.cons pe_str (.cons (pe_fmt (pv 0)) (.cons pe_str (.cons (pe_fmt (pv 2)) .nil))))))), ?_⟩
  refine ⟨rfl, _, rfl, p, rfl, ⟨_, SqT.of h0⟩, fun D hD => lc_tup (xs := xs.map V.int) (fun i H' => Same H H' ∧ H' D = some (.lst (((xs.take i).map W).map V.str))) ⟨same_new hD, upd_same⟩ (fun i H' _ e => SqT.of (e.1 _ _ h0)) (fun i x H' hx e => ?_) (fun H' e => ?_)⟩
  · obtain ⟨s2, e2⟩ := e
    obtain ⟨z, hz, rfl⟩ := at_map hx
    have li := lt_of_at hz
    have zz := List.all_eq_true.mp o2 z (List.mem_of_getElem? hz)
    refine ⟨rfl, _, rfl, z, rfl, l2 (of_decide_eq_true zz), _, e2, ?_, Same.put s2 hD, ?_⟩
    · rw [List.length_map, List.length_map, List.length_take]
      exact sz_lt (by omega)
    · rw [upd_same, List.take_succ, hz, List.map_append, List.map_append]
      rfl
  · obtain ⟨s2, e2⟩ := e
    rw [List.length_map, List.take_length] at e2
    refine ⟨_, D, xs.map W, rfl, rfl, .inl (SqL.of e2), o4, ?_⟩
    exact ⟨_, rfl, sz o5, _, rfl, .inr ⟨r, rfl, l2 o1, _, rfl, sz o6, _, rfl, sz o7, _, rfl, .inl ⟨_, rfl, sz o9, _, rfl, sz o8, k _ _ s2 rfl⟩⟩⟩
theorem j62 : FnScope ["shape", "chain", "rank", "equation"] ["shape"] (defScope (top 62)) := (⟨rfl, rfl, rfl, by decide +kernel, rfl, by decide +kernel, by decide +kernel⟩)
abbrev spTt (C : Addr) : Sp := Prm (α := Addr × Str × Int × List Int) (fun a => [.ref a.1]) (fun a H => ShpG C H a.1 a.2.1 a.2.2.1 a.2.2.2 ∧ okTT a.2.2.2 a.2.2.1 = true) (fun a H v H' => v = .str (txL (ttR a.2.2.2 a.2.2.1) (ttE a.2.2.2)))
theorem c_tt (D : Df K mg "turned_text" (top 62)) (B : Bl mg) (S : ShC K mg C) (CS : Cal P w K mg base 4 "sturm_chain" ["terms"] spSturmG) (CU : Cal P w K mg base 3 "roots_up_to" ["chain", "top", "bottom"] spUpG) (CA : Cal P w K mg base 4 "roots_in_all" ["chain"] spAllG) (CN : Cal P w K mg base 1 "negative" ["terms"] spNegG) (CT : Cal P w K mg base 1 "text_of" ["rank", "equation"] spTx) : Cal P w K mg base 5 "turned_text" ["shape"] (spTt C) := by
  refine mkC D j62 (fun _ _ _ _ _ _ us hl => match us, hl with | [_], _ => rfl) (fun _ => rfl) (fun f cdv A outer s H a Q E hr h k => ?_)
  obtain ⟨sh, t, r, xs⟩ := a
  obtain ⟨h, ok⟩ := h
  have h : ShpG C H sh t r xs := h
  have k : ∀ v H', Same H H' → v = .str (txL (ttR xs r) (ttE xs)) → Q v H' := k
  have ok : okTT xs r = true := ok
  unfold okTT at ok
  simp only [Bool.and_eq_true, decide_eq_true_eq] at ok
  obtain ⟨⟨⟨⟨⟨⟨l1, l2⟩, oS⟩, oU⟩, oC0⟩, oC1⟩, oT⟩ := ok
  refine ⟨_, pss_cons ((ps_set (i := 1) (FnScope.nd j62) rfl (Or.inl rfl) (pe_cl CS hr (pa_cons (pe_eqnG (j := 0) S (pv 0) (hr.mono (by decide))) pa_nil))))
    (pss_cons ((ps_set (i := 2) (FnScope.nd j62) rfl (Or.inl rfl) (pe_op op_sub (pe_op op_sub (pe_op op_add (pe_cl CU hr (pa_cons (pv 1) (pa_cons pe_int (pa_cons pe_int pa_nil)))) (pe_cl CA hr (pa_cons (pv 1) pa_nil))) pe_int) (pe_rnkG (j := 0) S (pv 0) (hr.mono (by decide))))))
    (pss_cons ((ps_set (i := 3) (FnScope.nd j62) rfl (Or.inl rfl) (pe_revG (pe_eqnG (j := 0) S (pv 0) (hr.mono (by decide))))))
    (pss_one (ps_ret (pe_cl CT hr (pa_cons (pv 2) (pa_cons (pe_ifExp ((pt_cmpR op_gt ((pe_ix ix_tup (pv 3) (pe_un un_neg pe_int) (fun _ _ => rfl))) pe_int (nomark _))) (pv 3) (pe_cl CN hr (pa_cons (pv 3) pa_nil))) pa_nil))))))), ?_⟩
  obtain ⟨dx, q0, z1, z2⟩ := id h
  refine ⟨_, rfl, sh, dx, _, rfl, z1, sh, t, r, xs, rfl, h, fun q hq => ?_⟩
  refine ⟨(q, xs), rfl, ⟨hq, oS⟩, ?_⟩
  rintro _ H1 s1 ⟨c, rfl, hc⟩
  have hc : Chn H1 c (sturmL xs) := hc
  refine ⟨_, rfl, (c, sturmL xs, 0, 1), rfl, ⟨hc, okUB_ok oU, okChB_ok oC0⟩, ?_⟩
  rintro _ H2 s2 rfl
  refine ⟨_, rfl, (c, sturmL xs), rfl, ⟨hc.same s2, okUB_ok oU, okChB_ok oC1⟩, ?_⟩
  rintro _ H3 s3 rfl
  have s13 := s1.trans (s2.trans s3)
  refine ⟨_, _, rfl, rfl, _, _, rfl, rfl, ?_⟩
  refine ⟨_, rfl, sh, dx, _, rfl, s13 _ _ z1, sh, t, r, xs, rfl, h.same s13, fun _ _ => ⟨_, _, rfl, rfl, ?_⟩⟩
  have lx : (xs.map V.int).length = xs.length := List.length_map ..
  refine ⟨_, rfl, sh, dx, _, rfl, s13 _ _ z1, sh, t, r, xs, rfl, h.same s13, fun q2 hq2 => ?_⟩
  have hq20 : H3 q2 = some (.tup (xs.map V.int)) := hq2
  refine ⟨q2, _, rfl, SqT.of hq20, ⟨by rw [lx]; exact l1, by rw [lx]; exact l2⟩, fun u hu => ?_⟩
  rw [← List.map_reverse]
  have s4 := Same.new (o := .tup (xs.reverse.map V.int)) s13 hu
  have hu0 : upd H3 u (.tup (xs.reverse.map V.int)) u = some (.tup (xs.reverse.map V.int)) := upd_same
  generalize upd H3 u (.tup (xs.reverse.map V.int)) = H4 at *
  have l1r : 1 ≤ xs.reverse.length := by rw [List.length_reverse]; exact l1
  refine ⟨_, rfl, _, rfl, _, rfl, u, _, _, _, rfl, rfl, SqT.of hu0, at_lastD l1r, _, _, rfl, rfl, _, rfl, ?_⟩
  by_cases hp : xs.reverse.getLastD 0 > 0
  · rw [decide_eq_true hp]
    have ee : ttE xs = xs.reverse := by
      unfold ttE
      rw [if_pos hp]
    rw [ee] at oT k
    refine iteT ⟨_, rfl, (u, ttR xs r, xs.reverse), rfl, ⟨hu0, oT⟩, ?_⟩
    rintro _ H5 s5 rfl
    exact k _ _ (s4.trans s5) rfl
  · rw [decide_eq_false hp]
    have ee : ttE xs = xs.reverse.map fun x => -x := by
      unfold ttE
      rw [if_neg hp]
    rw [ee] at oT k
    refine iteF ⟨_, rfl, (u, xs.reverse), rfl, ⟨hu0, by show xs.reverse.length ≤ 1000; rw [List.length_reverse]; exact l2⟩, ?_⟩
    rintro _ H5 s5 ⟨u2, rfl, hu2⟩
    refine ⟨(u2, ttR xs r, xs.reverse.map fun x => -x), rfl, ⟨hu2, oT⟩, ?_⟩
    rintro _ H6 s6 rfl
    exact k _ _ (s4.trans (s5.trans s6)) rfl
end
end Xq

/-! ==, less, alike. -/
namespace Xq
open PySem PySem.Spec PyProof.Rows L2
/-- the own == of shapes -/
structure ShE (K : PySem.W.Frag) (C : Addr) : Prop where
  eq : ∃ f fd, PySem.W.findIn K (.ref C) "__eq__" = some (some (.ref f)) ∧ PySem.W.isFn K (.ref f) = true ∧ Fun K "__eq__" "Shape.__eq__" (inClass (top 52) 7) f fd
section
variable {P : Program} {w : World} {K : PySem.W.Frag} {mg : Str → Option Value} {base : Heap} {C : Addr}
theorem sEq : FnScope ["self", "other"] ["self", "other"] (defScope (inClass (top 52) 7)) := (⟨rfl, rfl, rfl, by decide +kernel, rfl, by decide +kernel, by decide +kernel⟩)
def spShEq (C : Addr) : Sp := fun vs H Q _ => ∃ (a b : Addr) (t t' : Str) (r r' : Int) (xs xs' : List Int), vs = [.ref a, .ref b] ∧ ShpG C H a t r xs ∧ ShpG C H b t' r' xs' ∧ Q (.bl (decide (t = t'))) H
theorem ok_shEq {f : Addr} {fd : FuncData} (F : Fun K "__eq__" "Shape.__eq__" (inClass (top 52) 7) f fd) (B : Bl mg) (S : ShC K mg C) : FnOk P w K mg base CX0 1 f fd ["self", "other"] (spShEq C) := by
  refine F.ok sEq (fun vs H Q E h => ?_) (fun cdv A outer s H vs Q E hr h => ?_)
  · obtain ⟨a, b, t, t', r, r', xs, xs', rfl, _⟩ := h
    rfl
  · obtain ⟨a, b, t, t', r, r', xs, xs', rfl, ⟨dx, q, h1, h2⟩, ⟨dy, q', h1', h2'⟩, k⟩ := h
    refine ⟨_, pss_one (ps_ret (pe_and (pe_callB call_isi (by rfl) B.isinstance_ (by decide +kernel) (pa_cons (pv 1) (pa_cons (pe_glob (v := .ref C) (by rfl) S.mgC rfl) pa_nil))) (pe_one (pe_cmpR op_eq (pe_fld (pv 0) rfl) (pe_fld (pv 1) rfl) (nomark _))))), ?_⟩
    refine ⟨_, rfl, _, _, _, _, true, rfl, .own _, .base (.ins h1' S.cl S.c1 S.c2 S.c3 S.c4), S.kit, ?_⟩
    refine ⟨_, rfl, iteT ?_⟩
    refine ⟨_, rfl, a, C, dx, _, _, rfl, h1, S.cl, S.n1, rfl, _, rfl, b, C, dy, _, _, rfl, h1', S.cl, S.n1, rfl, ?_⟩
    refine ⟨rfl, ?_⟩
    have e : decide (V.str t = V.str t') = decide (t = t') := by
      by_cases h : t = t'
      · rw [decide_eq_true h, decide_eq_true (by rw [h])]
      · rw [decide_eq_false h, decide_eq_false fun q => h (V.str.inj q)]
    show Q (.bl (decide (V.str t = V.str t'))) H
    rw [e]
    exact k
variable {X : Cx} {j : Nat}
/-- one == other -/
theorem op_eqSh (B : Bl X.mg) (S : ShC X.K X.mg C) {f : Addr} {fd : FuncData} (h1 : PySem.W.findIn X.K (.ref C) "__eq__" = some (some (.ref f))) (h2 : PySem.W.isFn X.K (.ref f) = true) (F : Fun X.K "__eq__" "Shape.__eq__" (inClass (top 52) 7) f fd) (hr : Room (j + 2) X.A) : OpR X (compareOp .Eq) (rEqI C (spShEq C) E0) :=
  op_eqI (ok_shEq (P := X.prog) (w := X.w) (base := X.base) F B S) (hr.mono (by omega)) h1 h2 (F.binds (fun _ _ _ _ _ _ us hl => match us, hl with | [_, _], _ => rfl)) pass0
theorem j53 : FnScope ["one", "other", "bits"] ["one", "other"] (defScope (top 53)) := (⟨rfl, rfl, rfl, by decide +kernel, rfl, by decide +kernel, by decide +kernel⟩)
/-- both settled at the first look -/
def okLess (xs xs' : List Int) (r r' : Int) : Bool := decide ((strL xs r).2 = 64) && decide ((strL xs' r').2 = 64) && !decide ((strL xs r).1 = (strL xs' r').1)
abbrev spLess (C : Addr) : Sp := Prm (α := Addr × Str × Int × List Int × Addr × Str × Int × List Int) (fun ⟨a, _, _, _, b, _, _, _⟩ => [.ref a, .ref b])
  (fun ⟨a, t, r, xs, b, t', r', xs'⟩ H => ShpG C H a t r xs ∧ ShpG C H b t' r' xs' ∧ ¬ t = t' ∧ okLess xs xs' r r' = true) (fun ⟨a, t, r, xs, b, t', r', xs'⟩ H v H' => v = .bl (decide ((strL xs r).1 < (strL xs' r').1)))
theorem c_less (D : Df K mg "less" (top 53)) (B : Bl mg) (S : ShC K mg C) (SE : ShE K C) (CC : Cal P w K mg base 1 "check_shape" ["value"] (spChkG C)) : Cal P w K mg base 4 "less" ["one", "other"] (spLess C) := by
  obtain ⟨fe, fde, he1, he2, FE⟩ := SE.eq
  refine mkC D j53 (fun _ _ _ _ _ _ us hl => match us, hl with | [_, _], _ => rfl) (fun _ => rfl) (fun f cdv A outer s H x Q E hr h k => ?_)
  obtain ⟨a, t, r, xs, b, t', r', xs'⟩ := x
  obtain ⟨h1, h2, nt, ok⟩ := h
  have h1 : ShpG C H a t r xs := h1
  have h2 : ShpG C H b t' r' xs' := h2
  have k : ∀ v H', Same H H' → v = .bl (decide ((strL xs r).1 < (strL xs' r').1)) → Q v H' := k
  have ok : okLess xs xs' r r' = true := ok
  unfold okLess at ok
  simp only [Bool.and_eq_true, decide_eq_true_eq, Bool.not_eq_true', decide_eq_false_iff_not] at ok
  obtain ⟨⟨b1, b2⟩, ne⟩ := ok
  obtain ⟨tb, hb⟩ := B.bits_
  refine ⟨_, pss_cons (ps_expr (pe_cl CC hr (pa_cons (pv 0) pa_nil)))
    (pss_cons (ps_expr (pe_cl CC hr (pa_cons (pv 1) pa_nil)))
    (pss_cons (ps_if (pt_cmpR (op_eqSh (j := 0) B S he1 he2 FE (hr.mono (by decide))) (pv 0) (pv 1) (nomark _)) pss_nv pss_nil)
    (pss_cons ((ps_set (i := 2) (FnScope.nd j53) rfl (Or.inl rfl) (pe_glob (v := .int 64) (by rfl) hb ⟨_, rfl⟩)))
    (pss_cons (ps_whU PassesOwn.never ((pt_cmpR op_eq (pe_floG (j := 0) S (pv 0) (pv 2) (hr.mono (by decide))) (pe_floG (j := 0) S (pv 1) (pv 2) (hr.mono (by decide))) (nomark _))) pss_nv)
    (pss_one (ps_ret (pe_cmpR op_lt (pe_floG (j := 0) S (pv 0) (pv 2) (hr.mono (by decide))) (pe_floG (j := 0) S (pv 1) (pv 2) (hr.mono (by decide))) (nomark _)))))))), ?_⟩
  obtain ⟨dx, q, z1, z2⟩ := id h1
  obtain ⟨dy, q', z1', z2'⟩ := id h2
  refine ⟨_, rfl, (a, t, r, xs), rfl, h1, ?_⟩
  rintro _ HX - eX
  have eX : H = HX := (show HX = H from eX).symm
  subst eX
  refine ⟨_, rfl, (b, t', r', xs'), rfl, h2, ?_⟩
  rintro _ HX - eX
  have eX : H = HX := (show HX = H from eX).symm
  subst eX
  refine ⟨_, rfl, _, rfl, a, b, dx, dy, _, _, rfl, rfl, z1, z1', a, b, t, t', r, r', xs, xs', rfl, h1, h2, _, rfl, _, rfl, ?_⟩
  rw [decide_eq_false nt]
  refine iteF ?_
  refine ⟨0, _, rfl, a, dx, _, rfl, z1, rfl, _, rfl, a, t, r, xs, rfl, h1, b1, ?_⟩
  refine ⟨_, rfl, b, dy, _, rfl, z1', rfl, _, rfl, b, t', r', xs', rfl, h2, b2, rfl, _, rfl, ?_⟩
  rw [decide_eq_false (show ¬ V.int (strL xs r).1 = V.int (strL xs' r').1 from fun q => ne (V.int.inj q))]
  refine ⟨rfl, ?_⟩
  refine ⟨_, rfl, a, dx, _, rfl, z1, rfl, _, rfl, a, t, r, xs, rfl, h1, b1, ?_⟩
  exact ⟨_, rfl, b, dy, _, rfl, z1', rfl, _, rfl, b, t', r', xs', rfl, h2, b2, _, _, rfl, rfl, k _ _ (Same.refl _) rfl⟩
theorem j54 : FnScope ["one", "other"] ["one", "other"] (defScope (top 54)) := (⟨rfl, rfl, rfl, by decide +kernel, rfl, by decide +kernel, by decide +kernel⟩)
abbrev spAlike (C : Addr) : Sp := Prm (α := Addr × Str × Int × List Int × Addr × Str × Int × List Int) (fun ⟨a, _, _, _, b, _, _, _⟩ => [.ref a, .ref b])
  (fun ⟨a, t, r, xs, b, t', r', xs'⟩ H => ShpG C H a t r xs ∧ ShpG C H b t' r' xs' ∧ ¬ t = t' ∧ okTT xs r = true) (fun ⟨a, t, r, xs, b, t', r', xs'⟩ H v H' => v = .bl (decide (txL (ttR xs r) (ttE xs) = t')))
theorem c_alike (D : Df K mg "alike" (top 54)) (B : Bl mg) (S : ShC K mg C) (SE : ShE K C) (CC : Cal P w K mg base 1 "check_shape" ["value"] (spChkG C)) (CT : Cal P w K mg base 5 "turned_text" ["shape"] (spTt C)) : Cal P w K mg base 6 "alike" ["one", "other"] (spAlike C) := by
  obtain ⟨fe, fde, he1, he2, FE⟩ := SE.eq
  refine mkC D j54 (fun _ _ _ _ _ _ us hl => match us, hl with | [_, _], _ => rfl) (fun _ => rfl) (fun f cdv A outer s H x Q E hr h k => ?_)
  obtain ⟨a, t, r, xs, b, t', r', xs'⟩ := x
  obtain ⟨h1, h2, nt, ok⟩ := h
  have h1 : ShpG C H a t r xs := h1
  have h2 : ShpG C H b t' r' xs' := h2
  have k : ∀ v H', Same H H' → v = .bl (decide (txL (ttR xs r) (ttE xs) = t')) → Q v H' := k
  refine ⟨_, pss_cons (ps_expr (pe_cl CC hr (pa_cons (pv 0) pa_nil)))
    (pss_cons (ps_expr (pe_cl CC hr (pa_cons (pv 1) pa_nil)))
    (pss_one (ps_ret (pe_or (pe_cmpR (op_eqSh (j := 0) B S he1 he2 FE (hr.mono (by decide))) (pv 0) (pv 1) (nomark _)) (pe_one (pe_cmpR op_eq (pe_cl CT hr (pa_cons (pv 0) pa_nil)) (pe_txtG (j := 0) S (pv 1) (hr.mono (by decide))) (nomark _))))))), ?_⟩
  obtain ⟨dx, q, z1, z2⟩ := id h1
  obtain ⟨dy, q', z1', z2'⟩ := id h2
  refine ⟨_, rfl, (a, t, r, xs), rfl, h1, ?_⟩
  rintro _ HX - eX
  have eX : H = HX := (show HX = H from eX).symm
  subst eX
  refine ⟨_, rfl, (b, t', r', xs'), rfl, h2, ?_⟩
  rintro _ HX - eX
  have eX : H = HX := (show HX = H from eX).symm
  subst eX
  refine ⟨_, rfl, _, rfl, a, b, dx, dy, _, _, rfl, rfl, z1, z1', a, b, t, t', r, r', xs, xs', rfl, h1, h2, _, rfl, _, rfl, ?_⟩
  rw [decide_eq_false nt]
  refine iteF ?_
  refine ⟨_, rfl, (a, t, r, xs), rfl, ⟨h1, ok⟩, ?_⟩
  rintro _ H1 s1 rfl
  refine ⟨_, rfl, b, dy, _, rfl, s1 _ _ z1', b, t', r', xs', rfl, h2.same s1, fun _ _ => ⟨rfl, ?_⟩⟩
  have e : decide (V.str (txL (ttR xs r) (ttE xs)) = V.str t') = decide (txL (ttR xs r) (ttE xs) = t') := by
    by_cases h : txL (ttR xs r) (ttE xs) = t'
    · rw [decide_eq_true h, decide_eq_true (by rw [h])]
    · rw [decide_eq_false h, decide_eq_false fun q => h (V.str.inj q)]
  refine k _ _ s1 ?_
  rw [← e]
end
end Xq

/-! check_equation, is_below, check_stretch, Shape.of. -/
namespace Xq
open PySem PySem.Spec PyProof.Rows L2
def okSt (a b c d : Int) : Bool := decide (1 ≤ b) && decide (Nat.gcd a.natAbs b.natAbs = 1) && decide (0 ≤ a) && decide (1 ≤ d) && decide (Nat.gcd c.natAbs d.natAbs = 1) && smI 4000 a && smI 4000 b && smI 4000 c && smI 4000 d && !decide (c * b < a * d)
def ofL (xs : List Int) (a b c d : Int) : List Int := (fwL xs a b c d).getD []
def ofR (xs : List Int) (a b c d : Int) : Int := rlL (ofL xs a b c d) c d
def ofT (xs : List Int) (a b c d : Int) : Str := txL (ofR xs a b c d) (ofL xs a b c d)
def okOf (xs : List Int) (a b c d : Int) : Bool := okE xs && okSt a b c d && okFw xs a b c d && (fwL xs a b c d).isSome && ((ofL xs a b c d).all fun x => decide (-1000 ≤ x) && decide (x ≤ 1000)) && decide ((ofL xs a b c d).length ≤ 1000) && okRl (ofL xs a b c d) c d && okTx (ofR xs a b c d) (ofL xs a b c d) &&
  okT (ofT xs a b c d) (ofR xs a b c d) (ofL xs a b c d) && okStr (ofL xs a b c d) (ofR xs a b c d)
section
variable {P : Program} {w : World} {K : PySem.W.Frag} {mg : Str → Option Value} {base : Heap} {C : Addr}
theorem j56 : FnScope ["value", "wrong"] ["value"] (defScope (top 56)) := (⟨rfl, rfl, rfl, by decide +kernel, rfl, by decide +kernel, by decide +kernel⟩)
abbrev spChkE : Sp := Prm (α := Addr × List Int) (fun a => [.ref a.1]) (fun a H => TI H a.1 a.2 ∧ okE a.2 = true) (fun _ H v H' => True)
theorem c_chkE (D : Df K mg "check_equation" (top 56)) (B : Bl mg) (CW : Cal P w K mg base 3 "wrong_term" ["equation"] spWrongG) : Cal P w K mg base 4 "check_equation" ["value"] spChkE := by
  refine mkC D j56 (fun _ _ _ _ _ _ us hl => match us, hl with | [_], _ => rfl) (fun _ => rfl) (fun f cdv A outer s H a Q E hr h k => ?_)
  obtain ⟨p, xs⟩ := a
  obtain ⟨h, ok⟩ := h
  have h0 : H p = some (.tup (xs.map V.int)) := h
  have ok : okE xs = true := ok
  have k : ∀ v H', Same H H' → True → Q v H' := k
  have oE' := ok
  unfold okE at oE'
  simp only [Bool.and_eq_true, decide_eq_true_eq, Bool.not_eq_true', decide_eq_false_iff_not] at oE'
  obtain ⟨⟨⟨l2, l6⟩, alx⟩, nz⟩ := oE'
  have lx : (xs.map V.int).length = xs.length := List.length_map ..
  refine ⟨_, pss_cons (ps_if (PW.pt (pw_or (pt_not (pt_val (pe_isi (v := .ty "tuple") (by rfl) B.isinstance_ (pv 0) (by rfl) B.tuple_ PyProof.Rows.boot_tuple rfl))) (pw_or1 ((pt_cmpR op_lt ((pe_callB call_len_seq (by rfl) (Bl.len_ B) PySem.boot_len (pa_cons (pv 0) pa_nil))) pe_int (nomark _)))))) pss_nv pss_nil)
    (pss_cons ((ps_set (i := 1) (FnScope.nd j56) rfl (Or.inl rfl) (pe_cl CW hr (pa_cons (pv 0) pa_nil))))
    (pss_one (ps_if (pt_cmpR op_notN (pv 1) pe_non (nomark _)) pss_nv pss_nil))), ?_⟩
  refine ⟨_, rfl, _, _, _, _, true, rfl, .ty _, .base (.tup h0), kit_ty (by decide +kernel), _, rfl, iteF ?_⟩
  refine ⟨_, rfl, p, _, rfl, .inr (SqT.of h0), _, _, rfl, rfl, _, rfl, ?_⟩
  rw [decide_eq_false (show ¬ ((((xs.map V.int).length : Nat) : Int) < 2) by rw [lx]; omega)]
  refine iteF ⟨_, rfl, (p, xs), rfl, ⟨h, ok⟩, ?_⟩
  rintro _ H1 s1 rfl
  exact ⟨_, rfl, rfl, _, rfl, iteF (k _ _ s1 trivial)⟩
theorem j35 : FnScope ["one", "other"] ["one", "other"] (defScope (top 35)) := (⟨rfl, rfl, rfl, by decide +kernel, rfl, by decide +kernel, by decide +kernel⟩)
abbrev spBelow : Sp := Prm (α := Addr × Addr × Int × Int × Int × Int) (fun ⟨p, q, a, b, c, d⟩ => [.ref p, .ref q]) (fun ⟨p, q, a, b, c, d⟩ H => TI H p [a, b] ∧ TI H q [c, d] ∧ Sm 4000 a ∧ Sm 4000 b ∧ Sm 4000 c ∧ Sm 4000 d) (fun ⟨p, q, a, b, c, d⟩ H v H' => v = .bl (decide (a * d < c * b)))
theorem c_below (D : Df K mg "is_below" (top 35)) : Cal P w K mg base 1 "is_below" ["one", "other"] spBelow := by
  refine mkC D j35 (fun _ _ _ _ _ _ us hl => match us, hl with | [_, _], _ => rfl) (fun _ => rfl) (fun f cdv A outer s H x Q E hr h k => ?_)
  obtain ⟨p, q, a, b, c, d⟩ := x
  obtain ⟨hp, hq, sa, sb, sc, sd⟩ := h
  have hp0 : H p = some (.tup [.int a, .int b]) := hp
  have hq0 : H q = some (.tup [.int c, .int d]) := hq
  refine ⟨_, pss_one (ps_ret (pe_cmpR op_lt (pe_op op_mulW ((pe_ix ix_tup (pv 0) pe_int (fun _ _ => rfl))) ((pe_ix ix_tup (pv 1) pe_int (fun _ _ => rfl)))) (pe_op op_mulW ((pe_ix ix_tup (pv 1) pe_int (fun _ _ => rfl))) ((pe_ix ix_tup (pv 0) pe_int (fun _ _ => rfl)))) (nomark _))), ?_⟩
  refine ⟨_, rfl, p, _, _, _, rfl, rfl, SqT.of hp0, atI_nat (j := 0) rfl, _, rfl, q, _, _, _, rfl, rfl, SqT.of hq0, atI_nat (j := 1) rfl, _, _, rfl, rfl, cm sa sd, ?_⟩
  refine ⟨_, rfl, q, _, _, _, rfl, rfl, SqT.of hq0, atI_nat (j := 0) rfl, _, rfl, p, _, _, _, rfl, rfl, SqT.of hp0, atI_nat (j := 1) rfl, _, _, rfl, rfl, cm sc sb, _, _, rfl, rfl, k _ _ (Same.refl _) rfl⟩
theorem j57 : FnScope ["low", "high"] ["low", "high"] (defScope (top 57)) := (⟨rfl, rfl, rfl, by decide +kernel, rfl, by decide +kernel, by decide +kernel⟩)
abbrev spChkS : Sp := Prm (α := Addr × Addr × Int × Int × Int × Int) (fun ⟨p, q, a, b, c, d⟩ => [.ref p, .ref q]) (fun ⟨p, q, a, b, c, d⟩ H => TI H p [a, b] ∧ TI H q [c, d] ∧ okSt a b c d = true) (fun ⟨p, q, a, b, c, d⟩ H v H' => True)
theorem c_chkS (D : Df K mg "check_stretch" (top 57)) (CF : Cal P w K mg base 3 "is_fraction" ["value"] spIsFrac) (CB : Cal P w K mg base 1 "is_below" ["one", "other"] spBelow) : Cal P w K mg base 4 "check_stretch" ["low", "high"] spChkS := by
  refine mkC D j57 (fun _ _ _ _ _ _ us hl => match us, hl with | [_, _], _ => rfl) (fun _ => rfl) (fun f cdv A outer s H x Q E hr h k => ?_)
  obtain ⟨p, q, a, b, c, d⟩ := x
  obtain ⟨hp, hq, ok⟩ := h
  have hp : TI H p [a, b] := hp
  have hq : TI H q [c, d] := hq
  have hp0 : H p = some (.tup [.int a, .int b]) := hp
  have hq0 : H q = some (.tup [.int c, .int d]) := hq
  have k : ∀ v H', Same H H' → True → Q v H' := k
  have ok : okSt a b c d = true := ok
  unfold okSt at ok
  simp only [Bool.and_eq_true, decide_eq_true_eq, Bool.not_eq_true', decide_eq_false_iff_not] at ok
  obtain ⟨⟨⟨⟨⟨⟨⟨⟨⟨o1, o2⟩, o3⟩, o4⟩, o5⟩, o6⟩, o7⟩, o8⟩, o9⟩, o10⟩ := ok
  have m : ∀ {i : Int}, smI 4000 i = true → Sm 4000 i := fun {i} z => smI_ok (a := 4000) z (by decide)
  refine ⟨_, pss_cons (ps_if (PW.pt (pw_or (pt_not (pt_val (pe_cl CF hr (pa_cons (pv 0) pa_nil)))) (pw_or1 ((pt_cmpR op_lt ((pe_ix ix_tup (pv 0) pe_int (fun _ _ => rfl))) pe_int (nomark _)))))) pss_nv pss_nil)
    (pss_one (ps_if (PW.pt (pw_or (pt_not (pt_val (pe_cl CF hr (pa_cons (pv 1) pa_nil)))) (pw_or1 (pt_val (pe_cl CB hr (pa_cons (pv 1) (pa_cons (pv 0) pa_nil))))))) pss_nv pss_nil)), ?_⟩
  refine ⟨_, rfl, (p, a, b), rfl, ⟨hp, o1, o2⟩, ?_⟩
  rintro _ H1 s1 rfl
  refine ⟨_, rfl, iteF ?_⟩
  refine ⟨_, rfl, p, _, _, _, rfl, rfl, SqT.of (s1 _ _ hp0), atI_nat (j := 0) rfl, _, _, rfl, rfl, _, rfl, ?_⟩
  rw [decide_eq_false (show ¬ (a < 0) by omega)]
  refine iteF ⟨_, rfl, (q, c, d), rfl, ⟨TI.same s1 hq, o4, o5⟩, ?_⟩
  rintro _ H2 s2 rfl
  have s12 := s1.trans s2
  refine ⟨_, rfl, iteF ?_⟩
  refine ⟨_, rfl, _, rfl, (q, p, c, d, a, b), rfl, ⟨TI.same s12 hq, TI.same s12 hp, m o8, m o9, m o6, m o7⟩, ?_⟩
  rintro _ H3 s3 rfl
  refine ⟨_, rfl, ?_⟩
  rw [decide_eq_false o10]
  exact iteF (k _ _ (s12.trans s3) trivial)
end
end Xq

/-! Shape.of. -/
namespace Xq
open PySem PySem.Spec PyProof.Rows L2
section
variable {P : Program} {w : World} {K : PySem.W.Frag} {mg : Str → Option Value} {base : Heap} {C : Addr}
abbrev nOf : List Str := ["equation", "low", "high", "least", "term"]
theorem sOf : FnScope nOf ["equation", "low", "high"] (defScope (inClass (top 52) 1)) := (⟨rfl, rfl, rfl, by decide +kernel, rfl, by decide +kernel, by decide +kernel⟩)
def spOfG (C : Addr) : Sp := fun vs H Q _ => ∃ (p l h : Addr) (xs : List Int) (a b c d : Int), vs = [.ref p, .ref l, .ref h] ∧ TI H p xs ∧ TI H l [a, b] ∧ TI H h [c, d] ∧ okOf xs a b c d = true ∧
  ∀ v H', Same H H' → (∃ sh, v = .ref sh ∧ ShpG C H' sh (ofT xs a b c d) (ofR xs a b c d) (ofL xs a b c d)) → Q v H'
theorem ok_ofG {f : Addr} {fd : FuncData} (F : Fun K "of" "Shape.of" (inClass (top 52) 1) f fd) (B : Bl mg) (S : ShC K mg C) (CE : Cal P w K mg base 4 "check_equation" ["value"] spChkE) (CS : Cal P w K mg base 4 "check_stretch" ["low", "high"] spChkS)
    (CF : Cal P w K mg base 6 "factor_within" ["equation", "low", "high"] spFw) (CT : Cal P w K mg base 2 "is_term" ["value"] spIsTerm) (CX : Cal P w K mg base 1 "text_of" ["rank", "equation"] spTx) (CR : Cal P w K mg base 5 "rank_of_last" ["terms", "high"] spRl)
    (CTold : Cal P w K mg base 6 "told_by" ["text"] spToldG) (CStr : Cal P w K mg base 6 "stretch_of" ["equation", "rank"] spStrG) :
    FnOk P w K mg base CX0 9 f fd ["equation", "low", "high"] (spOfG C) := by
  refine F.ok sOf (fun vs H Q E h => ?_) (fun cdv A outer s H vs Q E hr h => ?_)
  · obtain ⟨p, l, hh, xs, a, b, c, d, rfl, _⟩ := h
    rfl
  · obtain ⟨p, l, hh, xs, a, b, c, d, rfl, hp, hl, hhh, ok, k⟩ := h
    unfold okOf at ok
    simp only [Bool.and_eq_true, decide_eq_true_eq] at ok
    obtain ⟨⟨⟨⟨⟨⟨⟨⟨⟨o1, o2⟩, o3⟩, o4⟩, o5⟩, o6⟩, o7⟩, o8⟩, o9⟩, o10⟩ := ok
    refine ⟨_, pss_cons (ps_expr (pe_cl CE hr (pa_cons (pv 0) pa_nil)))
      (pss_cons (ps_expr (pe_cl CS hr (pa_cons (pv 1) (pa_cons (pv 2) pa_nil))))
      (pss_cons ((ps_set (i := 3) (FnScope.nd sOf) rfl (Or.inl rfl) (pe_cl CF hr (pa_cons (pv 0) (pa_cons (pv 1) (pa_cons (pv 2) pa_nil))))))
      (pss_cons (ps_if (pt_cmpR op_isN (pv 3) pe_non (nomark _)) pss_nv pss_nil)
      (pss_cons (ps_if (pt_not (pt_val (pe_callB (cr_all rfl) (by rfl) B.all_ PyProof.Rows.boot_all (pa_cons
          (pe_lc (own := [("term", 4)]) (g := gName 4) (tt := tYes) (te := tCall spIsTerm [] E0 (tCons (tVar 4) tNil)) rfl sOf.nd (pi_tup (pv 3))
            (blkOk_by (N := nOf) (sc := defScope (inClass (top 52) 1)) (by decide +kernel)) (fun _ _ _ _ _ => (pg_name (i := 4) (FnScope.nd sOf) rfl (Or.inl rfl))) (fun _ _ _ _ _ => pts_nil)
            (fun _ _ _ _ _ => pe_cl CT hr (pa_cons (pv 4) pa_nil))) pa_nil)))) pss_nv pss_nil)
      (pss_one (ps_ret (pe_mkG (j := 0) S CTold CStr (pe_cl CX hr (pa_cons (pe_cl CR hr (pa_cons (pv 3) (pa_cons (pv 2) pa_nil))) (pa_cons (pv 3) pa_nil))) (hr.mono (by decide)) (by rfl)))))))), ?_⟩
    refine ⟨_, rfl, (p, xs), rfl, ⟨hp, o1⟩, ?_⟩
    rintro _ H1 s1 -
    refine ⟨_, rfl, _, rfl, (l, hh, a, b, c, d), rfl, ⟨TI.same s1 hl, TI.same s1 hhh, o2⟩, ?_⟩
    rintro _ H2 s2' -
    have s2 := s1.trans s2'
    refine ⟨_, rfl, _, rfl, _, rfl, (p, l, hh, xs, a, b, c, d), rfl, ⟨TI.same s2 hp, TI.same s2 hl, TI.same s2 hhh, o3⟩, ?_⟩
    rintro v H3 s3' ho
    have s3 := s2.trans s3'
    have ho : oT H3 v (fwL xs a b c d) := ho
    have eL : fwL xs a b c d = some (ofL xs a b c d) := by
      unfold ofL
      cases hf : fwL xs a b c d with
      | none => rw [hf] at o4; cases o4
      | some z => rfl
    rw [eL] at ho
    obtain ⟨q, rfl, hq⟩ := ho
    have hq0 : H3 q = some (.tup ((ofL xs a b c d).map V.int)) := hq
    refine ⟨_, rfl, rfl, _, rfl, iteF ?_⟩
    refine ⟨_, rfl, q, rfl, ⟨_, SqT.of hq0⟩, fun D hD => lc_tup (xs := (ofL xs a b c d).map V.int) (fun i H' => Same H3 H' ∧ H' D = some (.lst ((List.replicate i true).map V.bl))) ⟨same_new hD, upd_same⟩ (fun i H' _ e => SqT.of (e.1 _ _ hq0)) (fun i x H' hx e => ?_) (fun H' e => ?_)⟩
    · obtain ⟨s4, e4⟩ := e
      obtain ⟨z, hz, rfl⟩ := at_map hx
      have li := lt_of_at hz
      have bb := List.all_eq_true.mp o5 z (List.mem_of_getElem? hz)
      simp only [Bool.and_eq_true, decide_eq_true_eq] at bb
      refine ⟨rfl, _, rfl, z, rfl, bb, ?_⟩
      rintro _ HX - ⟨rfl, eX⟩
      have eX : H' = HX := eX.symm
      subst eX
      refine ⟨_, e4, ?_, Same.put s4 hD, ?_⟩
      · rw [List.length_map, List.length_replicate]
        exact sz_lt (by omega)
      · rw [upd_same, List.replicate_succ', List.map_append]
        rfl
    · obtain ⟨s4, e4⟩ := e
      refine ⟨D, _, rfl, SqL.of e4, _, rfl, ?_⟩
      have ea : (List.replicate ((ofL xs a b c d).map V.int).length true).all id = true := by simp
      rw [ea]
      refine iteF ?_
      have s5 := s3.trans s4
      have hq4 := TI.same s4 hq
      refine ⟨_, rfl, _, rfl, (q, hh, ofL xs a b c d, c, d), rfl, ⟨hq4, TI.same s5 hhh, o7⟩, ?_⟩
      rintro _ H5 s6 rfl
      refine ⟨_, rfl, (q, ofR xs a b c d, ofL xs a b c d), rfl, ⟨TI.same s6 hq4, o8⟩, ?_⟩
      rintro _ H6 s7 rfl
      have s8 := s5.trans (s6.trans s7)
      intro x dx hx hdx nx
      refine ⟨H6, x, dx, ofT xs a b c d, ofR xs a b c d, ofL xs a b c d, rfl, Same.put (same_new hdx) hx, hx, upd_same, o9, o10, fun H' sH hsh => ⟨rfl, k _ _ (s8.trans sH) ⟨x, rfl, hsh⟩⟩⟩
/-- Shape.of(..) -/
structure ShO (K : PySem.W.Frag) (C : Addr) : Prop where
  rd : ∃ mc, ClX.CRead K C mc ∧ ∃ p g fd, CSm K C mc "of" p g ∧ PySem.W.keepIn K (.ref g) = true ∧ Fun K "of" "Shape.of" (inClass (top 52) 1) g fd
end
/-- all that is known of the program's functions -/
structure All (P : Program) (w : World) (K : PySem.W.Frag) (mg : Str → Option Value) (base : Heap) (C : Addr) : Prop where
  B : Bl mg
  S : ShC K mg C
  SE : ShE K C
  SO : ShO K C
  ce : Cal P w K mg base 4 "check_equation" ["value"] spChkE
  cs : Cal P w K mg base 4 "check_stretch" ["low", "high"] spChkS
  fw : Cal P w K mg base 6 "factor_within" ["equation", "low", "high"] spFw
  tm : Cal P w K mg base 2 "is_term" ["value"] spIsTerm
  tx : Cal P w K mg base 1 "text_of" ["rank", "equation"] spTx
  rl : Cal P w K mg base 5 "rank_of_last" ["terms", "high"] spRl
  told : Cal P w K mg base 6 "told_by" ["text"] spToldG
  str : Cal P w K mg base 6 "stretch_of" ["equation", "rank"] spStrG
  less : Cal P w K mg base 4 "less" ["one", "other"] (spLess C)
  alike : Cal P w K mg base 6 "alike" ["one", "other"] (spAlike C)
section
variable {X : Cx} {C : Addr} {j : Nat} {p apos pos : Pos} {e1 : Expr} {es : List Expr} {t : TA} {pl : Sem Bool}
theorem pe_of (U : All X.prog X.w X.K X.mg X.base C) (ha : PA X (e1 :: es) t) (hr : Room (j + 10) X.A) (hg : Gl X "Shape")
    (hst : starEach (e1 :: es) X.env = (false, eval e1 X.env) :: starEach es X.env := by rfl) (hpl : (backTo pos (starEach es X.env)).any (·.1) = false := by rfl)
    (ht : eval (.Call (.Attribute (.Name "Shape" p) "of" apos) (e1 :: es) [] pos) X.env = (do
      let ov ← eval (.Name "Shape" p) X.env
      standAt apos.atName
      let (f, first) ← holding [ov] (getMethod ov "of" pl)
      callWith pos f first (backTo pos (starEach (e1 :: es) X.env)) (backToKw pos (keywordEach [] X.env))) := by rfl) :
    PE X (.Call (.Attribute (.Name "Shape" p) "of" apos) (e1 :: es) [] pos) (tSMeth C (spOfG C) E0 (tC (.ref C)) t) := by
  obtain ⟨mc, R, pp, g, fd, c, hk, F⟩ := U.SO.rd
  exact pe_smeth (pl := pl) (pe_glob (v := .ref C) hg U.S.mgC rfl) R c (ok_ofG (P := X.prog) (w := X.w) (base := X.base) F U.B U.S U.ce U.cs U.fw U.tm U.tx U.rl U.told U.str) (hr.mono (by omega)) hk (F.binds (fun _ _ _ _ _ _ us hl => match us, hl with | [_, _, _], _ => rfl)) pass0 ha hst hpl ht
end
end Xq

/-! What the law draws. -/
namespace Xq
open PySem PySem.Spec PyProof.Rows L2
def Prx {α : Type} (args : α → List V) (ask : α → Hp → VK → Prop) : Sp := fun vs H Q _ => ∃ a, vs = args a ∧ ask a H Q
theorem mkP {P : Program} {w : World} {K : PySem.W.Frag} {mg : Str → Option Value} {base : Heap} {α : Type} {args : α → List V} {ask : α → Hp → VK → Prop} {N ps : List Str} {x : Str} {st : Stmt} {k : Nat}
    (D : Df K mg x st) (S : FnScope N ps (defScope st))
    (hb : ∀ (kV doc pm : Value) (an : Option Addr) (cdv ct : Value) (us : List Value), us.length = ps.length → bindArgs (PySem.W.fnOf x x (defArgs st) (defBody st) (defScope st) .none kV doc pm an cdv ct) ⟨us, []⟩ = pure (ps.zip us))
    (hl : ∀ a : α, (args a).length = ps.length)
    (h : ∀ (f : Addr) (cdv : Value) (A : Around) (outer : List Env) (s : Shared) (H : Hp) (a : α) (Q : VK) (E : XK), Room k (A.deeper (envOfC x (defScope st) s.heap.objs.size f cdv)) → ask a H Q →
      ∃ t, PSs (cxOf CX0 P w K mg base N x (defScope st) f cdv A outer s H E).nox (defBody st) t ∧ t { nx := fun _ H' => Q .non H', rt := Q } (L2.start N (args a)) H) :
    Cal P w K mg base (k + 1) x ps (Prx args ask) := by
  obtain ⟨f, fd, F, m⟩ := D.ex
  have lk : ∃ oc od osl, K.lookup f = some ⟨oc, od, .func fd, osl⟩ := by
    obtain ⟨oc, od, kV, doc, pm, an, cdv, ct, osl, _, lk, _⟩ := F.ex
    exact ⟨oc, od, osl, lk⟩
  refine ⟨f, fd, F.ok S (fun vs H Q E h => ?_) (fun cdv A outer s H vs Q E hr hp => ?_), F.binds hb, m, F.kp, lk⟩
  · obtain ⟨a, rfl, _⟩ := h
    exact hl a
  · obtain ⟨a, rfl, hpre⟩ := hp
    exact h f cdv A outer s H a Q E hr hpre
theorem none_same' {H H' : Hp} {d : Addr} (s : Same H H') (h : H' d = none) : H d = none := by
  cases e : H d with
  | none => rfl
  | some u =>
    have := s d u e
    rw [h] at this
    cases this
/-- all but the one at r stays -/
def SameX (r : Addr) (H H' : Hp) : Prop := ∀ b o, b ≠ r → H b = some o → H' b = some o
theorem SameX.put {r : Addr} {H : Hp} {o : HO} : SameX r H (upd H r o) := fun b u n e => by
  rw [upd_ne n]
  exact e
/-- the tub's two ints at r -/
def RkI (H : Hp) (r : Addr) : Prop := ∃ a b, H r = some (.lst [.int a, .int b])
theorem RkI.same {H H' : Hp} {r : Addr} (s : Same H H') (h : RkI H r) : RkI H' r := by
  obtain ⟨a, b, e⟩ := h
  exact ⟨a, b, s _ _ e⟩
theorem SqL.sm {K : PySem.W.Frag} {H H' : Hp} {a : Addr} {xs : List V} (h : SqL K H a xs) (s : Same H H') : SqL K H' a xs :=
  h.elim (fun h => .inl (h.elim (fun h => .inl (s _ _ h)) fun ⟨o, h⟩ => .inr ⟨o, s _ _ h⟩)) .inr
section
variable {P : Program} {w : World} {K : PySem.W.Frag} {mg : Str → Option Value} {base : Heap}
abbrev nTu : List Str := ["_law_cells", "_law_turn", "_law_mixed", "_law_cell", "_law_own"]
theorem l122 : FnScope nTu ["_law_cells", "_law_turn"] (defScope (top 64)) := (⟨rfl, rfl, rfl, by decide +kernel, rfl, by decide +kernel, by decide +kernel⟩)
abbrev spTub (K : PySem.W.Frag) : Sp := Prx (α := Addr × List Int × Nat) (fun a => [.ref a.1, .int (a.2.2 : Int)]) (fun a H Q => SqL K H a.1 (a.2.1.map V.int) ∧ a.2.1.length ≤ 63 ∧ ∀ p H', Same H H' → H p = none → RkI H' p → Q (.ref p) H')
theorem c_tub (D : Df K mg "_law_tub" (top 64)) (B : Bl mg) : Cal P w K mg base 1 "_law_tub" ["_law_cells", "_law_turn"] (spTub K) := by
  refine mkP D l122 (fun _ _ _ _ _ _ us hl => match us, hl with | [_, _], _ => rfl) (fun _ => rfl) (fun f cdv A outer s H a Q E hr k => ?_)
  obtain ⟨a, ns, j⟩ := a
  obtain ⟨hS, hlen, k⟩ := k
  have hS : SqL K H a (ns.map V.int) := hS
  have hlen : ns.length ≤ 63 := hlen
  refine ⟨_, pss_cons ((ps_set (i := 2) (FnScope.nd l122) rfl (Or.inl rfl) (pe_op op_add pe_int (pe_op op_mul pe_int (pv 1)))))
    (pss_cons (ps_for PassesOwn.never rfl (pi_list (pe_slice sl_list (pv 0) po_none (po_some pe_int))) ((pg_name (i := 3) (FnScope.nd l122) rfl (Or.inl rfl)))
      (pss_one ((ps_set (i := 2) (FnScope.nd l122) rfl (Or.inl rfl) (pe_op op_mod (pe_callTy call_int1 (by rfl) B.int_ PyProof.Rows.boot_int (pa_cons (pe_op op_add (pe_op op_add (pe_op op_mul (pv 2) pe_int) (pv 3)) pe_int) pa_nil)) pe_int)))))
    (pss_cons ((ps_set (i := 4) (FnScope.nd l122) rfl (Or.inl rfl) (pe_ifExp ((pt_cmpR op_lt (pv 1) ((pe_callB call_len_seq (by rfl) (Bl.len_ B) PySem.boot_len (pa_cons (pv 0) pa_nil))) (nomark _))) ((pe_ix ix_list (pv 0) (pv 1) (fun _ _ => rfl))) pe_int)))
    (pss_one (ps_ret (pe_lst (pa_cons (pe_op op_mod (pe_callTy call_int1 (by rfl) B.int_ PyProof.Rows.boot_int (pa_cons (pe_op op_add (pe_op op_mul (pv 2) pe_int) (pv 4)) pa_nil)) pe_int)
      (pa_cons (pe_ifExp ((pt_cmpR op_ge (pe_callB call_abs (by rfl) B.abs_ PyProof.Rows.boot_abs (pa_cons (pv 4) pa_nil)) (pe_op op_pow pe_int pe_int) (nomark _))) (pe_callB call_abs (by rfl) B.abs_ PyProof.Rows.boot_abs (pa_cons (pv 4) pa_nil)) pe_int) pa_nil))))))), ?_⟩
  have e0 : L2.start nTu [V.ref a, V.int (j : Int)] = [some (.ref a), some (.int (j : Int)), none, none, none] := rfl
  rw [e0]
  obtain ⟨ms, ems, lms⟩ : ∃ ms : List Int, cutV (ns.map V.int) none (some 4) = ms.map V.int ∧ ms.length ≤ 63 := by
    refine ⟨(ns.drop (HT.sIx (ns.map V.int).length 0 none)).take (HT.sIx (ns.map V.int).length (ns.map V.int).length (some 4) - HT.sIx (ns.map V.int).length 0 none), ?_, ?_⟩
    · unfold cutV
      rw [List.map_take, List.map_drop]
    · rw [List.length_take, List.length_drop]
      omega
  refine ⟨_, rfl, _, _, rfl, rfl, .inl ⟨by decide, by decide⟩, _, _, rfl, rfl, ?_⟩
  refine ⟨_, rfl, _, rfl, a, _, rfl, hS, fun l nl => ⟨l, rfl, ?_⟩⟩
  rw [ems]
  have s1 := same_new (o := .lst (ms.map V.int)) nl
  refine ⟨⟨_, SqL.of upd_same⟩, for_list (xs := ms.map V.int) (fun i σ H' => H' = upd H l (.lst (ms.map V.int)) ∧ ∃ m z, σ = [some (.ref a), some (.int (j : Int)), some (.int m), z, none])
    ⟨rfl, _, _, rfl⟩ (fun i σ H' _ q => by rw [q.1]; exact SqL.of upd_same) ?_ ?_⟩
  · rintro i x σ H' hx ⟨rfl, m, z, rfl⟩
    rw [List.getElem?_map] at hx
    obtain ⟨y, _, rfl⟩ := Option.map_eq_some_iff.mp hx
    exact ⟨_, rfl, _, _, rfl, rfl, .inr ⟨by decide, by decide⟩, _, rfl, _, _, rfl, rfl, _, _, rfl, rfl, .inl ⟨_, rfl, _, _, rfl, rfl, (by show (0 : Int) < 2147482367; decide), rfl, _, _, rfl⟩⟩
  · rintro σ H' ⟨rfl, m, z, rfl⟩
    refine ⟨_, rfl, _, rfl, a, _, rfl, .inl (SqL.sm hS s1), _, _, rfl, rfl, _, rfl, ite2 (fun hb => ?a) (fun hb => ?b)⟩
    case' a =>
      have hj : j < ns.length := by
        have q := of_decide_eq_true hb
        rw [List.length_map] at q
        omega
      have hx : (ns.map V.int)[j]? = some (.int ns[j]) := by rw [List.getElem?_map, List.getElem?_eq_getElem hj]; rfl
      refine ⟨_, rfl, _, rfl, a, _, _, .int ns[j], rfl, rfl, SqL.sm hS s1, atI_nat hx, ?_⟩
    all_goals
      refine ⟨_, rfl, _, _, rfl, rfl, .inr ⟨by decide, by decide⟩, _, rfl, _, _, rfl, rfl, .inl ⟨_, rfl, _, _, rfl, rfl, (by show (0 : Int) < 2147482367; decide), ?_⟩⟩
      refine ⟨_, rfl, _, rfl, 10, 18, rfl, rfl, ⟨by decide, by decide, by decide⟩, _, _, rfl, rfl, _, rfl, ite2 (fun hb => ?_) (fun hb => ?_)⟩
      · refine ⟨_, rfl, _, rfl, (by show 2 ≤ sizeLine; decide), fun p np => k p _ (s1.trans (same_new np)) (none_same' s1 np) ⟨_, _, upd_same⟩⟩
      · refine ⟨(by show 2 ≤ sizeLine; decide), fun p np => k p _ (s1.trans (same_new np)) (none_same' s1 np) ⟨_, _, upd_same⟩⟩
abbrev nTa : List Str := ["_law_tub_here", "_law_amount", "_law_figure"]
theorem l123 : FnScope nTa ["_law_tub_here", "_law_amount"] (defScope (top 65)) := (⟨rfl, rfl, rfl, by decide +kernel, rfl, by decide +kernel, by decide +kernel⟩)
abbrev spTap : Sp := Prx (α := Addr × Int) (fun a => [.ref a.1, .int a.2]) (fun a H Q => RkI H a.1 ∧ 1 ≤ a.2 ∧ a.2 ≤ 1000 ∧ ∀ n H', SameX a.1 H H' → RkI H' a.1 → 0 ≤ n → n < a.2 → Q (.int n) H')
theorem c_tap (D : Df K mg "_law_tap" (top 65)) (B : Bl mg) (dm : mg "divmod" = none) : Cal P w K mg base 1 "_law_tap" ["_law_tub_here", "_law_amount"] spTap := by
  refine mkP D l123 (fun _ _ _ _ _ _ us hl => match us, hl with | [_, _], _ => rfl) (fun _ => rfl) (fun f cdv A outer s H a Q E hr k => ?_)
  obtain ⟨r, m⟩ := a
  obtain ⟨⟨a, b, hR⟩, m1, m2, k⟩ := k
  have m1 : 1 ≤ m := m1
  have m2 : m ≤ 1000 := m2
  have hR0 : H r = some (.lst [.int a, .int b]) := hR
  refine ⟨_, pss_cons (ps_if ((pt_cmpR op_gt ((pe_ix ix_list (pv 0) pe_int (fun _ _ => rfl))) pe_int (nomark _)))
      (pss_cons (ps_asg (pe_callB call_divmodW (by rfl) dm PyProof.Rows.boot_divmod (pa_cons ((pe_ix ix_list (pv 0) pe_int (fun _ _ => rfl))) (pa_cons (pv 1) pa_nil)))
          (pg_tup rfl (pgs_cons (pg_sub (pv 0) pe_int set_list (fun _ => rfl)) (pgs_cons ((pg_name (i := 2) (FnScope.nd l123) rfl (Or.inl rfl))) pgs_nil))))
        (pss_one (ps_ret (pv 2)))) pss_nil)
    (pss_cons (ps_asg (pe_op op_mod (pe_callTy call_int1 (by rfl) B.int_ PyProof.Rows.boot_int (pa_cons (pe_op op_add (pe_op op_mul ((pe_ix ix_list (pv 0) pe_int (fun _ _ => rfl))) pe_int) pe_int) pa_nil)) pe_int) (pg_sub (pv 0) pe_int set_list (fun _ => rfl)))
    (pss_one (ps_ret (pe_op op_mod (pe_callTy call_int1 (by rfl) B.int_ PyProof.Rows.boot_int (pa_cons (pe_op op_fdiv ((pe_ix ix_list (pv 0) pe_int (fun _ _ => rfl))) pe_int) pa_nil)) (pv 1))))), ?_⟩
  have e0 : L2.start nTa [V.ref r, V.int m] = [some (.ref r), some (.int m), none] := rfl
  rw [e0]
  refine ⟨_, rfl, r, _, 1, .int b, rfl, rfl, SqL.of hR0, atI_nat (j := 1) rfl, _, _, rfl, rfl, _, rfl, ?_⟩
  refine ite2 (fun hb => ?_) (fun hb => ?_)
  · refine ⟨_, rfl, r, _, 1, .int b, rfl, rfl, SqL.of hR0, atI_nat (j := 1) rfl, _, rfl, _, _, rfl, ⟨by omega, PyProof.noPylong_of_log2 (Nat.lt_of_lt_of_le (PySem.Flt.log2_lt_of (show 0 < 150 by decide) (show m.natAbs < 2 ^ 150 from Nat.lt_of_le_of_lt (show m.natAbs ≤ 1000 by omega) (by decide))) (by decide))⟩, fun p hp => ?_⟩
    have nrp : r ≠ p := fun e => by rw [← e, hR0] at hp; cases hp
    refine ⟨p, _, rfl, SqT.of upd_same, rfl, _, _, rfl, ?_⟩
    refine ⟨_, rfl, r, [.int a, .int b], 1, 1, rfl, rfl, (by rw [upd_ne nrp]; exact hR0), rfl, _, _, rfl, rfl, ?_⟩
    refine ⟨_, rfl, ?_⟩
    refine k (b % m) _ (fun b o n e => ?_) ⟨_, _, upd_same⟩ (Int.emod_nonneg _ (by omega)) (Int.emod_lt_of_pos _ (by omega))
    rw [upd_ne n, upd_ne (fun z => by rw [← z, e] at hp; cases hp)]
    exact e
  · refine ⟨_, rfl, r, _, 0, .int a, rfl, rfl, SqL.of hR0, atI_nat (j := 0) rfl, _, _, rfl, rfl, .inr ⟨by decide, by decide⟩, _, _, rfl, rfl, .inl ⟨_, rfl, _, _, rfl, rfl, (by show (0 : Int) < 2147482367; decide), ?_⟩⟩
    refine ⟨_, rfl, r, [.int a, .int b], 0, 0, rfl, rfl, hR0, rfl, ?_⟩
    refine ⟨_, rfl, r, _, 0, _, rfl, rfl, SqL.of upd_same, atI_nat (j := 0) rfl, ?_⟩
    refine ⟨_, _, rfl, rfl, ⟨by decide, by decide⟩, .inl ⟨_, rfl, ?_⟩⟩
    refine ⟨_, rfl, _, _, rfl, rfl, (by show (0 : Int) < m; omega), ?_⟩
    exact k _ _ SameX.put ⟨_, _, upd_same⟩ (Int.emod_nonneg _ (by omega)) (Int.emod_lt_of_pos _ (by omega))
end
end Xq

/-! _law_root_down. -/
namespace Xq
open PySem PySem.Spec PyProof.Rows L2
def rdS (n : Int) : Nat → Int → Int
  | 0, f => f
  | m + 1, f => if (f + 1) * (f + 1) ≤ n then rdS n m (f + 1) else f
def okRd (n : Int) : Nat → Int → Bool
  | 0, f => decide (n < (f + 1) * (f + 1))
  | m + 1, f => decide (n < (f + 1) * (f + 1)) || okRd n m (f + 1)
/-- what _law_root_down tells -/
def rdL (n : Int) : Int := rdS n 40 0
section
variable {P : Program} {w : World} {K : PySem.W.Frag} {mg : Str → Option Value} {base : Heap}
theorem l66 : FnScope ["_law_number", "_law_found"] ["_law_number"] (defScope (top 66)) := (⟨rfl, rfl, rfl, by decide +kernel, rfl, by decide +kernel, by decide +kernel⟩)
abbrev spRd : Sp := Prm (α := Int) (fun n => [.int n]) (fun n _ => okRd n 40 0 = true) (fun n H v H' => v = .int (rdL n) ∧ H' = H)
theorem c_rd (D : Df K mg "_law_root_down" (top 66)) : Cal P w K mg base 1 "_law_root_down" ["_law_number"] spRd := by
  refine mkC D l66 (fun _ _ _ _ _ _ us hl => match us, hl with | [_], _ => rfl) (fun _ => rfl) (fun f cdv A outer s H n Q E hr ok k => ?_)
  have ok : okRd n 40 0 = true := ok
  have k : ∀ v H', Same H H' → (v = .int (rdL n) ∧ H' = H) → Q v H' := k
  refine ⟨_, pss_cons ((ps_set (i := 1) (FnScope.nd l66) rfl (Or.inl rfl) pe_int))
    (pss_cons (ps_whI PassesOwn.never (pt_cmpR op_le (pe_op op_mulW (pe_op op_add (pv 1) pe_int) (pe_op op_add (pv 1) pe_int)) (pv 0) (nomark _))
      (pss_one ((ps_set (i := 1) (FnScope.nd l66) rfl (Or.inl rfl) (pe_op op_add (pv 1) pe_int)))))
    (pss_one (ps_ret (pv 1)))), ?_⟩
  refine ⟨fun m σ H' => ∃ f : Int, σ = [some (.int n), some (.int f)] ∧ H' = H ∧ okRd n m f = true ∧ rdS n m f = rdL n ∧ 0 ≤ f ∧ f + m ≤ 40, ⟨40, 0, rfl, rfl, ok, rfl, by decide, by decide⟩, ?_⟩
  rintro m σ H' ⟨f, rfl, rfl, o1, e1, f0, f1⟩
  have sm1 : Sm 20 (f + 1) := by
    unfold Sm
    have : (f + 1).natAbs ≤ 41 := by omega
    exact Nat.lt_of_le_of_lt this (by decide)
  refine ⟨_, rfl, _, _, rfl, rfl, _, rfl, _, _, rfl, rfl, _, _, rfl, rfl, cm sm1 sm1, _, rfl, _, _, rfl, rfl, _, rfl, ?_⟩
  by_cases h : (f + 1) * (f + 1) ≤ n
  · rw [decide_eq_true h]
    cases m with
    | zero => exact absurd (of_decide_eq_true o1) (by omega)
    | succ m =>
      have o2 : okRd n m (f + 1) = true := by
        rcases Bool.or_eq_true_iff.mp o1 with z | z
        · exact absurd (of_decide_eq_true z) (by omega)
        · exact z
      refine iteT ⟨_, rfl, _, _, rfl, rfl, m, Nat.lt_succ_self m, f + 1, rfl, rfl, o2, ?_, by omega, by omega⟩
      rw [← e1]
      exact (if_pos h).symm
  · rw [decide_eq_false h]
    have e2 : rdS n m f = f := by
      cases m with
      | zero => rfl
      | succ m => exact if_neg h
    rw [e2] at e1
    refine iteF ⟨_, rfl, k _ _ (Same.refl _) ⟨?_, rfl⟩⟩
    rw [e1]
end
end Xq

/-! Shape.of's reckoning with its results given: what is asked is asked of literals. -/
namespace Xq
open PySem PySem.Spec PyProof.Rows L2
/-- Shape.of tells the shape t: rank r of ls -/
def okOfL (xs : List Int) (a b c d : Int) (ls : List Int) (r : Int) (t : Str) : Bool := okE xs && okSt a b c d && okFw xs a b c d && decide (fwL xs a b c d = some ls) && decide (rlL ls c d = r) && decide (txL r ls = t) &&
  (ls.all fun x => decide (-1000 ≤ x) && decide (x ≤ 1000)) && decide (ls.length ≤ 1000) && okRl ls c d && okTx r ls && okT t r ls && okStr ls r
theorem okOf_L {xs : List Int} {a b c d : Int} {ls : List Int} {r : Int} {t : Str} (h : okOfL xs a b c d ls r t = true) : okOf xs a b c d = true ∧ ofL xs a b c d = ls ∧ ofR xs a b c d = r ∧ ofT xs a b c d = t := by
  unfold okOfL at h
  simp only [Bool.and_eq_true, decide_eq_true_eq] at h
  obtain ⟨⟨⟨⟨⟨⟨⟨⟨⟨⟨⟨h1, h2⟩, h3⟩, h4⟩, h5⟩, h6⟩, h7⟩, h8⟩, h9⟩, h10⟩, h11⟩, h12⟩ := h
  have e1 : ofL xs a b c d = ls := by
    unfold ofL
    rw [h4]
    rfl
  have e2 : ofR xs a b c d = r := by
    unfold ofR
    rw [e1, h5]
  have e3 : ofT xs a b c d = t := by
    unfold ofT
    rw [e1, e2, h6]
  refine ⟨?_, e1, e2, e3⟩
  unfold okOf
  rw [e1, e2, e3, h4]
  simp only [Bool.and_eq_true, decide_eq_true_eq]
  exact ⟨⟨⟨⟨⟨⟨⟨⟨⟨h1, h2⟩, h3⟩, rfl⟩, h7⟩, h8⟩, h9⟩, h10⟩, h11⟩, h12⟩
end Xq

/-! Texts of shapes, for any equation: what is asked of them holds by itself. -/
namespace Xq
open PySem PySem.Spec PyProof.Rows L2
theorem sp_tl : TL.tl (Str.ofString " ") = [32] := rfl
theorem tl_words : ∀ xs : List Int, TL.tl (wordsL xs) = TL.joinL [32] ((xs.map W).map TL.tl) := fun xs => by
  unfold wordsL
  rw [TL.join_eq, TL.tl_join, sp_tl]
theorem tl_root : TL.tl (Str.empty ++ Str.ofString "root ") = [114, 111, 111, 116, 32] := rfl
theorem tl_tx (r : Int) (xs : List Int) : TL.tl (txL r xs) = [114, 111, 111, 116, 32] ++ (TL.tl (W r) ++ ([32, 111, 102, 32] ++ TL.joinL [32] ((xs.map W).map TL.tl))) := by
  unfold txL
  rw [TL.tl_append, TL.tl_append, TL.tl_append, tl_root, tl_words, List.append_assoc, List.append_assoc]
  rfl
theorem tx_join (r : Int) {xs : List Int} (h : xs ≠ []) : txL r xs = Txt.join (Str.ofString " ") (Str.ofString "root" :: W r :: Str.ofString "of" :: xs.map W) := by
  refine TL.ext_tl ?_
  rw [tl_tx, TL.join_eq, TL.tl_join, sp_tl]
  cases xs with
  | nil => exact absurd rfl h
  | cons x l => 
    show _ = [114, 111, 111, 116] ++ ([32] ++ (TL.tl (W r) ++ ([32] ++ ([111, 102] ++ ([32] ++ TL.joinL [32] (((x :: l).map W).map TL.tl))))))
    simp only [List.cons_append, List.nil_append, List.append_assoc]
theorem split_tx (r : Int) {xs : List Int} (h : xs ≠ []) : Txt.split (txL r xs) (Str.ofString " ") = Str.ofString "root" :: W r :: Str.ofString "of" :: xs.map W := by
  rw [tx_join r h]
  refine TL.split_join (s := 32) (S := []) rfl (by decide +kernel) (by simp) ?_
  intro p hp
  rcases List.mem_cons.mp hp with rfl | hp
  · decide
  rcases List.mem_cons.mp hp with rfl | hp
  · exact free32 r
  rcases List.mem_cons.mp hp with rfl | hp
  · decide
  obtain ⟨x, _, rfl⟩ := List.mem_map.mp hp
  exact free32 x
theorem joinL_len : ∀ ps : List (List Nat), (TL.joinL [32] ps).length ≤ (ps.map (·.length)).sum + ps.length
  | [] => by decide
  | [p] => by
    show p.length ≤ p.length + 0 + 1
    omega
  | p :: q :: r => by
    have h := joinL_len (q :: r)
    show (p ++ ([32] ++ TL.joinL [32] (q :: r))).length ≤ _
    rw [List.length_append, List.length_append, List.map_cons, List.sum_cons]
    have e : (p :: q :: r).length = (q :: r).length + 1 := rfl
    rw [e]
    show p.length + (1 + _) ≤ _
    omega
theorem sum_le {c : Nat} : ∀ {l : List Nat}, (∀ x ∈ l, x ≤ c) → l.sum ≤ c * l.length
  | [], _ => by simp
  | x :: l, h => by
    have h1 := h x List.mem_cons_self
    have h2 := sum_le (l := l) fun y hy => h y (List.mem_cons_of_mem _ hy)
    rw [List.sum_cons, List.length_cons, Nat.mul_succ]
    omega
/-- the terms and the rank are small -/
def smX (xs : List Int) : Bool := decide (xs.length ≤ 6) && xs.all fun x => decide (x.natAbs ≤ 1000)
theorem smX_ok {xs : List Int} (h : smX xs = true) : xs.length ≤ 6 ∧ ∀ x ∈ xs, x.natAbs ≤ 1000 := by
  obtain ⟨h1, h2⟩ := Bool.and_eq_true_iff.mp h
  exact ⟨of_decide_eq_true h1, fun x hx => of_decide_eq_true (List.all_eq_true.mp h2 x hx)⟩
theorem words_sum {xs : List Int} (h6 : xs.length ≤ 6) (hx : ∀ x ∈ xs, x.natAbs ≤ 1000) : ((xs.map W).map (·.length)).sum ≤ 30 := by
  have h := sum_le (c := 5) (l := (xs.map W).map (·.length)) fun y hy => by
    obtain ⟨z, hz, rfl⟩ := List.mem_map.mp hy
    obtain ⟨x, hx', rfl⟩ := List.mem_map.mp hz
    exact w_len (hx x hx')
  rw [List.length_map, List.length_map] at h
  omega
theorem words_len {xs : List Int} (h6 : xs.length ≤ 6) (hx : ∀ x ∈ xs, x.natAbs ≤ 1000) : (wordsL xs).length ≤ 36 := by
  rw [TL.len_tl, tl_words]
  have h := joinL_len ((xs.map W).map TL.tl)
  have e : (((xs.map W).map TL.tl).map (·.length)) = (xs.map W).map (·.length) := by
    rw [List.map_map]
    refine List.map_congr_left fun s _ => ?_
    exact (TL.len_tl s).symm
  rw [e, List.length_map, List.length_map] at h
  have := words_sum h6 hx
  omega
theorem tx_len {r : Int} {xs : List Int} (hr : r.natAbs ≤ 1000) (h6 : xs.length ≤ 6) (hx : ∀ x ∈ xs, x.natAbs ≤ 1000) : (txL r xs).length ≤ 50 := by
  have hw := words_len h6 hx
  have hr' := w_len hr
  rw [TL.len_tl] at hw hr' ⊢
  rw [tl_words] at hw
  rw [tl_tx]
  simp only [List.length_append, List.length_cons, List.length_nil]
  omega
theorem okTx_of {r : Int} {xs : List Int} (hr : r.natAbs ≤ 1000) (h6 : xs.length ≤ 6) (hx : ∀ x ∈ xs, x.natAbs ≤ 1000) : okTx r xs = true := by
  have k10 : ∀ {n : Nat}, n ≤ 1000 → n < 2 ^ 1000 := fun {n} h => Nat.lt_of_le_of_lt h (by decide)
  have e1 : (Str.empty ++ Str.ofString "root ").length = 5 := rfl
  have e2 : (Str.ofString " of ").length = 4 := rfl
  have e3 : (Str.ofString " ").length = 1 := rfl
  have app : ∀ a b : Str, (a ++ b).length = a.length + b.length := fun a b => by
    rw [TL.len_tl, TL.len_tl, TL.len_tl, TL.tl_append, List.length_append]
  have hw := w_len hr
  unfold okTx
  simp only [Bool.and_eq_true, decide_eq_true_eq]
  refine ⟨⟨⟨⟨⟨⟨⟨⟨k10 hr, List.all_eq_true.mpr fun x h => decide_eq_true (k10 (hx x h))⟩, by omega⟩, ?_⟩, ?_⟩, ?_⟩, ?_⟩, Nat.le_trans (tx_len hr h6 hx) (by decide)⟩, Nat.le_trans (words_len h6 hx) (by decide)⟩
  · have := words_sum h6 hx
    rw [e3, List.length_map]
    omega
  · rw [e1]
    decide
  · rw [app, e1]
    omega
  · rw [app, app, e1, e2]
    omega
theorem W_inj {i j : Int} (hi : i.natAbs ≤ 1000) (hj : j.natAbs ≤ 1000) (h : W i = W j) : i = j := by
  have a := w_int hi
  rw [h, w_int hj] at a
  exact (Option.some.inj a).symm
/-- unlike shapes have unlike texts -/
theorem tx_inj {r r' : Int} {xs ys : List Int} (hr : r.natAbs ≤ 1000) (hr' : r'.natAbs ≤ 1000) (hx : ∀ x ∈ xs, x.natAbs ≤ 1000) (hy : ∀ x ∈ ys, x.natAbs ≤ 1000) (nx : xs ≠ []) (ny : ys ≠ []) (h : txL r xs = txL r' ys) : r = r' ∧ xs = ys := by
  have e := split_tx r nx
  rw [h, split_tx r' ny] at e
  injection e with _ e
  injection e with e1 e
  injection e with _ e
  refine ⟨(W_inj hr' hr e1).symm, ?_⟩
  clear nx ny h
  induction xs generalizing ys with
  | nil => cases ys with
    | nil => rfl
    | cons y l => cases e
  | cons x l ih => cases ys with
    | nil => cases e
    | cons y l' =>
      rw [List.map_cons, List.map_cons] at e
      injection e with e1 e2
      rw [W_inj (hy y List.mem_cons_self) (hx x List.mem_cons_self) e1, ih (fun z hz => hx z (List.mem_cons_of_mem _ hz)) (fun z hz => hy z (List.mem_cons_of_mem _ hz)) e2]
end Xq

/-! guessed and refined in general: where the sign changes once in a stretch, the floor is told. -/
namespace Xq
open PySem PySem.Spec PyProof.Rows L2
theorem foV_smK {K : Nat} {t b : Int} (ht : Sm K t) (hb : Sm K b) : ∀ (l : List Int), (∀ x ∈ l, Sm K x) → ∀ (k : Nat) (a : Int × Int), Sm k a.1 → Sm k a.2 → Sm (k + (K + 1) * l.length) (l.foldl (stV t b) a).1 ∧ Sm (k + (K + 1) * l.length) (l.foldl (stV t b) a).2
  | [], _, k, a, h1, h2 => ⟨h1, h2⟩
  | x :: l, hx, k, a, h1, h2 => by
    have hx0 := hx x List.mem_cons_self
    have q := foV_smK ht hb l (fun y hy => hx y (List.mem_cons_of_mem _ hy)) (k + (K + 1)) (stV t b a x) (sm_add (a := k + K) (sm_mul h1 ht) (sm_le (sm_mul hx0 h2) (by omega))) (sm_le (sm_mul h2 hb) (by omega))
    have e : k + (K + 1) + (K + 1) * l.length = k + (K + 1) * (x :: l).length := by
      rw [List.length_cons, Nat.mul_succ]
      omega
    rw [e] at q
    exact q
theorem val_sm {K : Nat} {xs : List Int} {t b : Int} (ht : Sm K t) (hb : Sm K b) (hx : ∀ x ∈ xs, Sm K x) : Sm (1 + (K + 1) * xs.length) (valL xs t b) := by
  have q := foV_smK ht hb xs.reverse (fun x h => hx x (List.mem_reverse.mp h)) 1 (0, 1) (by decide) (by decide)
  rw [List.length_reverse] at q
  exact q.1
theorem okVB_of {xs : List Int} {t b : Int} (l1 : 1 ≤ xs.length) (l8 : xs.length ≤ 8) (ht : Sm 900 t) (hb : Sm 900 b) (hx : ∀ x ∈ xs, Sm 900 x) : okVB xs t b = true := by
  have k : ∀ {x : Int}, Sm 900 x → smI 4000 x = true := fun {x} h => decide_eq_true (sm_le h (by decide))
  unfold okVB smB
  rw [decide_eq_true l1, decide_eq_true l8, k ht, k hb]
  exact List.all_eq_true.mpr fun x h => decide_eq_true (sm_le (hx x h) (by decide))
/-- in a stretch the sign changes once, at no fraction of a power of 2 -/
structure Fl (xs : List Int) (s : Bool) (F : Nat → Int) (b0 : Nat) : Prop where
  st : ∀ b, b0 ≤ b → F (b + 1) = 2 * F b ∨ F (b + 1) = 2 * F b + 1
  sg : ∀ b t, b0 ≤ b → F b0 * 2 ^ (b - b0) ≤ t → t ≤ (F b0 + 1) * 2 ^ (b - b0) → (ng xs t (pw b) = s ↔ t ≤ F b)
  nz : ∀ b t, b0 ≤ b → F b0 * 2 ^ (b - b0) ≤ t → t ≤ (F b0 + 1) * 2 ^ (b - b0) → valL xs t (pw b) ≠ 0
  l3 : 3 ≤ xs.length
  l8 : xs.length ≤ 8
  sm : ∀ x ∈ xs, Sm 30 x
  f0 : 0 ≤ F b0
  f1 : F b0 < 2 ^ 30
theorem two_pos (k : Nat) : (0 : Int) < 2 ^ k := Int.pow_pos (by decide)
theorem two_add (a b : Nat) : (2 : Int) ^ (a + b) = 2 ^ a * 2 ^ b := Int.pow_add ..
section
variable {xs : List Int} {s : Bool} {F : Nat → Int} {b0 : Nat}
theorem Fl.up (h : Fl xs s F b0) {b : Nat} (hb : b0 ≤ b) : ∀ j, F b * 2 ^ j ≤ F (b + j) ∧ F (b + j) + 1 ≤ (F b + 1) * 2 ^ j
  | 0 => by
    show F b * 1 ≤ F b ∧ F b + 1 ≤ (F b + 1) * 1
    omega
  | j + 1 => by
    obtain ⟨h1, h2⟩ := h.up hb j
    have e : (2 : Int) ^ (j + 1) = 2 ^ j * 2 := Int.pow_succ ..
    have a1 : F b * 2 ^ (j + 1) = F b * 2 ^ j * 2 := by rw [e, Int.mul_assoc]
    have a2 : (F b + 1) * 2 ^ (j + 1) = (F b + 1) * 2 ^ j * 2 := by rw [e, Int.mul_assoc]
    rw [a1, a2]
    show _ ≤ F (b + j + 1) ∧ F (b + j + 1) + 1 ≤ _
    rcases h.st (b + j) (by omega) with z | z <;> rw [z] <;> omega
/-- the finer stretch lies in the first one -/
theorem Fl.rng (h : Fl xs s F b0) {b k : Nat} (hb : b0 ≤ b) {t : Int} (h1 : F b * 2 ^ k ≤ t) (h2 : t ≤ (F b + 1) * 2 ^ k) : F b0 * 2 ^ (b + k - b0) ≤ t ∧ t ≤ (F b0 + 1) * 2 ^ (b + k - b0) := by
  obtain ⟨j, rfl⟩ : ∃ j, b = b0 + j := ⟨b - b0, by omega⟩
  obtain ⟨u1, u2⟩ := h.up (Nat.le_refl b0) j
  have e : b0 + j + k - b0 = j + k := by omega
  have p := two_pos k
  rw [e, two_add, ← Int.mul_assoc, ← Int.mul_assoc]
  exact ⟨Int.le_trans (Int.mul_le_mul_of_nonneg_right u1 (Int.le_of_lt p)) h1, Int.le_trans h2 (Int.mul_le_mul_of_nonneg_right u2 (Int.le_of_lt p))⟩
theorem Fl.sg' (h : Fl xs s F b0) {b k : Nat} (hb : b0 ≤ b) {t : Int} (h1 : F b * 2 ^ k ≤ t) (h2 : t ≤ (F b + 1) * 2 ^ k) : (ng xs t (pw (b + k)) = s ↔ t ≤ F (b + k)) ∧ valL xs t (pw (b + k)) ≠ 0 := by
  obtain ⟨r1, r2⟩ := h.rng hb h1 h2
  exact ⟨h.sg (b + k) t (by omega) r1 r2, h.nz (b + k) t (by omega) r1 r2⟩
theorem sm_of {a : Nat} {t : Int} (h0 : 0 ≤ t) (h1 : t < 2 ^ a) : Sm a t := by
  obtain ⟨n, rfl⟩ := Int.eq_ofNat_of_zero_le h0
  show n < 2 ^ a
  have e : ((2 : Int) ^ a) = ((2 ^ a : Nat) : Int) := by rw [Int.natCast_pow]; rfl
  rw [e] at h1
  exact Int.ofNat_lt.mp h1
/-- all that lies in the first stretch is small -/
theorem Fl.small (h : Fl xs s F b0) {b : Nat} (hb : b0 ≤ b) (lb : b ≤ 800) {t : Int} (h1 : F b0 * 2 ^ (b - b0) ≤ t) (h2 : t ≤ (F b0 + 1) * 2 ^ (b - b0)) : Sm 900 t ∧ 0 ≤ t := by
  have p := two_pos (b - b0)
  have t0 : 0 ≤ t := Int.le_trans (Int.mul_nonneg h.f0 (Int.le_of_lt p)) h1
  refine ⟨sm_of t0 (Int.lt_of_le_of_lt h2 ?_), t0⟩
  have a1 : (F b0 + 1) * 2 ^ (b - b0) ≤ 2 ^ 30 * 2 ^ (b - b0) := Int.mul_le_mul_of_nonneg_right (by have := h.f1; omega) (Int.le_of_lt p)
  refine Int.lt_of_le_of_lt a1 ?_
  rw [← two_add]
  exact Int.pow_lt_pow_of_lt (by decide) (by omega)
theorem pw_sm {b : Nat} (lb : b ≤ 800) : Sm 900 (pw b) := by
  have e : pw b = 2 ^ b := Int.one_mul _
  rw [e]
  exact sm_of (Int.le_of_lt (two_pos b)) (Int.pow_lt_pow_of_lt (by decide) (by omega))
theorem Fl.okv (h : Fl xs s F b0) {b : Nat} (hb : b0 ≤ b) (lb : b ≤ 800) {t : Int} (h1 : F b0 * 2 ^ (b - b0) ≤ t) (h2 : t ≤ (F b0 + 1) * 2 ^ (b - b0)) : okVB xs t (pw b) = true :=
  okVB_of (by have := h.l3; omega) h.l8 (h.small hb lb h1 h2).1 (pw_sm lb) fun x hx => sm_le (h.sm x hx) (by decide)
theorem Fl.val8 (h : Fl xs s F b0) {b : Nat} (hb : b0 ≤ b) (lb : b ≤ 800) {t : Int} (h1 : F b0 * 2 ^ (b - b0) ≤ t) (h2 : t ≤ (F b0 + 1) * 2 ^ (b - b0)) : Sm 7900 (valL xs t (pw b)) := by
  have q := val_sm (K := 900) (h.small hb lb h1 h2).1 (pw_sm lb) fun x hx => sm_le (h.sm x hx) (by decide)
  have := h.l8
  exact sm_le q (by omega)
theorem fdiv_in {X Y : Int} {k : Nat} (h : (X < 0 ∧ 0 < Y) ∨ (0 < X ∧ Y < 0)) : 0 ≤ (X * 2 ^ k).fdiv (X - Y) ∧ (X * 2 ^ k).fdiv (X - Y) < 2 ^ k := by
  have p := two_pos k
  have main : ∀ {a d : Int}, 0 ≤ a → a < d → 0 ≤ (a * 2 ^ k).fdiv d ∧ (a * 2 ^ k).fdiv d < 2 ^ k := fun {a d} h1 h2 => by
    rw [Int.fdiv_eq_ediv_of_nonneg _ (by omega)]
    refine ⟨Int.ediv_nonneg (Int.mul_nonneg h1 (Int.le_of_lt p)) (by omega), Int.ediv_lt_of_lt_mul (by omega) ?_⟩
    rw [Int.mul_comm]
    exact Int.mul_lt_mul_of_pos_left h2 p
  rcases h with ⟨h1, h2⟩ | ⟨h1, h2⟩
  · have e : (X * 2 ^ k).fdiv (X - Y) = ((-X) * 2 ^ k).fdiv (Y - X) := by
      rw [← Int.neg_fdiv_neg, Int.neg_mul, Int.neg_sub]
    rw [e]
    exact main (by omega) (by omega)
  · exact main (by omega) (by omega)
theorem Fl.gue (h : Fl xs s F b0) {b k : Nat} (hb : b0 ≤ b) (k1 : 1 ≤ k) (lb : b + k ≤ 800) :
    okG xs (F b) b k = true ∧ (gueL xs (F b) b k = none ∨ gueL xs (F b) b k = some (F (b + k))) ∧ (k = 1 → gueL xs (F b) b k = some (F (b + k))) := by
  have p := two_pos k
  -- both ends
  have A0 : F b * 2 ^ 0 ≤ F b := by show F b * 1 ≤ _; omega
  have A1 : F b ≤ (F b + 1) * 2 ^ 0 := by show F b ≤ (F b + 1) * 1; omega
  have B0 : F b * 2 ^ 0 ≤ F b + 1 := by show F b * 1 ≤ _; omega
  have B1 : F b + 1 ≤ (F b + 1) * 2 ^ 0 := by show F b + 1 ≤ (F b + 1) * 1; omega
  obtain ⟨sA, nA⟩ := h.sg' hb A0 A1
  obtain ⟨sB, nB⟩ := h.sg' hb B0 B1
  have sA : ng xs (F b) (pw b) = s := sA.mpr (Int.le_refl _)
  have sB : ¬ ng xs (F b + 1) (pw b) = s := fun e => by
    have z : F b + 1 ≤ F b := sB.mp e
    omega
  have nA : valL xs (F b) (pw b) ≠ 0 := nA
  have nB : valL xs (F b + 1) (pw b) ≠ 0 := nB
  have opp : (valL xs (F b) (pw b) < 0 ∧ 0 < valL xs (F b + 1) (pw b)) ∨ (0 < valL xs (F b) (pw b) ∧ valL xs (F b + 1) (pw b) < 0) := by
    rw [← sA] at sB
    unfold ng at sB
    by_cases c1 : valL xs (F b) (pw b) < 0
    · by_cases c2 : valL xs (F b + 1) (pw b) < 0
      · rw [decide_eq_true c1, decide_eq_true c2] at sB
        exact absurd rfl sB
      · exact .inl ⟨c1, by omega⟩
    · by_cases c2 : valL xs (F b + 1) (pw b) < 0
      · exact .inr ⟨by omega, c2⟩
      · rw [decide_eq_false c1, decide_eq_false c2] at sB
        exact absurd rfl sB
  obtain ⟨q0, q1⟩ := fdiv_in (k := k) opp
  have eP : plc xs (F b) b k = F b * 2 ^ k + (valL xs (F b) (pw b) * 2 ^ k).fdiv (valL xs (F b) (pw b) - valL xs (F b + 1) (pw b)) := rfl
  have eM : (F b + 1) * 2 ^ k = F b * 2 ^ k + 2 ^ k := by rw [Int.add_mul, Int.one_mul]
  obtain ⟨u1, u2⟩ := h.up hb k
  generalize hP : plc xs (F b) b k = Pl at *
  have P0 : F b * 2 ^ k ≤ Pl := by omega
  have P1 : Pl + 1 ≤ (F b + 1) * 2 ^ k := by omega
  have sP : ng xs Pl (pw (b + k)) = s ↔ Pl ≤ F (b + k) := (h.sg' hb P0 (by omega)).1
  have sP1 : ng xs (Pl + 1) (pw (b + k)) = s ↔ Pl + 1 ≤ F (b + k) := (h.sg' hb (by omega) P1).1
  have eA : adj xs (F b) b k = if Pl ≤ F (b + k) then (if Pl + 1 ≤ F (b + k) then Pl + 1 else Pl) else Pl - 1 := by
    unfold adj
    rw [hP, sA]
    by_cases c1 : Pl ≤ F (b + k)
    · rw [if_pos (sP.mpr c1), if_pos c1]
      by_cases c2 : Pl + 1 ≤ F (b + k)
      · rw [if_pos (sP1.mpr c2), if_pos c2]
      · rw [if_neg (fun z => c2 (sP1.mp z)), if_neg c2]
    · rw [if_neg (fun z => c1 (sP.mp z)), if_neg c1]
  have J0 : F b * 2 ^ k ≤ adj xs (F b) b k := by
    rw [eA]
    split
    · split <;> omega
    · omega
  have J1 : adj xs (F b) b k + 1 ≤ (F b + 1) * 2 ^ k := by
    rw [eA]
    split
    · split <;> omega
    · omega
  have sJ : ng xs (adj xs (F b) b k) (pw (b + k)) = s ↔ adj xs (F b) b k ≤ F (b + k) := (h.sg' hb J0 (by omega)).1
  have sJ1 : ng xs (adj xs (F b) b k + 1) (pw (b + k)) = s ↔ adj xs (F b) b k + 1 ≤ F (b + k) := (h.sg' hb (by omega) J1).1
  have eG : gueL xs (F b) b k = if adj xs (F b) b k = F (b + k) then some (F (b + k)) else none := by
    unfold gueL
    rw [sA]
    by_cases c1 : adj xs (F b) b k = F (b + k)
    · rw [if_pos (sJ.mpr (by omega)), if_neg (fun z => absurd (sJ1.mp z) (by omega)), if_pos c1, c1]
    · rw [if_neg c1]
      by_cases c2 : adj xs (F b) b k ≤ F (b + k)
      · rw [if_pos (sJ.mpr c2), if_pos (sJ1.mpr (by omega))]
      · rw [if_neg (fun z => c2 (sJ.mp z))]
  refine ⟨?_, ?_, ?_⟩
  · have bb : b ≤ 800 := by omega
    have rA := h.rng (k := 0) hb A0 A1
    have rB := h.rng (k := 0) hb B0 B1
    have rP := h.rng (k := k) hb P0 (by omega)
    have rP1 := h.rng (k := k) (t := Pl + 1) hb (by omega) P1
    have rJ := h.rng (k := k) hb J0 (by omega)
    have rJ1 := h.rng (k := k) (t := adj xs (F b) b k + 1) hb (by omega) J1
    have v1 := h.val8 hb bb rA.1 rA.2
    have v2 := h.val8 hb bb rB.1 rB.2
    unfold okG
    simp only [Bool.and_eq_true, decide_eq_true_eq, Bool.not_eq_true', decide_eq_false_iff_not]
    refine ⟨⟨⟨⟨⟨⟨⟨⟨⟨⟨decide_eq_true (sm_le (h.small hb bb rA.1 rA.2).1 (by decide)), by omega⟩, h.okv hb bb rA.1 rA.2⟩, h.okv hb bb rB.1 rB.2⟩, by omega⟩, decide_eq_true (sm_le v1 (by decide))⟩, decide_eq_true (sm_le (sm_sub v1 v2) (by decide))⟩,
      ?_⟩, ?_⟩, h.okv (by omega) lb rJ.1 rJ.2⟩, h.okv (by omega) lb rJ1.1 rJ1.2⟩
    · rw [hP]
      exact h.okv (by omega) lb rP.1 rP.2
    · rw [hP]
      exact h.okv (by omega) lb rP1.1 rP1.2
  · rw [eG]
    split
    · exact .inr rfl
    · exact .inl rfl
  · rintro rfl
    have e2 : (2 : Int) ^ 1 = 2 := rfl
    rw [eG, if_pos]
    rw [eA]
    rw [e2] at *
    split
    · split <;> omega
    · omega
theorem Fl.ref (h : Fl xs s F b0) {wd : Nat} (lw : wd ≤ 800) : ∀ (n b st : Nat), b0 ≤ b → b ≤ wd → 1 ≤ st → 2 * (wd - b) + min st (wd - b) ≤ n → okF xs wd n (F b) b st = true ∧ refS xs wd n (F b) b st = (F wd, wd)
  | 0, b, st, hb, hw, h1, hn => by
    have e : b = wd := by omega
    subst e
    exact ⟨decide_eq_true (Nat.le_refl _), rfl⟩
  | n + 1, b, st, hb, hw, h1, hn => by
    unfold okF refS
    by_cases e : wd ≤ b
    · have e' : b = wd := by omega
      subst e'
      rw [decide_eq_true e, if_pos e]
      exact ⟨rfl, rfl⟩
    · rw [decide_eq_false e, if_neg e, Bool.false_or]
      obtain ⟨o, d, one⟩ := h.gue (k := min st (wd - b)) hb (by omega) (by omega)
      rw [o, Bool.true_and]
      rcases d with d | d
      · rw [d]
        have k2 : 2 ≤ min st (wd - b) := by
          rcases Nat.lt_or_ge 1 (min st (wd - b)) with z | z
          · exact z
          · have := one (by omega)
            rw [d] at this
            cases this
        exact h.ref lw n b (min st (wd - b) / 2) hb hw (by omega) (by omega)
      · rw [d]
        exact h.ref lw n (b + min st (wd - b)) (2 * min st (wd - b)) (by omega) (by omega) (by omega) (by omega)
theorem Fl.refL (h : Fl xs s F b0) {wd : Nat} (lw : wd ≤ 800) (hw : b0 ≤ wd) : okRf xs (F b0) b0 wd = true ∧ refL xs (F b0) b0 wd = F wd := by
  obtain ⟨h1, h2⟩ := h.ref lw 20000 b0 1 (Nat.le_refl _) hw (Nat.le_refl _) (by omega)
  have l3 := h.l3
  have l8 := h.l8
  unfold okRf Xq.refL
  rw [if_neg (by omega), if_neg (by omega), h1, h2, decide_eq_true (show xs.length ≤ 1000 by omega), decide_eq_true (show wd ≤ 4000 by omega), Nat.sub_self]
  refine ⟨rfl, ?_⟩
  show F wd / 1 = F wd
  omega
end
end Xq

/-! Quadratic equations c + m x + x x: values, the chain, changes. -/
namespace Xq
open PySem PySem.Spec PyProof.Rows L2
theorem val3 (c m t b : Int) : valL [c, m, 1] t b = (t + m * b) * t + c * (b * b) := by
  show (((0 * t + 1 * 1) * t + m * (1 * b)) * t + c * (1 * b * b)) = _
  simp only [Int.zero_mul, Int.zero_add, Int.one_mul, Int.mul_one]
theorem val2 (m t b : Int) : valL [m, 2] t b = 2 * t + m * b := by
  show ((0 * t + 2 * 1) * t + m * (1 * b)) = _
  simp only [Int.zero_mul, Int.zero_add, Int.one_mul, Int.mul_one]
theorem val1 (t b : Int) : valL [1] t b = 1 := by
  show (0 * t + 1 * 1) = _
  simp only [Int.zero_mul, Int.zero_add, Int.one_mul]
def dis (c m : Int) : Int := m * m - 4 * c
theorem four (c m t b : Int) : 4 * valL [c, m, 1] t b = (2 * t + m * b) * (2 * t + m * b) - dis c m * (b * b) := by
  rw [val3]
  unfold dis
  grind
theorem nsq {D : Int} (h : ∀ u : Int, u * u ≠ D) : ∀ (k : Nat) (u : Int), u * u ≠ D * (2 ^ k * 2 ^ k)
  | 0, u, e => h u (by rw [e]; show D * (1 * 1) = D; omega)
  | k + 1, u, e => by
    have e2 : D * ((2 : Int) ^ (k + 1) * 2 ^ (k + 1)) = 4 * (D * (2 ^ k * 2 ^ k)) := by
      rw [Int.pow_succ]
      grind
    rw [e2] at e
    rcases Int.emod_two_eq u with z | z
    · obtain ⟨v, rfl⟩ : ∃ v, u = 2 * v := ⟨u / 2, by omega⟩
      refine nsq h k v ?_
      have : 2 * v * (2 * v) = 4 * (v * v) := by grind
      omega
    · obtain ⟨v, rfl⟩ : ∃ v, u = 2 * v + 1 := ⟨u / 2, by omega⟩
      have : (2 * v + 1) * (2 * v + 1) = 4 * (v * v) + 4 * v + 1 := by grind
      omega
theorem pw_eq (k : Nat) : pw k = 2 ^ k := Int.one_mul _
theorem nzq {c m : Int} (h : ∀ u : Int, u * u ≠ dis c m) (t : Int) (k : Nat) : valL [c, m, 1] t (pw k) ≠ 0 := fun e => by
  have q := four c m t (pw k)
  rw [e, pw_eq] at q
  exact nsq h k (2 * t + m * 2 ^ k) (by omega)
theorem der3 (c m : Int) : derL [c, m, 1] = [m, 2] := by
  show [((1 + 0 : Nat) : Int) * m, ((1 + 1 : Nat) : Int) * 1] = _
  simp
theorem trim_keep {xs : List Int} (h : xs.getLastD 0 ≠ 0) : trimI xs = xs := by
  cases e : xs.length with
  | zero =>
    cases xs with
    | nil => rfl
    | cons x l => cases e
  | succ n =>
    unfold trimI
    rw [e]
    unfold trimM
    have : xs.getD n 0 = xs.getLastD 0 := by
      rw [List.getD_eq_getElem?_getD, List.getLastD_eq_getLast?, List.getLast?_eq_getElem?, e]
      rfl
    rw [this, if_neg h, ← e, List.take_length]
theorem trim_drop (xs : List Int) : trimI (xs ++ [0]) = trimI xs := by
  unfold trimI
  rw [List.length_append]
  show (xs ++ [0]).take (trimM (xs ++ [0]) (xs.length + 1)) = _
  have h0 : ∀ m, m ≤ xs.length → trimM (xs ++ [0]) m = trimM xs m := fun m => by
    induction m with
    | zero => intro _; rfl
    | succ m ih =>
      intro hm
      unfold trimM
      have : (xs ++ [0]).getD m 0 = xs.getD m 0 := by
        rw [List.getD_eq_getElem?_getD, List.getD_eq_getElem?_getD, List.getElem?_append_left (by omega)]
      rw [this, ih (by omega)]
  have : (xs ++ [0]).getD xs.length 0 = 0 := by
    rw [List.getD_eq_getElem?_getD, List.getElem?_append_right (Nat.le_refl _), Nat.sub_self]
    rfl
  have e : trimM (xs ++ [0]) (xs.length + 1) = trimM xs xs.length := by
    rw [← h0 _ (Nat.le_refl _)]
    exact if_pos this
  rw [e, List.take_append_of_le_length (trimM_le xs xs.length)]
theorem nxt_a (c m : Int) : nxt [m, 2] [c, m, 1] = trimI [2 * c, m] := by
  show trimI [0 + 2 * c, 0 + 2 * m - 1 * m, 0 + 2 * 1 - 1 * 2] = _
  rw [show [0 + 2 * c, 0 + 2 * m - 1 * m, 0 + 2 * 1 - 1 * 2] = [2 * c, m] ++ [0] by simp; omega, trim_drop]
theorem nxt_b (c m : Int) : nxt [m, 2] [2 * c, m] = trimI [-(dis c m)] := by
  show trimI [0 + 2 * (2 * c) - m * m, 0 + 2 * m - m * 2] = _
  rw [show [0 + 2 * (2 * c) - m * m, 0 + 2 * m - m * 2] = [-(dis c m)] ++ [0] by unfold dis; simp; omega, trim_drop]
theorem nxt_c (m : Int) : nxt [1] [m, 2] = trimI [m] := by
  show trimI [0 + 1 * m, 0 + 1 * 2 - 2 * 1] = _
  rw [show [0 + 1 * m, 0 + 1 * 2 - 2 * 1] = [m] ++ [0] by simp, trim_drop]
theorem nxt_d (m : Int) : nxt [1] [m] = [] := by
  show trimI [0 + 1 * m - m * 1] = _
  rw [show [0 + 1 * m - m * 1] = [] ++ [0] by simp, trim_drop]
  rfl
theorem prim_neg {x : Int} (h : x < 0) : primL [x] = [-1] := by
  have e1 : gcdL [x] = x.natAbs := by
    show Nat.gcd 0 x.natAbs = _
    exact Nat.gcd_zero_left _
  unfold primL
  rw [e1]
  by_cases h1 : 1 < x.natAbs
  · rw [if_pos h1]
    show [Int.fdiv x (x.natAbs : Nat)] = [-1]
    have e2 : ((x.natAbs : Nat) : Int) = -x := by omega
    rw [e2, Int.fdiv_eq_ediv_of_nonneg _ (by omega)]
    have : x / (-x) = -1 := by
      rw [Int.ediv_neg, Int.ediv_self (by omega)]
    rw [this]
  · rw [if_neg h1]
    have : x = -1 := by omega
    rw [this]
/-- the conditions -/
structure Qd (c m : Int) : Prop where
  c1 : -1000 ≤ c
  c2 : c ≤ 1000
  m1 : -1000 ≤ m
  m2 : m ≤ 1000
  pos : 0 < dis c m
  ns : ∀ u : Int, u * u ≠ dis c m
theorem Qd.c0 {c m : Int} (h : Qd c m) : c ≠ 0 := fun e => by
  refine h.ns m ?_
  unfold dis
  rw [e]
  omega
theorem smB_of {xs : List Int} (h : ∀ x ∈ xs, x.natAbs ≤ 4000000) : smB 4000 xs = true :=
  List.all_eq_true.mpr fun x hx => decide_eq_true (Nat.lt_of_le_of_lt (h x hx) (Nat.lt_of_lt_of_le (show 4000000 < 2 ^ 22 by decide) (Nat.pow_le_pow_right (by decide) (by decide))))
section
variable {c m : Int}
theorem Qd.dis_le (h : Qd c m) : dis c m ≤ 1004000 := by
  have h1 : m * m ≤ 1000 * 1000 := by
    have := Int.natAbs_mul_self' m
    have l : m.natAbs ≤ 1000 := by
      have := h.m1
      have := h.m2
      omega
    have l2 : m.natAbs * m.natAbs ≤ 1000 * 1000 := Nat.mul_le_mul l l
    omega
  have := h.c1
  unfold dis
  omega
theorem g9 {x : Int} (hx : x.natAbs ≤ 4000000) : gcdL [x] < 2 ^ 9000 := by
  have e : gcdL [x] = x.natAbs := Nat.gcd_zero_left _
  rw [e]
  exact Nat.lt_of_le_of_lt hx (Nat.lt_of_lt_of_le (show 4000000 < 2 ^ 22 by decide) (Nat.pow_le_pow_right (by decide) (by decide)))
theorem g90 : gcdL [] < 2 ^ 9000 := by
  have e : gcdL [] = 0 := rfl
  rw [e]
  exact Nat.two_pow_pos 9000
theorem okR_stop {ys xs : List Int} (h1 : xs.length < ys.length) (h2 : gcdL xs < 2 ^ 9000) : ∀ n, okR ys n xs = true
  | 0 => by
    unfold okR
    rw [decide_eq_true h1, decide_eq_true h2]
    rfl
  | n + 1 => by
    unfold okR
    rw [decide_eq_true h1, decide_eq_true h2]
    rfl
theorem okR_step {ys xs : List Int} {n : Nat} (h1 : ys.length ≤ xs.length) (h2 : smB 4000 xs = true) (h3 : xs.length ≤ 1000) (h4 : okR ys n (nxt ys xs) = true) : okR ys (n + 1) xs = true := by
  unfold okR
  rw [decide_eq_true h1, h2, decide_eq_true h3, h4]
  simp
theorem remS_stop {ys xs : List Int} (h : xs.length < ys.length) : ∀ n, remS ys n xs = xs
  | 0 => rfl
  | n + 1 => if_pos h
theorem remS_step {ys xs : List Int} {n : Nat} (h : ys.length ≤ xs.length) : remS ys (n + 1) xs = remS ys n (nxt ys xs) := if_neg (by omega)
theorem okC_step {n : Nat} {b a : List Int} {r : List (List Int)} (h0 : SeqAt.shaped (dT b) = true) (h1 : (PyData.eqv (dT b) (.tuple []) == b.isEmpty) = true) (h2 : b.length ≤ 1000) (h3 : smB 4000 b = true) (h4 : okR b 20 a = true) {x : List Int} (hx : remL b 20 a = x) (h5 : x.length ≤ 1000) (h6 : r.length ≤ 100)
    (h7 : okC n ((x.map fun x => -x) :: b :: a :: r) = true) : okC (n + 1) (b :: a :: r) = true := by
  unfold okC
  rw [h0, h1, decide_eq_true h2, h3, h4, hx, decide_eq_true h5, decide_eq_true h6, h7]
  simp
theorem chS_step {n : Nat} {b a : List Int} {r : List (List Int)} (h : b.isEmpty = false) {x : List Int} (hx : remL b 20 a = x) : chS (n + 1) (b :: a :: r) = chS n ((x.map fun x => -x) :: b :: a :: r) := by
  show (if b.isEmpty then b :: a :: r else chS n (((remL b 20 a).map fun x => -x) :: b :: a :: r)) = _
  rw [h, hx]
  rfl
theorem Qd.rem1 (h : Qd c m) : remL [m, 2] 20 [c, m, 1] = [-1] ∧ okR [m, 2] 20 [c, m, 1] = true := by
  have e0 : dis c m = m * m - 4 * c := rfl
  have hp := h.pos
  have hc1 := h.c1
  have hc2 := h.c2
  have hm1 := h.m1
  have hm2 := h.m2
  have hd := h.dis_le
  have l32 : ([m, 2] : List Int).length ≤ [c, m, 1].length := Nat.le_succ 2
  have q1 : [c, m, 1].length ≤ 1000 := show 3 ≤ 1000 by decide
  have s3 : smB 4000 [c, m, 1] = true := smB_of fun x hx => by
    simp only [List.mem_cons, List.not_mem_nil, or_false] at hx
    omega
  by_cases z : m = 0
  · have nz : 2 * c ≠ 0 := by have := h.c0; omega
    have e1 : nxt [m, 2] [c, m, 1] = [2 * c] := by
      rw [nxt_a, z, show [2 * c, 0] = [2 * c] ++ [0] from rfl, trim_drop, trim_keep (xs := [2 * c]) nz]
    have hn : 2 * c < 0 := by
      rw [z] at e0
      have e0 : dis c 0 = 0 - 4 * c := e0
      rw [z] at hp
      omega
    have lt : ([2 * c] : List Int).length < [m, 2].length := Nat.lt_succ_self 1
    refine ⟨?_, okR_step l32 s3 q1 ?_⟩
    · unfold remL
      rw [remS_step l32, e1, remS_stop lt]
      exact prim_neg hn
    · rw [e1]
      exact okR_stop lt (g9 (by omega)) _
  · have e1 : nxt [m, 2] [c, m, 1] = [2 * c, m] := by
      rw [nxt_a, trim_keep (xs := [2 * c, m]) z]
    have e1' : nxt [m, 2] [2 * c, m] = [-(dis c m)] := by
      rw [nxt_b, trim_keep]
      show -(dis c m) ≠ 0
      omega
    have s2 : smB 4000 [2 * c, m] = true := smB_of fun x hx => by
      simp only [List.mem_cons, List.not_mem_nil, or_false] at hx
      omega
    have l22 : ([m, 2] : List Int).length ≤ [2 * c, m].length := Nat.le_refl 2
    have lt : ([-(dis c m)] : List Int).length < [m, 2].length := Nat.lt_succ_self 1
    refine ⟨?_, okR_step l32 s3 q1 ?_⟩
    · unfold remL
      rw [remS_step l32, e1, remS_step l22, e1', remS_stop lt]
      exact prim_neg (by omega)
    · rw [e1]
      refine okR_step l22 s2 (show 2 ≤ 1000 by decide) ?_
      rw [e1']
      exact okR_stop lt (g9 (by omega)) _
theorem Qd.rem2 (h : Qd c m) : remL [1] 20 [m, 2] = [] ∧ okR [1] 20 [m, 2] = true := by
  have hm1 := h.m1
  have hm2 := h.m2
  have s2 : smB 4000 [m, 2] = true := smB_of fun x hx => by
    simp only [List.mem_cons, List.not_mem_nil, or_false] at hx
    omega
  have l12 : ([1] : List Int).length ≤ [m, 2].length := Nat.le_succ 1
  have lt : ([] : List Int).length < [(1 : Int)].length := Nat.lt_succ_self 0
  by_cases z : m = 0
  · have e1 : nxt [1] [m, 2] = [] := by
      rw [nxt_c, z, show [(0 : Int)] = [] ++ [0] from rfl, trim_drop]
      rfl
    refine ⟨?_, okR_step l12 s2 (show 2 ≤ 1000 by decide) ?_⟩
    · unfold remL
      rw [remS_step l12, e1, remS_stop lt]
      rfl
    · rw [e1]
      exact okR_stop lt g90 _
  · have e1 : nxt [1] [m, 2] = [m] := by
      rw [nxt_c, trim_keep (xs := [m]) z]
    have s1 : smB 4000 [m] = true := smB_of fun x hx => by
      simp only [List.mem_cons, List.not_mem_nil, or_false] at hx
      omega
    have l11 : ([1] : List Int).length ≤ [m].length := Nat.le_refl 1
    refine ⟨?_, okR_step l12 s2 (show 2 ≤ 1000 by decide) ?_⟩
    · unfold remL
      rw [remS_step l12, e1, remS_step l11, nxt_d, remS_stop lt]
      rfl
    · rw [e1]
      refine okR_step l11 s1 (show 1 ≤ 1000 by decide) ?_
      rw [nxt_d]
      exact okR_stop lt g90 _
theorem Qd.chain (h : Qd c m) : sturmL [c, m, 1] = [[c, m, 1], [m, 2], [1]] ∧ okS [c, m, 1] = true := by
  obtain ⟨r1, o1⟩ := h.rem1
  obtain ⟨r2, o2⟩ := h.rem2
  have hm1 := h.m1
  have hm2 := h.m2
  refine ⟨?_, ?_⟩
  · unfold sturmL
    rw [der3, chS_step (n := 9) rfl r1]
    show (chS 9 ([1] :: [m, 2] :: [c, m, 1] :: [])).tail.reverse = _
    rw [chS_step (n := 8) rfl r2]
    rfl
  · have s2 : smB 4000 [m, 2] = true := smB_of fun x hx => by
      simp only [List.mem_cons, List.not_mem_nil, or_false] at hx
      omega
    have s1 : smB 4000 [1] = true := smB_of fun x hx => by
      simp only [List.mem_cons, List.not_mem_nil, or_false] at hx
      omega
    unfold okS
    rw [der3, okC_step (n := 9) (b := [m, 2]) (a := [c, m, 1]) (r := []) rfl rfl (show 2 ≤ 1000 by decide) s2 o1 r1 (show 1 ≤ 1000 by decide) (show 0 ≤ 100 by decide) (okC_step (n := 8) (b := [1]) (a := [m, 2]) (r := [[c, m, 1]]) rfl rfl (show 1 ≤ 1000 by decide) s1 o2 r2 (show 0 ≤ 1000 by decide) (show 1 ≤ 100 by decide) rfl)]
    rfl
end
end Xq

/-! The floors of a root where the sign changes once; lonely_stretch where a unit holds one root. -/
namespace Xq
open PySem PySem.Spec PyProof.Rows L2
/-- the floors, bit by bit -/
def flS (xs : List Int) (s : Bool) (z : Int) : Nat → Int
  | 0 => z
  | k + 1 => if ng xs (2 * flS xs s z k + 1) (pw (k + 1)) = s then 2 * flS xs s z k + 1 else 2 * flS xs s z k
structure Mo (xs : List Int) (s : Bool) (z : Int) : Prop where
  mono : ∀ (k : Nat) (t t' : Int), z * 2 ^ k ≤ t → t ≤ t' → t' ≤ (z + 1) * 2 ^ k → ng xs t' (pw k) = s → ng xs t (pw k) = s
  nz : ∀ (k : Nat) (t : Int), z * 2 ^ k ≤ t → t ≤ (z + 1) * 2 ^ k → valL xs t (pw k) ≠ 0
  lo : ng xs z (pw 0) = s
  hi : ng xs (z + 1) (pw 0) ≠ s
  hom : ∀ (k : Nat) (t : Int), ng xs (2 * t) (pw (k + 1)) = ng xs t (pw k)
  l3 : 3 ≤ xs.length
  l8 : xs.length ≤ 8
  sm : ∀ x ∈ xs, Sm 30 x
  z0 : 0 ≤ z
  z1 : z < 2 ^ 30
section
variable {xs : List Int} {s : Bool} {z : Int}
theorem Mo.inv (h : Mo xs s z) : ∀ k, z * 2 ^ k ≤ flS xs s z k ∧ flS xs s z k + 1 ≤ (z + 1) * 2 ^ k ∧ ng xs (flS xs s z k) (pw k) = s ∧ ng xs (flS xs s z k + 1) (pw k) ≠ s
  | 0 => ⟨show z * 1 ≤ z by omega, show z + 1 ≤ (z + 1) * 1 by omega, h.lo, h.hi⟩
  | k + 1 => by
    obtain ⟨a, b, c, d⟩ := h.inv k
    have e : (2 : Int) ^ (k + 1) = 2 ^ k * 2 := Int.pow_succ ..
    have a1 : z * 2 ^ (k + 1) = z * 2 ^ k * 2 := by rw [e, Int.mul_assoc]
    have a2 : (z + 1) * 2 ^ (k + 1) = (z + 1) * 2 ^ k * 2 := by rw [e, Int.mul_assoc]
    rw [← h.hom] at c d
    have e2 : 2 * (flS xs s z k + 1) = 2 * flS xs s z k + 1 + 1 := by omega
    rw [e2] at d
    rw [a1, a2]
    unfold flS
    by_cases q : ng xs (2 * flS xs s z k + 1) (pw (k + 1)) = s
    · rw [if_pos q]
      exact ⟨by omega, by omega, q, d⟩
    · rw [if_neg q]
      exact ⟨by omega, by omega, c, q⟩
theorem Mo.fl (h : Mo xs s z) : Fl xs s (flS xs s z) 0 where
  st := fun b _ => by
    by_cases q : ng xs (2 * flS xs s z b + 1) (pw (b + 1)) = s
    · exact .inr (if_pos q)
    · exact .inl (if_neg q)
  sg := fun b t _ h1 h2 => by
    obtain ⟨a, b', c, d⟩ := h.inv b
    have h1 : z * 2 ^ b ≤ t := h1
    have h2 : t ≤ (z + 1) * 2 ^ b := h2
    refine ⟨fun q => ?_, fun q => h.mono b t _ h1 q (by omega) c⟩
    rcases Int.lt_or_le (flS xs s z b) t with l | l
    · exact absurd (h.mono b _ t (by omega) (by omega) h2 q) d
    · exact l
  nz := fun b t _ h1 h2 => h.nz b t h1 h2
  l3 := h.l3
  l8 := h.l8
  sm := h.sm
  f0 := h.z0
  f1 := h.z1
theorem pw0 : pw 0 = 1 := rfl
/-- a root alone in its unit -/
structure Lo (cs : List (List Int)) (rank z R : Int) : Prop where
  okc : ∀ t, 0 ≤ t → t ≤ R → okChB cs t 1 = true
  up : ∀ t, 0 ≤ t → t ≤ R → (upL cs t 1 > rank ↔ t > z)
  one : chgL cs z 1 - chgL cs (z + 1) 1 ≤ 1
  z0 : 0 ≤ z
  z1 : z < R
theorem Lo.run {cs : List (List Int)} {rank R : Int} (h : Lo cs rank z R) : ∀ (n : Nat) (lo hi : Int), 0 ≤ lo → lo ≤ z → z < hi → hi ≤ R → hi - lo ≤ 2 ^ n → lonS cs rank n lo hi 0 = (z, 0) ∧ okLo cs rank n lo hi 0 = true
  | 0, lo, hi, a0, a, b, c, d => by
    have d : hi - lo ≤ 1 := d
    obtain rfl : lo = z := by omega
    obtain rfl : hi = lo + 1 := by omega
    refine ⟨rfl, ?_⟩
    have g : lonGo cs lo (lo + 1) 0 = false := by
      unfold lonGo
      rw [pw0, decide_eq_false (by omega), decide_eq_false (by have := h.one; omega)]
      rfl
    unfold okLo
    rw [pw0, h.okc _ a0 (by omega), h.okc _ (by omega) c, g]
    rfl
  | n + 1, lo, hi, a0, a, b, c, d => by
    have e : (2 : Int) ^ (n + 1) = 2 ^ n * 2 := Int.pow_succ ..
    rw [e] at d
    by_cases g1 : hi - lo = 1
    · obtain rfl : lo = z := by omega
      obtain rfl : hi = lo + 1 := by omega
      have g : lonGo cs lo (lo + 1) 0 = false := by
        unfold lonGo
        rw [pw0, decide_eq_false (by omega), decide_eq_false (by have := h.one; omega)]
        rfl
      unfold okLo lonS
      rw [pw0, h.okc _ a0 (by omega), h.okc _ (by omega) c, g]
      exact ⟨rfl, rfl⟩
    · have g : lonGo cs lo hi 0 = true := by
        unfold lonGo
        rw [decide_eq_true (by omega)]
        rfl
      have t : lonT lo hi 0 = (lo, hi, 0) := if_neg g1
      have em : lonM lo hi 0 = (lo + hi) / 2 := by
        unfold lonM
        rw [t]
      have m1 : lo < (lo + hi) / 2 := by omega
      have m2 : (lo + hi) / 2 < hi := by omega
      unfold okLo lonS
      rw [t, em, g]
      simp only
      rw [pw0, h.okc _ a0 (by omega), h.okc _ (by omega) c, h.okc ((lo + hi) / 2) (by omega) (by omega)]
      by_cases u : upL cs ((lo + hi) / 2) 1 > rank
      · have hu := (h.up _ (by omega) (by omega)).mp u
        obtain ⟨r1, r2⟩ := h.run n lo ((lo + hi) / 2) a0 a hu (by omega) (by omega)
        rw [if_pos trivial, if_pos u, if_pos u, r1, r2]
        exact ⟨rfl, rfl⟩
      · have hu : ¬ (lo + hi) / 2 > z := fun q => u ((h.up _ (by omega) (by omega)).mpr q)
        obtain ⟨r1, r2⟩ := h.run n ((lo + hi) / 2) hi (by omega) (by omega) b c (by omega)
        rw [if_pos trivial, if_neg u, if_neg u, r1, r2]
        exact ⟨rfl, rfl⟩
/-- stretch_of, where the sign changes once and the root is alone in its unit -/
theorem str_of {rank : Int} (h : Mo xs s z) (oS : okS xs = true) (oU : okUB (sturmL xs) = true) (hl : Lo (sturmL xs) rank z (reachL xs)) (hR : reachL xs ≤ 2 ^ 60) :
    okStr xs rank = true ∧ strL xs rank = (flS xs s z 64, 64) := by
  obtain ⟨r1, r2⟩ := hl.run 60 0 (reachL xs) (Int.le_refl _) hl.z0 hl.z1 (Int.le_refl _) (by omega)
  have e : lonL xs rank = (z, 0) := r1
  obtain ⟨q1, q2⟩ := h.fl.refL (wd := 64) (by decide) (Nat.zero_le _)
  have q1 : okRf xs z 0 64 = true := q1
  have q2 : refL xs z 0 64 = flS xs s z 64 := q2
  refine ⟨?_, ?_⟩
  · unfold okStr okLon
    rw [e, oS, oU, r2]
    exact q1
  · unfold strL
    rw [e]
    show (refL xs z 0 64, 64) = _
    rw [q2]
end
end Xq

/-! Quadratic equations: changes, counts, floors. -/
namespace Xq
open PySem PySem.Spec PyProof.Rows L2
abbrev qC (c m : Int) : List (List Int) := [[c, m, 1], [m, 2], [1]]
def chg3 (P Q : Int) : Int := if P < 0 then 1 else if Q < 0 then 2 else 0
theorem chg_q {c m t b : Int} (hP : valL [c, m, 1] t b ≠ 0) (hQ : 0 < valL [c, m, 1] t b → valL [m, 2] t b ≠ 0) : chgL (qC c m) t b = chg3 (valL [c, m, 1] t b) (valL [m, 2] t b) := by
  unfold chgL
  show (((difL ((sgnL [valL [c, m, 1] t b, valL [m, 2] t b, valL [1] t b]).zip ((sgnL [valL [c, m, 1] t b, valL [m, 2] t b, valL [1] t b]).drop 1))).length : Nat) : Int) = _
  rw [val1]
  generalize valL [c, m, 1] t b = P at *
  generalize valL [m, 2] t b = Q at *
  have e3 : sgnL [P, Q, 1] = sgn1 P ++ (sgn1 Q ++ [true]) := rfl
  rw [e3]
  unfold chg3
  have st : ∀ {x : Int}, 0 < x → sgn1 x = [true] := fun {x} h => by
    unfold sgn1
    rw [if_neg (by omega), decide_eq_true h]
  have sf : ∀ {x : Int}, x < 0 → sgn1 x = [false] := fun {x} h => by
    unfold sgn1
    rw [if_neg (by omega), decide_eq_false (by omega)]
  by_cases p : P < 0
  · rw [sf p, if_pos p]
    by_cases q0 : Q = 0
    · have : sgn1 Q = [] := if_pos q0
      rw [this]
      rfl
    · by_cases q : 0 < Q
      · rw [st q]
        rfl
      · rw [sf (by omega)]
        rfl
  · rw [st (by omega), if_neg p]
    have q0 := hQ (by omega)
    by_cases q : Q < 0
    · rw [sf q, if_pos q]
      rfl
    · rw [st (by omega), if_neg q]
      rfl
theorem sq_up {a b : Int} (h0 : 0 ≤ a) (h : a ≤ b) : a * a ≤ b * b := Int.mul_le_mul h h h0 (by omega)
theorem sq_dn {a b : Int} (h0 : b ≤ 0) (h : a ≤ b) : b * b ≤ a * a := by
  have := sq_up (a := -b) (b := -a) (by omega) (by omega)
  rw [Int.neg_mul_neg, Int.neg_mul_neg] at this
  exact this
theorem fourQ (c m t b : Int) : 4 * valL [c, m, 1] t b = valL [m, 2] t b * valL [m, 2] t b - dis c m * (b * b) := by
  rw [four, val2]
theorem pw_pos (k : Nat) : 0 < pw k := by
  rw [pw_eq]
  exact two_pos k
theorem reach_q (c m : Int) : absI c + 1 ≤ reachL [c, m, 1] ∧ absI m + 1 ≤ reachL [c, m, 1] ∧ 2 ≤ reachL [c, m, 1] := by
  unfold reachL
  have h1 := mxL_le (l := [c, m, 1].map absI) (x := absI c) (by simp)
  have h2 := mxL_le (l := [c, m, 1].map absI) (x := absI m) (by simp)
  have h3 := mxL_le (l := [c, m, 1].map absI) (x := 1) (by simp [absI])
  omega
theorem absI_le (x : Int) : x ≤ absI x ∧ -x ≤ absI x ∧ 0 ≤ absI x := by
  unfold absI
  split <;> omega
theorem absI_lt {x : Int} (h1 : -1000 ≤ x) (h2 : x ≤ 1000) : absI x ≤ 1000 := by
  unfold absI
  split <;> omega
section
variable {c m : Int}
theorem Qd.reach (h : Qd c m) : reachL [c, m, 1] ≤ 1001 := by
  unfold reachL
  have := mxL_mem (l := [c, m, 1].map absI) (by simp) fun x hx => by
    obtain ⟨y, _, rfl⟩ := List.mem_map.mp hx
    exact (absI_le y).2.2
  obtain ⟨y, hy, e⟩ := List.mem_map.mp this
  rw [← e]
  have := h.c1
  have := h.c2
  have := h.m1
  have := h.m2
  have : absI y ≤ 1000 := by
    simp only [List.mem_cons, List.not_mem_nil, or_false] at hy
    rcases hy with rfl | rfl | rfl
    · exact absI_lt h.c1 h.c2
    · exact absI_lt h.m1 h.m2
    · decide
  omega
theorem Qd.nzQ (h : Qd c m) {t : Int} {k : Nat} (p : 0 < valL [c, m, 1] t (pw k)) : valL [m, 2] t (pw k) ≠ 0 := fun e => by
  have q := fourQ c m t (pw k)
  rw [e] at q
  have : 0 < dis c m * (pw k * pw k) := Int.mul_pos h.pos (Int.mul_pos (pw_pos k) (pw_pos k))
  omega
theorem Qd.chg (h : Qd c m) (t : Int) (k : Nat) : chgL (qC c m) t (pw k) = chg3 (valL [c, m, 1] t (pw k)) (valL [m, 2] t (pw k)) := chg_q (nzq h.ns t k) h.nzQ
theorem v31 (t : Int) : valL [c, m, 1] t 1 = (t + m) * t + c := by
  rw [val3]
  simp only [Int.mul_one]
theorem v21 (t : Int) : valL [m, 2] t 1 = 2 * t + m := by
  rw [val2]
  omega
theorem Qd.lowest (h : Qd c m) : chgL (qC c m) (-(reachL [c, m, 1])) 1 = 2 := by
  have e := h.chg (-(reachL [c, m, 1])) 0
  rw [pw0] at e
  rw [e, v31, v21]
  obtain ⟨r1, r2, r3⟩ := reach_q c m
  have ac := absI_le c
  have am := absI_le m
  generalize reachL [c, m, 1] = R at *
  have : R ≤ (R - m) * R := by
    have := Int.mul_le_mul_of_nonneg_right (show (1 : Int) ≤ R - m by omega) (show 0 ≤ R by omega)
    omega
  have e2 : (-R + m) * -R = (R - m) * R := by grind
  unfold chg3
  rw [e2, if_neg (by omega), if_pos (by omega)]
theorem Qd.highest (h : Qd c m) : chgL (qC c m) (reachL [c, m, 1]) 1 = 0 := by
  have e := h.chg (reachL [c, m, 1]) 0
  rw [pw0] at e
  rw [e, v31, v21]
  obtain ⟨r1, r2, r3⟩ := reach_q c m
  have ac := absI_le c
  have am := absI_le m
  generalize reachL [c, m, 1] = R at *
  have : R ≤ (R + m) * R := by
    have := Int.mul_le_mul_of_nonneg_right (show (1 : Int) ≤ R + m by omega) (show 0 ≤ R by omega)
    omega
  unfold chg3
  rw [if_neg (by omega), if_neg (by omega)]
theorem Qd.up (h : Qd c m) (t : Int) : upL (qC c m) t 1 = 2 - chg3 (valL [c, m, 1] t 1) (valL [m, 2] t 1) := by
  have e := h.chg t 0
  rw [pw0] at e
  unfold upL
  show chgL (qC c m) (-(reachL [c, m, 1])) 1 - _ = _
  rw [h.lowest, e]
theorem Qd.all (h : Qd c m) : allL (qC c m) = 2 := by
  unfold allL upL
  show chgL (qC c m) (-(reachL [c, m, 1])) 1 - chgL (qC c m) (reachL [c, m, 1]) 1 = _
  rw [h.lowest, h.highest]
  rfl
/-- counts, by what is squared -/
theorem Qd.cnt (h : Qd c m) (t : Int) : ((2 * t + m) * (2 * t + m) < dis c m → chg3 (valL [c, m, 1] t 1) (valL [m, 2] t 1) = 1) ∧
    (dis c m ≤ (2 * t + m) * (2 * t + m) → 2 * t + m < 0 → chg3 (valL [c, m, 1] t 1) (valL [m, 2] t 1) = 2) ∧ (dis c m ≤ (2 * t + m) * (2 * t + m) → 0 ≤ 2 * t + m → chg3 (valL [c, m, 1] t 1) (valL [m, 2] t 1) = 0) := by
  have q := fourQ c m t 1
  rw [v21] at q ⊢
  unfold chg3
  refine ⟨fun l => ?_, fun l n => ?_, fun l n => ?_⟩
  · rw [if_pos (by omega)]
  · rw [if_neg (by omega), if_pos n]
  · rw [if_neg (by omega), if_neg (by omega)]
theorem Qd.mono (h : Qd c m) {r : Int} (hr : r = 0 ∨ r = 1) {t t' : Int} (ht : t ≤ t') (u : upL (qC c m) t 1 > r) : upL (qC c m) t' 1 > r := by
  rw [h.up] at u ⊢
  obtain ⟨a1, a2, a3⟩ := h.cnt t
  obtain ⟨b1, b2, b3⟩ := h.cnt t'
  rcases Int.lt_or_le ((2 * t' + m) * (2 * t' + m)) (dis c m) with q' | q'
  · have e' := b1 q'
    rw [e']
    rcases Int.lt_or_le ((2 * t + m) * (2 * t + m)) (dis c m) with q | q
    · rw [a1 q] at u
      exact u
    · rcases Int.lt_or_le (2 * t + m) 0 with n | n
      · rw [a2 q n] at u
        omega
      · have := sq_up n (show 2 * t + m ≤ 2 * t' + m by omega)
        omega
  · rcases Int.lt_or_le (2 * t' + m) 0 with n' | n'
    · have := sq_dn (show 2 * t' + m ≤ 0 by omega) (show 2 * t + m ≤ 2 * t' + m by omega)
      rw [a2 (by omega) (by omega)] at u
      omega
    · rw [b3 q' n']
      omega
theorem least_up {p : Int → Prop} (dp : ∀ t, p t ∨ ¬ p t) : ∀ n : Nat, ¬ p 0 → p (n : Int) → ∃ z : Int, 0 ≤ z ∧ z < n ∧ ¬ p z ∧ p (z + 1)
  | 0, h0, h1 => absurd h1 h0
  | n + 1, h0, h1 => by
    rcases dp (n : Int) with q | q
    · obtain ⟨z, a, b, c, d⟩ := least_up dp n h0 q
      exact ⟨z, a, by omega, c, d⟩
    · exact ⟨n, by omega, by omega, q, by have e : ((n + 1 : Nat) : Int) = (n : Int) + 1 := by omega
                                          rw [← e]; exact h1⟩
/-- the floor of the root of rank r, which is above 0 -/
theorem Qd.floor (h : Qd c m) {r : Int} (hr : r = 0 ∨ r = 1) (h0 : upL (qC c m) 0 1 ≤ r) : ∃ z : Int, 0 ≤ z ∧ z < reachL [c, m, 1] ∧ ∀ t, (upL (qC c m) t 1 > r ↔ t > z) := by
  obtain ⟨r1, r2, r3⟩ := reach_q c m
  obtain ⟨n, hn⟩ := Int.eq_ofNat_of_zero_le (show 0 ≤ reachL [c, m, 1] by omega)
  have hR : upL (qC c m) (n : Int) 1 > r := by
    have := h.all
    unfold allL at this
    have e : reachL ((qC c m).headD []) = (n : Int) := hn
    rw [e] at this
    omega
  obtain ⟨z, a, b, nz, y⟩ := least_up (p := fun t => upL (qC c m) t 1 > r) (fun t => Decidable.em _) n (by show ¬ _ > r; omega) hR
  refine ⟨z, a, by rw [hn]; exact b, fun t => ⟨fun u => ?_, fun u => h.mono hr (show z + 1 ≤ t by omega) y⟩⟩
  rcases Int.lt_or_le z t with l | l
  · exact l
  · exact absurd (h.mono hr l u) nz
theorem Qd.okv (h : Qd c m) {t b : Int} (ht : Sm 900 t) (hb : Sm 900 b) : okChB (qC c m) t b = true := by
  have k : ∀ {x : Int}, -1000 ≤ x → x ≤ 1000 → Sm 900 x := fun {x} h1 h2 => by
    show x.natAbs < 2 ^ 900
    exact Nat.lt_of_lt_of_le (show x.natAbs < 2 ^ 10 by omega) (Nat.pow_le_pow_right (by decide) (by decide))
  have kc := k h.c1 h.c2
  have km := k h.m1 h.m2
  have k1 : Sm 900 1 := k (by decide) (by decide)
  have k2 : Sm 900 2 := k (by decide) (by decide)
  have o1 : okVB [c, m, 1] t b = true := okVB_of (show 1 ≤ 3 by decide) (show 3 ≤ 8 by decide) ht hb fun x hx => by
    simp only [List.mem_cons, List.not_mem_nil, or_false] at hx
    rcases hx with rfl | rfl | rfl <;> assumption
  have o2 : okVB [m, 2] t b = true := okVB_of (show 1 ≤ 2 by decide) (show 2 ≤ 8 by decide) ht hb fun x hx => by
    simp only [List.mem_cons, List.not_mem_nil, or_false] at hx
    rcases hx with rfl | rfl <;> assumption
  have o3 : okVB [1] t b = true := okVB_of (show 1 ≤ 1 by decide) (show 1 ≤ 8 by decide) ht hb fun x hx => by
    simp only [List.mem_cons, List.not_mem_nil, or_false] at hx
    rw [hx]
    exact k1
  show (true && (okVB [c, m, 1] t b && (okVB [m, 2] t b && (okVB [1] t b && true)))) = true
  rw [o1, o2, o3]
  rfl
theorem sm9 {t : Int} (h1 : -1001 ≤ t) (h2 : t ≤ 1001) : Sm 900 t := by
  show t.natAbs < 2 ^ 900
  exact Nat.lt_of_lt_of_le (show t.natAbs < 2 ^ 10 by omega) (Nat.pow_le_pow_right (by decide) (by decide))
theorem Qd.okU (h : Qd c m) : okUB (qC c m) = true := by
  have e := h.okv (t := -(reachL [c, m, 1])) (b := 1) (sm9 (by have := h.reach; omega) (by have := reach_q c m; omega)) (sm9 (by decide) (by decide))
  show (true && true && true && okChB (qC c m) (-(reachL [c, m, 1])) 1) = true
  rw [e]
  rfl
theorem ng_q (t : Int) (k : Nat) : ng [c, m, 1] t (pw k) = true ↔ valL [m, 2] t (pw k) * valL [m, 2] t (pw k) < dis c m * (pw k * pw k) := by
  have q := fourQ c m t (pw k)
  unfold ng
  rw [decide_eq_true_iff]
  omega
theorem hom_q (k : Nat) (t : Int) : ng [c, m, 1] (2 * t) (pw (k + 1)) = ng [c, m, 1] t (pw k) := by
  have e : pw (k + 1) = 2 * pw k := by
    rw [pw_eq, pw_eq, Int.pow_succ]
    omega
  have q : valL [c, m, 1] (2 * t) (pw (k + 1)) = 4 * valL [c, m, 1] t (pw k) := by
    rw [val3, val3, e]
    grind
  unfold ng
  rw [q]
  by_cases z : valL [c, m, 1] t (pw k) < 0
  · rw [decide_eq_true z, decide_eq_true (by omega)]
  · rw [decide_eq_false z, decide_eq_false (by omega)]
theorem edge_q (z : Int) (k : Nat) : valL [m, 2] (z * 2 ^ k) (pw k) = (2 * z + m) * pw k := by
  rw [val2, pw_eq]
  grind
theorem Qd.mo (h : Qd c m) {r z : Int} (hr : r = 0 ∨ r = 1) (z0 : 0 ≤ z) (z1 : z < reachL [c, m, 1]) (hz : ∀ t, (upL (qC c m) t 1 > r ↔ t > z)) : Mo [c, m, 1] (decide (r = 1)) z := by
  have hR := h.reach
  have u0 : ¬ upL (qC c m) z 1 > r := fun q => by have := (hz z).mp q; omega
  have u1 : upL (qC c m) (z + 1) 1 > r := (hz (z + 1)).mpr (by omega)
  rw [h.up] at u0 u1
  obtain ⟨a1, a2, a3⟩ := h.cnt z
  obtain ⟨b1, b2, b3⟩ := h.cnt (z + 1)
  have dp := h.pos
  have E : ∀ (k : Nat) (x : Int), valL [m, 2] (x * 2 ^ k) (pw k) * valL [m, 2] (x * 2 ^ k) (pw k) = (2 * x + m) * (2 * x + m) * (pw k * pw k) := fun k x => by
    rw [edge_q]
    grind
  have lin : ∀ (k : Nat) {t t' : Int}, t ≤ t' → valL [m, 2] t (pw k) ≤ valL [m, 2] t' (pw k) := fun k {t t'} l => by
    rw [val2, val2]
    omega
  have nS : ∀ (t : Int) (k : Nat), valL [m, 2] t (pw k) * valL [m, 2] t (pw k) ≠ dis c m * (pw k * pw k) := fun t k e => by
    have q := fourQ c m t (pw k)
    exact nzq h.ns t k (by omega)
  -- the squares at both ends
  have key : (r = 1 ∧ (2 * z + m) * (2 * z + m) < dis c m ∧ dis c m ≤ (2 * (z + 1) + m) * (2 * (z + 1) + m) ∧ 0 ≤ 2 * (z + 1) + m) ∨
      (r = 0 ∧ dis c m ≤ (2 * z + m) * (2 * z + m) ∧ 2 * z + m < 0 ∧ (2 * (z + 1) + m) * (2 * (z + 1) + m) < dis c m) := by
    have bad : 2 * z + m < 0 → 0 ≤ 2 * (z + 1) + m → dis c m ≤ (2 * z + m) * (2 * z + m) → dis c m ≤ (2 * (z + 1) + m) * (2 * (z + 1) + m) → False := fun n1 n2 l1 l2 => by
      have : 2 * z + m = -1 ∨ 2 * z + m = -2 := by omega
      rcases this with e | e
      · rw [e] at l1
        have e2 : 2 * (z + 1) + m = 1 := by omega
        have d1 : dis c m = 1 := by omega
        exact h.ns 1 (by rw [d1]; rfl)
      · have e2 : 2 * (z + 1) + m = 0 := by omega
        rw [e2] at l2
        omega
    rcases hr with e | e <;> rw [e] at u0 u1 ⊢
    · right
      rcases Int.lt_or_le ((2 * z + m) * (2 * z + m)) (dis c m) with q | q
      · have := a1 q
        omega
      rcases Int.lt_or_le (2 * z + m) 0 with n | n
      · rcases Int.lt_or_le ((2 * (z + 1) + m) * (2 * (z + 1) + m)) (dis c m) with q' | q'
        · exact ⟨rfl, q, n, q'⟩
        · rcases Int.lt_or_le (2 * (z + 1) + m) 0 with n' | n'
          · have := b2 q' n'
            omega
          · exact (bad n n' q q').elim
      · have := a3 q n
        omega
    · left
      rcases Int.lt_or_le ((2 * (z + 1) + m) * (2 * (z + 1) + m)) (dis c m) with q' | q'
      · have := b1 q'
        omega
      rcases Int.lt_or_le (2 * (z + 1) + m) 0 with n' | n'
      · have := b2 q' n'
        omega
      · rcases Int.lt_or_le ((2 * z + m) * (2 * z + m)) (dis c m) with q | q
        · exact ⟨rfl, q, q', n'⟩
        · rcases Int.lt_or_le (2 * z + m) 0 with n | n
          · exact (bad n n' q q').elim
          · have := a3 q n
            omega
  have bb : ∀ k : Nat, 0 < pw k * pw k := fun k => Int.mul_pos (pw_pos k) (pw_pos k)
  have e1 : ∀ x : Int, valL [m, 2] x (pw 0) = 2 * x + m := fun x => by rw [pw0, v21]
  have d1 : dis c m * (pw 0 * pw 0) = dis c m := by rw [pw0]; omega
  have fls : ∀ {t : Int} {k : Nat}, ng [c, m, 1] t (pw k) = false ↔ dis c m * (pw k * pw k) ≤ valL [m, 2] t (pw k) * valL [m, 2] t (pw k) := fun {t k} => by
    have q := ng_q (c := c) (m := m) t k
    cases e : ng [c, m, 1] t (pw k) with
    | true =>
      have := q.mp e
      exact ⟨fun z => (nomatch z), fun l => by omega⟩
    | false =>
      refine ⟨fun _ => ?_, fun _ => rfl⟩
      rcases Int.lt_or_le (valL [m, 2] t (pw k) * valL [m, 2] t (pw k)) (dis c m * (pw k * pw k)) with l | l
      · have := q.mpr l
        rw [e] at this
        cases this
      · exact l
  refine ⟨?_, fun k t _ _ => nzq h.ns t k, ?_, ?_, hom_q, Nat.le_refl 3, show 3 ≤ 8 by decide, ?_, z0, ?_⟩
  · intro k t t' h1 h2 h3 hn
    have l1 := lin k h1
    have l2 := lin k h2
    have l3 := lin k h3
    have Ez := E k z
    have Ez1 := E k (z + 1)
    rcases key with ⟨er, k1, k2, k3⟩ | ⟨er, k1, k2, k3⟩
    · rw [decide_eq_true er] at hn ⊢
      have hn := (ng_q t' k).mp hn
      refine (ng_q t k).mpr ?_
      rcases Int.lt_or_le (valL [m, 2] t (pw k)) 0 with n | n
      · have s1 := sq_dn (Int.le_of_lt n) l1
        rw [Ez] at s1
        have := Int.mul_lt_mul_of_pos_right k1 (bb k)
        omega
      · have := sq_up n l2
        omega
    · rw [decide_eq_false (show ¬ r = 1 by omega)] at hn ⊢
      have hn := fls.mp hn
      refine fls.mpr ?_
      have kk := Int.mul_lt_mul_of_pos_right k3 (bb k)
      rcases Int.lt_or_le (valL [m, 2] t' (pw k)) 0 with n | n
      · have := sq_dn (Int.le_of_lt n) l2
        omega
      · have := sq_up n l3
        omega
  · rcases key with ⟨er, k1, k2, k3⟩ | ⟨er, k1, k2, k3⟩
    · rw [decide_eq_true er]
      refine (ng_q z 0).mpr ?_
      rw [e1, d1]
      exact k1
    · rw [decide_eq_false (show ¬ r = 1 by omega)]
      refine fls.mpr ?_
      rw [e1, d1]
      exact k1
  · rcases key with ⟨er, k1, k2, k3⟩ | ⟨er, k1, k2, k3⟩
    · rw [decide_eq_true er]
      intro q
      have := (ng_q (z + 1) 0).mp q
      rw [e1, d1] at this
      omega
    · rw [decide_eq_false (show ¬ r = 1 by omega)]
      intro q
      have := fls.mp q
      rw [e1, d1] at this
      omega
  · intro x hx
    have k : ∀ {x : Int}, -1000 ≤ x → x ≤ 1000 → Sm 30 x := fun {x} h1 h2 => by
      show x.natAbs < 2 ^ 30
      omega
    simp only [List.mem_cons, List.not_mem_nil, or_false] at hx
    rcases hx with rfl | rfl | rfl
    · exact k h.c1 h.c2
    · exact k h.m1 h.m2
    · exact k (by decide) (by decide)
  · show z < 1073741824
    omega
end
end Xq

/-! Shape.of and told_by without their texts; quadratic equations there. -/
namespace Xq
open PySem PySem.Spec PyProof.Rows L2
/-- told_by of the text, but for the text -/
def okTN (r : Int) (xs : List Int) : Bool := okE xs && okLe xs && okS xs && okUB (sturmL xs) && okChB (sturmL xs) 0 1 && okChB (sturmL xs) (reachL ((sturmL xs).headD [])) 1 && decide (upL (sturmL xs) 0 1 ≤ r) && decide (r < allL (sturmL xs)) && decide (r.natAbs ≤ 1000)
theorem okE_ok {xs : List Int} (h : okE xs = true) : 2 ≤ xs.length ∧ xs.length ≤ 6 ∧ ∀ x ∈ xs, x.natAbs ≤ 1000 := by
  unfold okE at h
  simp only [Bool.and_eq_true, decide_eq_true_eq, Bool.not_eq_true', decide_eq_false_iff_not] at h
  obtain ⟨⟨⟨h1, h2⟩, h3⟩, h4⟩ := h
  refine ⟨h1, h2, fun x hx => ?_⟩
  have := List.all_eq_true.mp h3 x hx
  simp only [Bool.and_eq_true, decide_eq_true_eq] at this
  omega
theorem okT_of {r : Int} {xs : List Int} (h : okTN r xs = true) : okT (txL r xs) r xs = true := by
  unfold okTN at h
  simp only [Bool.and_eq_true, decide_eq_true_eq] at h
  obtain ⟨⟨⟨⟨⟨⟨⟨⟨h1, h2⟩, h3⟩, h4⟩, h5⟩, h6⟩, h7⟩, h8⟩, h9⟩ := h
  obtain ⟨l2, l6, ax⟩ := okE_ok h1
  unfold okT
  simp only [Bool.and_eq_true, decide_eq_true_eq]
  exact ⟨⟨⟨⟨⟨⟨⟨⟨⟨⟨split_tx r (fun e => by rw [e] at l2; exact absurd l2 (by decide)), Nat.le_trans (tx_len h9 l6 ax) (by decide)⟩, h9⟩, h1⟩, h2⟩, h3⟩, h4⟩, h5⟩, h6⟩, h7⟩, h8⟩
/-- Shape.of tells rank r of ls -/
structure Of (xs : List Int) (a b c d : Int) (ls : List Int) (r : Int) : Prop where
  ok : okOf xs a b c d = true
  eL : ofL xs a b c d = ls
  eR : ofR xs a b c d = r
  eT : ofT xs a b c d = txL r ls
theorem Of.mk' {xs : List Int} {a b c d : Int} {ls : List Int} {r : Int} (h1 : okE xs = true) (h2 : okSt a b c d = true) (h3 : okFw xs a b c d = true) (h4 : fwL xs a b c d = some ls) (h5 : rlL ls c d = r) (h6 : okRl ls c d = true) (h7 : okTN r ls = true) (h8 : okStr ls r = true) : Of xs a b c d ls r := by
  have e1 : ofL xs a b c d = ls := by
    unfold ofL
    rw [h4]
    rfl
  have e2 : ofR xs a b c d = r := by
    unfold ofR
    rw [e1, h5]
  have e3 : ofT xs a b c d = txL r ls := by
    unfold ofT
    rw [e1, e2]
  have hE : okE ls = true := by
    unfold okTN at h7
    simp only [Bool.and_eq_true] at h7
    exact h7.1.1.1.1.1.1.1.1
  have hr : r.natAbs ≤ 1000 := by
    unfold okTN at h7
    simp only [Bool.and_eq_true, decide_eq_true_eq] at h7
    exact h7.2
  obtain ⟨l2, l6, ax⟩ := okE_ok hE
  refine ⟨?_, e1, e2, e3⟩
  unfold okOf
  rw [e1, e2, e3, h4]
  simp only [Bool.and_eq_true, decide_eq_true_eq]
  refine ⟨⟨⟨⟨⟨⟨⟨⟨⟨h1, h2⟩, h3⟩, rfl⟩, List.all_eq_true.mpr fun x hx => ?_⟩, by omega⟩, h6⟩, okTx_of hr l6 ax⟩, okT_of h7⟩, h8⟩
  have := ax x hx
  rw [decide_eq_true (show -1000 ≤ x by omega), decide_eq_true (show x ≤ 1000 by omega)]
  rfl
/-- the same as one check -/
def okON (xs : List Int) (a b c d : Int) (ls : List Int) (r : Int) : Bool := okE xs && okSt a b c d && okFw xs a b c d && decide (fwL xs a b c d = some ls) && decide (rlL ls c d = r) && okRl ls c d && okTN r ls && okStr ls r
theorem Of.of {xs : List Int} {a b c d : Int} {ls : List Int} {r : Int} (h : okON xs a b c d ls r = true) : Of xs a b c d ls r := by
  unfold okON at h
  simp only [Bool.and_eq_true, decide_eq_true_eq] at h
  obtain ⟨⟨⟨⟨⟨⟨⟨h1, h2⟩, h3⟩, h4⟩, h5⟩, h6⟩, h7⟩, h8⟩ := h
  exact .mk' h1 h2 h3 h4 h5 h6 h7 h8
theorem dvS_mem {n t : Int} : ∀ {k : Nat}, t ∈ dvS n k → 0 ≤ t ∧ t ≤ k
  | 0, h => nomatch h
  | k + 1, h => by
    rcases List.mem_append.mp h with q | q
    · have := dvS_mem q
      omega
    · cases z : Nat.beq (n.natAbs % (1 + k)) 0 with
      | true =>
        rw [z] at q
        have := List.mem_singleton.mp q
        omega
      | false =>
        rw [z] at q
        exact absurd q (by simp)
theorem dvL_mem {n t : Int} (h : n.natAbs ≤ 1000) (ht : t ∈ dvL n) : 0 ≤ t ∧ t ≤ 1000 := by
  rw [← dvL_eq h] at ht
  have := dvS_mem ht
  omega
theorem dv1 : dvL 1 = [1] := rfl
section
variable {c m : Int}
theorem Qd.okE (h : Qd c m) : okE [c, m, 1] = true := by
  show (true && true && ((decide (-1000 ≤ c) && decide (c ≤ 1000)) && ((decide (-1000 ≤ m) && decide (m ≤ 1000)) && (true && true))) && true) = true
  rw [decide_eq_true h.c1, decide_eq_true h.c2, decide_eq_true h.m1, decide_eq_true h.m2]
  rfl
theorem Qd.okV1 (h : Qd c m) {t : Int} (h1 : -1001 ≤ t) (h2 : t ≤ 1001) : okVB [c, m, 1] t 1 = true := by
  have e := h.okv (sm9 h1 h2) (b := 1) (sm9 (by decide) (by decide))
  have e : (true && (okVB [c, m, 1] t 1 && (okVB [m, 2] t 1 && (okVB [1] t 1 && true)))) = true := e
  simp only [Bool.and_eq_true] at e
  exact e.2.1
theorem Qd.lin (h : Qd c m) : okLin [c, m, 1] = true ∧ okLinG [c, m, 1] = true ∧ linL [c, m, 1] = none := by
  have c0 := h.c0
  have a1 : c.natAbs ≤ 1000 := by have := h.c1; have := h.c2; omega
  have nz : ∀ t : Int, valL [c, m, 1] t 1 ≠ 0 := fun t => by
    have := nzq h.ns t 0
    rw [pw0] at this
    exact this
  have ov : ∀ t ∈ dvL c, okVB [c, m, 1] t 1 = true ∧ okVB [c, m, 1] (-t) 1 = true := fun t ht => by
    have := dvL_mem a1 ht
    exact ⟨h.okV1 (by omega) (by omega), h.okV1 (by omega) (by omega)⟩
  refine ⟨?_, ?_, ?_⟩
  · unfold okLin
    show (true && true && decide (c.natAbs ≤ 1000) && true && !decide (c = 0) && (dvL c).all fun t => (dvL 1).all fun b => _) = true
    rw [decide_eq_true a1, decide_eq_false c0, dv1]
    simp only [Bool.true_and, Bool.not_false]
    refine List.all_eq_true.mpr fun t ht => ?_
    obtain ⟨v1, v2⟩ := ov t ht
    show ((!decide (Nat.gcd t.natAbs (1 : Int).natAbs = 1) || _) && true) = true
    rw [v1, v2, decide_eq_false (nz t), decide_eq_false (nz (-t))]
    simp
  · unfold okLinG
    show (true && true && decide (c.natAbs ≤ 1000) && true && (dvL c).all fun t => (dvL 1).all fun b => _) = true
    rw [decide_eq_true a1, dv1]
    simp only [Bool.true_and]
    refine List.all_eq_true.mpr fun t ht => ?_
    obtain ⟨v1, v2⟩ := ov t ht
    show ((!decide (Nat.gcd t.natAbs (1 : Int).natAbs = 1) || _) && true) = true
    rw [v1, v2]
    simp
  · show (if c = 0 then _ else (dvL c).findSome? (linF [c, m, 1])) = none
    rw [if_neg c0]
    refine List.findSome?_eq_none_iff.mpr fun t ht => ?_
    show (dvL 1).findSome? (linIn [c, m, 1] t) = none
    rw [dv1]
    refine List.findSome?_eq_none_iff.mpr fun b hb => ?_
    rw [List.mem_singleton.mp hb]
    unfold linIn
    rw [if_neg (nz t), if_neg (nz (-t))]
    split <;> rfl
theorem Qd.okLe (h : Qd c m) : okLe [c, m, 1] = true := by
  obtain ⟨h1, h2, h3⟩ := h.lin
  have g : gcdL [c, m, 1] = 1 := Nat.gcd_one_right _
  show (true && true && true && decide (gcdL [c, m, 1] = 1) && (false || (okLin [c, m, 1] && (true || _))) && true && true) = true
  rw [decide_eq_true g, h1]
  rfl
theorem divL_step {ys rest : List Int} {n : Nat} {fs : List Int} (h1 : ¬ rest.length < ys.length) (h2 : rest.getLastD 0 % ys.getLastD 0 = 0) : divL ys (n + 1) rest fs = divL ys n (nxD ys rest) (fs ++ [qD ys rest]) := by
  rw [divL, if_neg h1, if_pos h2]
theorem divL_end {ys rest : List Int} {n : Nat} {fs : List Int} (h1 : rest.length < ys.length) (h2 : (rest.any fun x => x != 0) = false) : divL ys (n + 1) rest fs = some fs.reverse := by
  rw [divL, if_pos h1, h2]
  rfl
theorem okDw_step {ys rest : List Int} {n : Nat} (h1 : ys.length ≤ rest.length) (h2 : smB 4000 rest = true) (h3 : rest.length ≤ 1000) (h4 : smI 4000 (qD ys rest) = true) (h5 : okDw ys n (nxD ys rest) = true) : okDw ys (n + 1) rest = true := by
  rw [okDw, decide_eq_true h1, h2, decide_eq_true h3, h4, h5]
  simp
theorem okDw_end {ys rest : List Int} {n : Nat} (h1 : rest.length < ys.length) : okDw ys (n + 1) rest = true := by
  rw [okDw, decide_eq_true h1]
  rfl
theorem facS_step {n : Nat} {rest : List Int} {gs : List (List Int)} {r : List Int} (h1 : ¬ rest.length ≤ 1) (h2 : divL (lfL rest) 20 rest [] = some r) : facS (n + 1) rest gs = facS n r (if inF gs (lfL rest) then gs else gs ++ [lfL rest]) := by
  rw [facS, if_neg h1, h2]
  rfl
theorem okFc_step {n : Nat} {rest r : List Int} {gs : List (List Int)} (h1 : rest.length ≤ 1000) (h2 : okLfG rest = true) (h3 : okDg rest (lfL rest) = true) (h4 : divL (lfL rest) 20 rest [] = some r) (h5 : SeqAt.shaped (dT (lfL rest)) = true) (h6 : SeqAt.shaped (.list (gs.map dT)) = true) (h7 : gs.length ≤ 100)
    (h8 : okFc n r (if inF gs (lfL rest) then gs else gs ++ [lfL rest]) = true) : okFc (n + 1) rest gs = true := by
  rw [okFc, decide_eq_true h1, h2, h3, h4, h5, h6, decide_eq_true h7]
  show (_ || (true && true && true && true && true && true && true && okFc n r _)) = true
  rw [h8]
  simp
theorem Qd.fac (h : Qd c m) : facL [c, m, 1] = [[c, m, 1]] ∧ okFac [c, m, 1] = true := by
  obtain ⟨h1, h2, h3⟩ := h.lin
  have g : gcdL [c, m, 1] = 1 := Nat.gcd_one_right _
  have e1 : primL [c, m, 1] = [c, m, 1] := by
    unfold primL
    rw [g]
    rfl
  have e2 : posL [c, m, 1] = [c, m, 1] := rfl
  have e3 : lfL [c, m, 1] = [c, m, 1] := by
    show (linL [c, m, 1]).getD [c, m, 1] = _
    rw [h3]
    rfl
  have z : nxD [c, m, 1] [c, m, 1] = [0, 0] := by
    show [c - 1 / 1 * c, m - 1 / 1 * m] = _
    rw [show ((1 : Int) / 1) = 1 from rfl]
    simp
  have q1 : qD [c, m, 1] [c, m, 1] = 1 := rfl
  have n33 : ¬ [c, m, 1].length < [c, m, 1].length := Nat.lt_irrefl 3
  have l23 : ([0, 0] : List Int).length < [c, m, 1].length := Nat.lt_succ_self 2
  have e4 : divL [c, m, 1] 20 [c, m, 1] [] = some [1] := by
    rw [divL_step n33 (show (1 : Int) % 1 = 0 by decide), z, q1, divL_end l23 rfl]
    rfl
  have s3 : smB 4000 [c, m, 1] = true := smB_of fun x hx => by
    have := h.c1
    have := h.c2
    have := h.m1
    have := h.m2
    simp only [List.mem_cons, List.not_mem_nil, or_false] at hx
    omega
  have o3 : okLfG [c, m, 1] = true := by
    show (false || (okLinG [c, m, 1] && (!decide (linL [c, m, 1] = none) || true || _))) = true
    rw [h2, h3]
    simp
  have o4 : okDg [c, m, 1] [c, m, 1] = true := by
    have q : okDw [c, m, 1] 20 [c, m, 1] = true := okDw_step (Nat.le_refl 3) s3 (show 3 ≤ 1000 by decide) (by rw [q1]; decide +kernel) (by rw [z]; exact okDw_end l23)
    unfold okDg
    rw [s3, q]
    rfl
  have inn : inF [] [c, m, 1] = false := rfl
  refine ⟨?_, ?_⟩
  · unfold facL
    rw [e1, e2, facS_step (n := 9) (rest := [c, m, 1]) (show ¬ 3 ≤ 1 by decide) (by rw [e3]; exact e4), e3, inn]
    rfl
  · have q : okFc 10 [c, m, 1] [] = true := by
      refine okFc_step (n := 9) (show 3 ≤ 1000 by decide) o3 (by rw [e3]; exact o4) (by rw [e3]; exact e4) (by rw [e3]; rfl) rfl (Nat.zero_le _) ?_
      rw [e3, inn]
      rfl
    unfold okFac
    rw [e1, e2, g, q, decide_eq_true (show 1 < 2 ^ 9000 from Nat.one_lt_two_pow (by decide))]
    rfl
theorem Qd.okTN (h : Qd c m) {r : Int} (hr : r = 0 ∨ r = 1) (h0 : upL (qC c m) 0 1 ≤ r) : okTN r [c, m, 1] = true := by
  obtain ⟨e1, e2⟩ := h.chain
  have o1 := h.okv (t := 0) (b := 1) (sm9 (by decide) (by decide)) (sm9 (by decide) (by decide))
  have o2 := h.okv (t := reachL [c, m, 1]) (b := 1) (sm9 (by have := reach_q c m; omega) (by have := h.reach; omega)) (sm9 (by decide) (by decide))
  have e3 : (qC c m).headD [] = [c, m, 1] := rfl
  unfold Xq.okTN
  rw [h.okE, h.okLe, e2, e1, h.okU, o1, e3, o2, decide_eq_true h0, h.all, decide_eq_true (show r < 2 by omega), decide_eq_true (show r.natAbs ≤ 1000 by omega)]
  rfl
/-- the shape of rank r: what is laid up in it -/
theorem Qd.str (h : Qd c m) {r : Int} (hr : r = 0 ∨ r = 1) (h0 : upL (qC c m) 0 1 ≤ r) : okStr [c, m, 1] r = true ∧
    ∃ z, 0 ≤ z ∧ (∀ t, (upL (qC c m) t 1 > r ↔ t > z)) ∧ Mo [c, m, 1] (decide (r = 1)) z ∧ strL [c, m, 1] r = (flS [c, m, 1] (decide (r = 1)) z 64, 64) := by
  obtain ⟨z, z0, z1, hz⟩ := h.floor hr h0
  have M := h.mo hr z0 z1 hz
  obtain ⟨e1, e2⟩ := h.chain
  have hR := h.reach
  have L : Lo (sturmL [c, m, 1]) r z (reachL [c, m, 1]) := by
    rw [e1]
    refine ⟨fun t a b => h.okv (sm9 (by omega) (by omega)) (sm9 (by decide) (by decide)), fun t _ _ => hz t, ?_, z0, z1⟩
    have u := hz z
    have u' := hz (z + 1)
    have a := h.up z
    have b := h.up (z + 1)
    have c1 := h.chg z 0
    have c2 := h.chg (z + 1) 0
    rw [pw0] at c1 c2
    rw [c1, c2]
    obtain ⟨a1, a2, a3⟩ := h.cnt z
    obtain ⟨b1, b2, b3⟩ := h.cnt (z + 1)
    have lo := M.lo
    have hi := M.hi
    have q := ng_q (c := c) (m := m) z 0
    have q' := ng_q (c := c) (m := m) (z + 1) 0
    rw [pw0, v21] at q q'
    rw [pw0] at lo hi
    rcases hr with e | e
    · rw [decide_eq_false (show ¬ r = 1 by omega)] at lo hi
      have n : ng [c, m, 1] (z + 1) 1 = true := by
        cases k : ng [c, m, 1] (z + 1) 1 with
        | true => rfl
        | false => exact absurd k hi
      have := b1 (by have := q'.mp n; omega)
      rw [this]
      unfold chg3
      split
      · omega
      · split <;> omega
    · rw [decide_eq_true e] at lo hi
      have := a1 (by have := q.mp lo; omega)
      rw [this]
      unfold chg3
      split
      · omega
      · split <;> omega
  obtain ⟨s1, s2⟩ := str_of M e2 (by rw [e1]; exact h.okU) L (Int.le_trans hR (by decide))
  exact ⟨s1, z, z0, hz, M, s2⟩
/-- Shape.of of it, between integers -/
theorem Qd.of (h : Qd c m) {a d r : Int} (hr : r = 0 ∨ r = 1) (h0 : upL (qC c m) 0 1 ≤ r) (a0 : 0 ≤ a) (ad : a ≤ d) (d1 : d ≤ 1000) (u1 : upL (qC c m) a 1 = r) (u2 : upL (qC c m) d 1 = r + 1) : Of [c, m, 1] a 1 d 1 [c, m, 1] r := by
  obtain ⟨e1, e2⟩ := h.chain
  obtain ⟨f1, f2⟩ := h.fac
  have oa := h.okv (t := a) (b := 1) (sm9 (by omega) (by omega)) (sm9 (by decide) (by decide))
  have od := h.okv (t := d) (b := 1) (sm9 (by omega) (by omega)) (sm9 (by decide) (by decide))
  have rw1 : rwL [c, m, 1] a 1 d 1 = 1 := by
    have nz := nzq h.ns a 0
    rw [pw0] at nz
    unfold rwL
    rw [if_neg (fun q => nz q.2), e1]
    show chgL (qC c m) a 1 - chgL (qC c m) d 1 = 1
    have v1 : chgL (qC c m) (-(reachL [c, m, 1])) 1 - chgL (qC c m) a 1 = r := u1
    have v2 : chgL (qC c m) (-(reachL [c, m, 1])) 1 - chgL (qC c m) d 1 = r + 1 := u2
    omega
  refine .mk' h.okE ?_ ?_ ?_ ?_ ?_ (h.okTN hr h0) (h.str hr h0).1
  · have s4 : ∀ {x : Int}, 0 ≤ x → x ≤ 1000 → smI 4000 x = true := fun {x} p q => decide_eq_true (Nat.lt_of_lt_of_le (show x.natAbs < 2 ^ 10 by omega) (Nat.pow_le_pow_right (by decide) (by decide)))
    unfold okSt
    rw [s4 a0 (by omega), s4 (show 0 ≤ d by omega) d1, s4 (show (0 : Int) ≤ 1 by decide) (by decide), decide_eq_true a0, decide_eq_true (show Nat.gcd a.natAbs (1 : Int).natAbs = 1 from Nat.gcd_one_right _), decide_eq_true (show Nat.gcd d.natAbs (1 : Int).natAbs = 1 from Nat.gcd_one_right _), decide_eq_false (show ¬ d * 1 < a * 1 by omega)]
    rfl
  · unfold okFw
    rw [f1, f2]
    show (true && ((okS [c, m, 1] && okChB (sturmL [c, m, 1]) a 1 && okChB (sturmL [c, m, 1]) d 1 && okVB [c, m, 1] a 1) && true)) = true
    rw [e2, e1, oa, od, h.okV1 (by omega) (by omega)]
    rfl
  · have es : fwS [c, m, 1] a 1 d 1 (facL [c, m, 1]).length = (some [c, m, 1], 1) := by
      unfold fwS
      rw [f1]
      show fwT a 1 d 1 (none, 0) [c, m, 1] = _
      unfold fwT
      rw [rw1]
      rfl
    unfold fwL
    rw [es]
    rfl
  · unfold rlL
    rw [e1, u2]
    omega
  · unfold okRl
    rw [e2, e1, h.okU, od]
    rfl
end
end Xq

/-! Known shapes, each one reckoned: squares of integers, integers, cubes, fifth roots. -/
namespace Xq
open PySem
/-- the side of a cube -/
def sideL (n : Nat) : List Nat := [2, 3, 4, 5, 6, 7, 8, 9].filter fun k => k * k * k == n
def cbT (n : Nat) : Bool := match sideL n with
  | k :: _ => okON [-(n : Int), 0, 0, 1] 0 1 99 1 [-(k : Int), 1] 0
  | [] => okON [-(n : Int), 0, 0, 1] 0 1 99 1 [-(n : Int), 0, 0, 1] 0
def sqT (d : Nat) : Bool := okON [-((d * d : Nat) : Int), 0, 1] (d : Int) 1 ((d + 1 : Nat) : Int) 1 [-(d : Int), 1] 0
def liT (d : Nat) : Bool := okON [-(d : Int), 1] 0 1 99 1 [-(d : Int), 1] 0 && decide (strL [-(d : Int), 1] 0 = ((d : Int) * 2 ^ 64, 64))
def fiT (n : Nat) : Bool := okON [-(n : Int), 0, 0, 0, 0, 1] 1 1 2 1 [-(n : Int), 0, 0, 0, 0, 1] 0 && decide (strL [-(n : Int), 0, 0, 0, 0, 1] 0 = ((strL [-(n : Int), 0, 0, 0, 0, 1] 0).1, 64)) && decide (2 ^ 64 < (strL [-(n : Int), 0, 0, 0, 0, 1] 0).1)
theorem sq_all : [1, 2, 3, 4, 5, 6, 7, 8, 9, 10, 11, 12, 13, 14, 15, 16, 17, 18, 19, 20].all sqT = true := by decide +kernel
theorem li_all : [2, 3, 4, 5, 6, 7, 8, 9, 10, 11, 12, 13, 14, 15, 16, 17, 18, 19, 20, 21].all liT = true := by decide +kernel
theorem one_all : (okON [-1, 1] 0 1 9 1 [-1, 1] 0 && decide (strL [-1, 1] 0 = (2 ^ 64, 64))) = true := by decide +kernel
theorem fi_all : [2, 3, 4, 5, 6, 7, 8, 9, 10, 11, 12, 13, 14, 15, 16, 17, 18, 19, 20, 21].all fiT = true := by decide +kernel
end Xq

/-! Third roots. -/
namespace Xq
open PySem
theorem cb_2 : [2, 3, 4, 5, 6, 7, 8, 9, 10, 11, 12, 13, 14, 15, 16, 17, 18, 19, 20, 21, 22, 23, 24, 25, 26, 27, 28, 29, 30, 31, 32, 33, 34, 35, 36, 37, 38, 39, 40, 41, 42, 43, 44, 45, 46, 47, 48, 49, 50, 51].all cbT = true := by decide +kernel
theorem cb_52 : [52, 53, 54, 55, 56, 57, 58, 59, 60, 61, 62, 63, 64, 65, 66, 67, 68, 69, 70, 71, 72, 73, 74, 75, 76, 77, 78, 79, 80, 81, 82, 83, 84, 85, 86, 87, 88, 89, 90, 91, 92, 93, 94, 95, 96, 97, 98, 99, 100, 101].all cbT = true := by decide +kernel
theorem cb_102 : [102, 103, 104, 105, 106, 107, 108, 109, 110, 111, 112, 113, 114, 115, 116, 117, 118, 119, 120, 121, 122, 123, 124, 125, 126, 127, 128, 129, 130, 131, 132, 133, 134, 135, 136, 137, 138, 139, 140, 141, 142, 143, 144, 145, 146, 147, 148, 149, 150, 151].all cbT = true := by decide +kernel
theorem cb_152 : [152, 153, 154, 155, 156, 157, 158, 159, 160, 161, 162, 163, 164, 165, 166, 167, 168, 169, 170, 171, 172, 173, 174, 175, 176, 177, 178, 179, 180, 181, 182, 183, 184, 185, 186, 187, 188, 189, 190, 191, 192, 193, 194, 195, 196, 197, 198, 199, 200, 201].all cbT = true := by decide +kernel
theorem cb_202 : [202, 203, 204, 205, 206, 207, 208, 209, 210, 211, 212, 213, 214, 215, 216, 217, 218, 219, 220, 221, 222, 223, 224, 225, 226, 227, 228, 229, 230, 231, 232, 233, 234, 235, 236, 237, 238, 239, 240, 241, 242, 243, 244, 245, 246, 247, 248, 249, 250, 251].all cbT = true := by decide +kernel
theorem cb_252 : [252, 253, 254, 255, 256, 257, 258, 259, 260, 261, 262, 263, 264, 265, 266, 267, 268, 269, 270, 271, 272, 273, 274, 275, 276, 277, 278, 279, 280, 281, 282, 283, 284, 285, 286, 287, 288, 289, 290, 291, 292, 293, 294, 295, 296, 297, 298, 299, 300, 301].all cbT = true := by decide +kernel
end Xq

/-! Third roots. -/
namespace Xq
open PySem
theorem cb_302 : [302, 303, 304, 305, 306, 307, 308, 309, 310, 311, 312, 313, 314, 315, 316, 317, 318, 319, 320, 321, 322, 323, 324, 325, 326, 327, 328, 329, 330, 331, 332, 333, 334, 335, 336, 337, 338, 339, 340, 341, 342, 343, 344, 345, 346, 347, 348, 349, 350, 351].all cbT = true := by decide +kernel
theorem cb_352 : [352, 353, 354, 355, 356, 357, 358, 359, 360, 361, 362, 363, 364, 365, 366, 367, 368, 369, 370, 371, 372, 373, 374, 375, 376, 377, 378, 379, 380, 381, 382, 383, 384, 385, 386, 387, 388, 389, 390, 391, 392, 393, 394, 395, 396, 397, 398, 399, 400, 401].all cbT = true := by decide +kernel
theorem cb_402 : [402, 403, 404, 405, 406, 407, 408, 409, 410, 411, 412, 413, 414, 415, 416, 417, 418, 419, 420, 421, 422, 423, 424, 425, 426, 427, 428, 429, 430, 431, 432, 433, 434, 435, 436, 437, 438, 439, 440, 441, 442, 443, 444, 445, 446, 447, 448, 449, 450, 451].all cbT = true := by decide +kernel
theorem cb_452 : [452, 453, 454, 455, 456, 457, 458, 459, 460, 461, 462, 463, 464, 465, 466, 467, 468, 469, 470, 471, 472, 473, 474, 475, 476, 477, 478, 479, 480, 481, 482, 483, 484, 485, 486, 487, 488, 489, 490, 491, 492, 493, 494, 495, 496, 497, 498, 499, 500, 501].all cbT = true := by decide +kernel
theorem cb_502 : [502, 503, 504, 505, 506, 507, 508, 509, 510, 511, 512, 513, 514, 515, 516, 517, 518, 519, 520, 521, 522, 523, 524, 525, 526, 527, 528, 529, 530, 531, 532, 533, 534, 535, 536, 537, 538, 539, 540, 541, 542, 543, 544, 545, 546, 547, 548, 549, 550, 551].all cbT = true := by decide +kernel
theorem cb_552 : [552, 553, 554, 555, 556, 557, 558, 559, 560, 561, 562, 563, 564, 565, 566, 567, 568, 569, 570, 571, 572, 573, 574, 575, 576, 577, 578, 579, 580, 581, 582, 583, 584, 585, 586, 587, 588, 589, 590, 591, 592, 593, 594, 595, 596, 597, 598, 599, 600, 601].all cbT = true := by decide +kernel
end Xq

/-! Third roots. -/
namespace Xq
open PySem
theorem cb_602 : [602, 603, 604, 605, 606, 607, 608, 609, 610, 611, 612, 613, 614, 615, 616, 617, 618, 619, 620, 621, 622, 623, 624, 625, 626, 627, 628, 629, 630, 631, 632, 633, 634, 635, 636, 637, 638, 639, 640, 641, 642, 643, 644, 645, 646, 647, 648, 649, 650, 651].all cbT = true := by decide +kernel
theorem cb_652 : [652, 653, 654, 655, 656, 657, 658, 659, 660, 661, 662, 663, 664, 665, 666, 667, 668, 669, 670, 671, 672, 673, 674, 675, 676, 677, 678, 679, 680, 681, 682, 683, 684, 685, 686, 687, 688, 689, 690, 691, 692, 693, 694, 695, 696, 697, 698, 699, 700, 701].all cbT = true := by decide +kernel
theorem cb_702 : [702, 703, 704, 705, 706, 707, 708, 709, 710, 711, 712, 713, 714, 715, 716, 717, 718, 719, 720, 721, 722, 723, 724, 725, 726, 727, 728, 729, 730, 731, 732, 733, 734, 735, 736, 737, 738, 739, 740, 741, 742, 743, 744, 745, 746, 747, 748, 749, 750, 751].all cbT = true := by decide +kernel
theorem cb_752 : [752, 753, 754, 755, 756, 757, 758, 759, 760, 761, 762, 763, 764, 765, 766, 767, 768, 769, 770, 771, 772, 773, 774, 775, 776, 777, 778, 779, 780, 781, 782, 783, 784, 785, 786, 787, 788, 789, 790, 791, 792, 793, 794, 795, 796, 797, 798, 799, 800, 801].all cbT = true := by decide +kernel
theorem cb_802 : [802, 803, 804, 805, 806, 807, 808, 809, 810, 811, 812, 813, 814, 815, 816, 817, 818, 819, 820, 821, 822, 823, 824, 825, 826, 827, 828, 829, 830, 831, 832, 833, 834, 835, 836, 837, 838, 839, 840, 841, 842, 843, 844, 845, 846, 847, 848, 849, 850, 851].all cbT = true := by decide +kernel
theorem cb_852 : [852, 853, 854, 855, 856, 857, 858, 859, 860, 861, 862, 863, 864, 865, 866, 867, 868, 869, 870, 871, 872, 873, 874, 875, 876, 877, 878, 879, 880, 881, 882, 883, 884, 885, 886, 887, 888, 889, 890, 891, 892, 893, 894, 895, 896, 897, 898, 899, 900, 901].all cbT = true := by decide +kernel
end Xq

/-! The law's shapes, known. -/
namespace Xq
open PySem PySem.Spec PyProof.Rows L2
theorem rd_spec (n : Int) : ∀ (m : Nat) (f : Int), 0 ≤ f → f * f ≤ n → n < (f + m + 1) * (f + m + 1) → okRd n m f = true ∧ rdS n m f * rdS n m f ≤ n ∧ n < (rdS n m f + 1) * (rdS n m f + 1) ∧ f ≤ rdS n m f
  | 0, f, h0, h1, h2 => by
    have h2 : n < (f + 0 + 1) * (f + 0 + 1) := h2
    rw [Int.add_zero] at h2
    exact ⟨decide_eq_true h2, h1, h2, Int.le_refl _⟩
  | m + 1, f, h0, h1, h2 => by
    unfold okRd rdS
    by_cases q : (f + 1) * (f + 1) ≤ n
    · have e : f + ((m + 1 : Nat) : Int) + 1 = f + 1 + m + 1 := by omega
      rw [e] at h2
      obtain ⟨a, b, c, d⟩ := rd_spec n m (f + 1) (by omega) q h2
      rw [if_pos q, a, Bool.or_true]
      exact ⟨rfl, b, c, by omega⟩
    · rw [if_neg q, decide_eq_true (show n < (f + 1) * (f + 1) by omega)]
      exact ⟨rfl, h1, by omega, Int.le_refl _⟩
theorem sq_lt_iff {a b : Int} (ha : 0 ≤ a) (hb : 0 ≤ b) (h : a * a < b * b) : a < b := by
  rcases Int.lt_or_le a b with q | q
  · exact q
  · have := sq_up hb q
    omega
theorem rd_of {n : Int} (h1 : 1 ≤ n) (h2 : n ≤ 400) : okRd n 40 0 = true ∧ rdL n * rdL n ≤ n ∧ n < (rdL n + 1) * (rdL n + 1) ∧ 1 ≤ rdL n ∧ rdL n ≤ 20 := by
  obtain ⟨a, b, c, d⟩ := rd_spec n 40 0 (by decide) (by omega) (by show n < 41 * 41; omega)
  have b : rdL n * rdL n ≤ n := b
  have c : n < (rdL n + 1) * (rdL n + 1) := c
  have d : 0 ≤ rdL n := d
  refine ⟨a, b, c, ?_, ?_⟩
  · rcases Int.lt_or_le 0 (rdL n) with q | q
    · exact q
    · have e : rdL n = 0 := by omega
      rw [e] at c
      omega
  · have := sq_lt_iff (a := rdL n) (b := 21) d (by decide) (by omega)
    omega
theorem nosq {n d : Int} (d0 : 0 ≤ d) (h1 : d * d ≤ n) (h2 : n < (d + 1) * (d + 1)) (h3 : d * d ≠ n) (v : Int) : v * v ≠ n := fun e => by
  have hv : v * v = (v.natAbs : Int) * (v.natAbs : Int) := by
    rw [Int.natAbs_mul_self']
  have p : (0 : Int) ≤ (v.natAbs : Int) := Int.natCast_nonneg _
  rw [hv] at e
  have a := sq_lt_iff (a := d) (b := (v.natAbs : Int)) d0 p (by omega)
  have b := sq_lt_iff (a := (v.natAbs : Int)) (b := d + 1) p (by omega) (by omega)
  omega
theorem nosq4 {n : Int} (h : ∀ v : Int, v * v ≠ n) (u : Int) : u * u ≠ 4 * n := fun e => by
  rcases Int.emod_two_eq u with z | z
  · obtain ⟨v, rfl⟩ : ∃ v, u = 2 * v := ⟨u / 2, by omega⟩
    have : 2 * v * (2 * v) = 4 * (v * v) := by grind
    exact h v (by omega)
  · obtain ⟨v, rfl⟩ : ∃ v, u = 2 * v + 1 := ⟨u / 2, by omega⟩
    have : (2 * v + 1) * (2 * v + 1) = 4 * (v * v) + 4 * v + 1 := by grind
    omega
section
variable {c m : Int}
theorem Qd.upv (h : Qd c m) (t : Int) : ((2 * t + m) * (2 * t + m) < dis c m → upL (qC c m) t 1 = 1) ∧
    (dis c m ≤ (2 * t + m) * (2 * t + m) → 2 * t + m < 0 → upL (qC c m) t 1 = 0) ∧ (dis c m ≤ (2 * t + m) * (2 * t + m) → 0 ≤ 2 * t + m → upL (qC c m) t 1 = 2) := by
  obtain ⟨a, b, d⟩ := h.cnt t
  rw [h.up]
  exact ⟨fun q => by rw [a q]; rfl, fun q r => by rw [b q r]; rfl, fun q r => by rw [d q r]; rfl⟩
/-- how the floors lie, by what is at integers -/
theorem Qd.hi (h : Qd c m) {r t : Int} (hr : r = 0 ∨ r = 1) (h0 : upL (qC c m) 0 1 ≤ r) (u : upL (qC c m) t 1 > r) : (strL [c, m, 1] r).2 = 64 ∧ (strL [c, m, 1] r).1 < t * 2 ^ 64 := by
  obtain ⟨_, z, z0, hz, M, e⟩ := h.str hr h0
  rw [e]
  refine ⟨rfl, ?_⟩
  have l := (hz t).mp u
  have q := (M.inv 64).2.1
  have : (z + 1) * 2 ^ 64 ≤ t * 2 ^ 64 := Int.mul_le_mul_of_nonneg_right (by omega) (Int.le_of_lt (two_pos 64))
  show flS _ _ _ 64 < _
  omega
theorem Qd.lo (h : Qd c m) {r t : Int} (hr : r = 0 ∨ r = 1) (h0 : upL (qC c m) 0 1 ≤ r) (u : upL (qC c m) t 1 ≤ r) : (strL [c, m, 1] r).2 = 64 ∧ t * 2 ^ 64 ≤ (strL [c, m, 1] r).1 := by
  obtain ⟨_, z, z0, hz, M, e⟩ := h.str hr h0
  rw [e]
  refine ⟨rfl, ?_⟩
  have l : ¬ t > z := fun q => by have := (hz t).mpr q; omega
  have q := (M.inv 64).1
  have : t * 2 ^ 64 ≤ z * 2 ^ 64 := Int.mul_le_mul_of_nonneg_right (by omega) (Int.le_of_lt (two_pos 64))
  show _ ≤ flS _ _ _ 64
  omega
end
theorem mem20 {d : Int} (h1 : 1 ≤ d) (h2 : d ≤ 20) : ∃ n : Nat, d = n ∧ n ∈ [1, 2, 3, 4, 5, 6, 7, 8, 9, 10, 11, 12, 13, 14, 15, 16, 17, 18, 19, 20] := by
  obtain ⟨n, rfl⟩ := Int.eq_ofNat_of_zero_le (show 0 ≤ d by omega)
  refine ⟨n, rfl, ?_⟩
  have a : 1 ≤ n := by omega
  have b : n ≤ 20 := by omega
  clear h1 h2
  simp only [List.mem_cons, List.not_mem_nil, or_false]
  omega
theorem mem21 {d : Int} (h1 : 2 ≤ d) (h2 : d ≤ 21) : ∃ n : Nat, d = n ∧ n ∈ [2, 3, 4, 5, 6, 7, 8, 9, 10, 11, 12, 13, 14, 15, 16, 17, 18, 19, 20, 21] := by
  obtain ⟨n, rfl⟩ := Int.eq_ofNat_of_zero_le (show 0 ≤ d by omega)
  refine ⟨n, rfl, ?_⟩
  have a : 2 ≤ n := by omega
  have b : n ≤ 21 := by omega
  clear h1 h2
  simp only [List.mem_cons, List.not_mem_nil, or_false]
  omega
/-- a square's root -/
theorem sq_yes {d : Int} (h1 : 1 ≤ d) (h2 : d ≤ 20) : Of [-(d * d), 0, 1] d 1 (d + 1) 1 [-d, 1] 0 := by
  obtain ⟨n, rfl, hn⟩ := mem20 h1 h2
  have q := List.all_eq_true.mp sq_all n hn
  have e1 : ((n : Int) * (n : Int)) = ((n * n : Nat) : Int) := (Int.natCast_mul n n).symm
  have e2 : ((n : Int) + 1) = ((n + 1 : Nat) : Int) := by omega
  rw [e1, e2]
  exact .of q
/-- an integer as a shape -/
theorem li_of {d : Int} (h1 : 2 ≤ d) (h2 : d ≤ 21) : Of [-d, 1] 0 1 99 1 [-d, 1] 0 ∧ strL [-d, 1] 0 = (d * 2 ^ 64, 64) := by
  obtain ⟨n, rfl, hn⟩ := mem21 h1 h2
  have q := List.all_eq_true.mp li_all n hn
  obtain ⟨a, b⟩ := Bool.and_eq_true_iff.mp q
  exact ⟨.of a, of_decide_eq_true b⟩
theorem one_of : Of [-1, 1] 0 1 9 1 [-1, 1] 0 ∧ strL [-1, 1] 0 = (2 ^ 64, 64) := by
  obtain ⟨a, b⟩ := Bool.and_eq_true_iff.mp one_all
  exact ⟨.of a, of_decide_eq_true b⟩
theorem fi_of {d : Int} (h1 : 2 ≤ d) (h2 : d ≤ 21) : Of [-d, 0, 0, 0, 0, 1] 1 1 2 1 [-d, 0, 0, 0, 0, 1] 0 ∧ okLess [-1, 1] [-d, 0, 0, 0, 0, 1] 0 0 = true ∧ (strL [-1, 1] 0).1 < (strL [-d, 0, 0, 0, 0, 1] 0).1 := by
  obtain ⟨n, rfl, hn⟩ := mem21 h1 h2
  have q := List.all_eq_true.mp fi_all n hn
  obtain ⟨ab, c⟩ := Bool.and_eq_true_iff.mp q
  obtain ⟨a, b⟩ := Bool.and_eq_true_iff.mp ab
  have b : strL [-(n : Int), 0, 0, 0, 0, 1] 0 = ((strL [-(n : Int), 0, 0, 0, 0, 1] 0).1, 64) := of_decide_eq_true b
  have c : 2 ^ 64 < (strL [-(n : Int), 0, 0, 0, 0, 1] 0).1 := of_decide_eq_true c
  have e2 : (strL [-(n : Int), 0, 0, 0, 0, 1] 0).2 = 64 := by rw [b]
  refine ⟨.of a, ?_, ?_⟩
  · unfold okLess
    rw [one_of.2, decide_eq_true e2]
    have : ¬ (2 ^ 64 : Int) = (strL [-(n : Int), 0, 0, 0, 0, 1] 0).1 := by omega
    show (true && true && !decide ((2 ^ 64 : Int) = (strL [-(n : Int), 0, 0, 0, 0, 1] 0).1)) = true
    rw [decide_eq_false this]
    rfl
  · rw [one_of.2]
    exact c
/-- a root of no square -/
theorem sq_no {n d : Int} (n1 : 1 ≤ n) (n2 : n ≤ 400) (d1 : 1 ≤ d) (d2 : d ≤ 20) (h1 : d * d ≤ n) (h2 : n < (d + 1) * (d + 1)) (h3 : d * d ≠ n) :
    Of [-n, 0, 1] d 1 (d + 1) 1 [-n, 0, 1] 1 ∧ okLess [-n, 0, 1] [-(d + 1), 1] 1 0 = true ∧ (strL [-n, 0, 1] 1).1 < (strL [-(d + 1), 1] 0).1 := by
  have ed : dis (-n) 0 = 4 * n := by
    unfold dis
    omega
  have Q : Qd (-n) 0 := ⟨by omega, by omega, by decide, by decide, by omega, fun u => by rw [ed]; exact nosq4 (nosq (by omega) h1 h2 h3) u⟩
  have sqx : ∀ t : Int, (2 * t + 0) * (2 * t + 0) = 4 * (t * t) := fun t => by grind
  have u0 : upL (qC (-n) 0) 0 1 = 1 := (Q.upv 0).1 (by rw [sqx, ed]; omega)
  have u1 : upL (qC (-n) 0) d 1 = 1 := (Q.upv d).1 (by rw [sqx, ed]; omega)
  have u2 : upL (qC (-n) 0) (d + 1) 1 = 2 := (Q.upv (d + 1)).2.2 (by rw [sqx, ed]; omega) (by omega)
  obtain ⟨a, b⟩ := Q.hi (.inr rfl) (by omega) (t := d + 1) (by omega)
  have e := (li_of (d := d + 1) (by omega) (by omega)).2
  refine ⟨Q.of (.inr rfl) (by omega) (by omega) (by omega) (by omega) u1 u2, ?_, ?_⟩
  · unfold okLess
    rw [e, decide_eq_true a]
    show (true && true && !decide ((strL [-n, 0, 1] 1).1 = (d + 1) * 2 ^ 64)) = true
    rw [decide_eq_false (by omega)]
    rfl
  · rw [e]
    exact b
/-- a sum of a whole number and a root -/
theorem pair_of {n w : Int} (n1 : 1 ≤ n) (w1 : 1 ≤ w) (w2 : w ≤ 20) (hw : n < w * w) (hns : ∀ v : Int, v * v ≠ n) :
    Of [w * w - n, -2 * w, 1] w 1 (2 * w) 1 [w * w - n, -2 * w, 1] 1 ∧ Of [w * w - n, -2 * w, 1] 0 1 w 1 [w * w - n, -2 * w, 1] 0 ∧
    okLess [w * w - n, -2 * w, 1] [w * w - n, -2 * w, 1] 0 1 = true ∧ okLess [w * w - n, -2 * w, 1] [w * w - n, -2 * w, 1] 1 0 = true ∧ (strL [w * w - n, -2 * w, 1] 0).1 < (strL [w * w - n, -2 * w, 1] 1).1 ∧
    okTT [w * w - n, -2 * w, 1] 0 = true ∧ (txL (ttR [w * w - n, -2 * w, 1] 0) (ttE [w * w - n, -2 * w, 1]) = txL 1 [w * w - n, -2 * w, 1] ↔ w * w - n = 1) ∧ txL 0 [w * w - n, -2 * w, 1] ≠ txL 1 [w * w - n, -2 * w, 1] := by
  have ww : w * w ≤ 20 * 20 := sq_up (by omega) w2
  have ed : dis (w * w - n) (-2 * w) = 4 * n := by
    unfold dis
    have : -2 * w * (-2 * w) = 4 * (w * w) := by grind
    omega
  have Q : Qd (w * w - n) (-2 * w) := ⟨by omega, by omega, by omega, by omega, by omega, fun u => by rw [ed]; exact nosq4 hns u⟩
  generalize hc : w * w - n = c at *
  generalize hm : -2 * w = m at *
  have sqx : ∀ t : Int, (2 * t + m) * (2 * t + m) = 4 * ((t - w) * (t - w)) := fun t => by
    rw [← hm]
    grind
  have z0 : (0 - w) * (0 - w) = w * w := by grind
  have zw : (w - w) * (w - w) = 0 := by rw [Int.sub_self]; rfl
  have z2 : (2 * w - w) * (2 * w - w) = w * w := by grind
  have u0 : upL (qC c m) 0 1 = 0 := (Q.upv 0).2.1 (by rw [sqx, ed, z0]; omega) (by omega)
  have uw : upL (qC c m) w 1 = 1 := (Q.upv w).1 (by rw [sqx, ed, zw]; omega)
  have u2 : upL (qC c m) (2 * w) 1 = 2 := (Q.upv (2 * w)).2.2 (by rw [sqx, ed, z2]; omega) (by omega)
  obtain ⟨a1, a2⟩ := Q.hi (.inl rfl) (by omega) (t := w) (by omega)
  obtain ⟨b1, b2⟩ := Q.lo (.inr rfl) (by omega) (t := w) (by omega)
  obtain ⟨e1, e2⟩ := Q.chain
  have hcm : ∀ x ∈ [c, m, 1], x.natAbs ≤ 1000 := fun x hx => by
    simp only [List.mem_cons, List.not_mem_nil, or_false] at hx
    omega
  have hmc : ∀ x ∈ [1, m, c], x.natAbs ≤ 1000 := fun x hx => by
    simp only [List.mem_cons, List.not_mem_nil, or_false] at hx
    omega
  have eR : ttR [c, m, 1] 0 = 1 := by
    unfold ttR
    rw [e1, u0, Q.all]
    rfl
  have eE : ttE [c, m, 1] = [1, m, c] := by
    show (if c > 0 then [1, m, c] else _) = _
    rw [if_pos (by omega)]
  refine ⟨Q.of (.inr rfl) (by omega) (by omega) (by omega) (by omega) uw u2, Q.of (.inl rfl) (by omega) (by omega) (by omega) (by omega) u0 (by omega), ?_, ?_, by omega, ?_, ?_, fun e => ?_⟩
  · unfold okLess
    rw [decide_eq_true a1, decide_eq_true b1, decide_eq_false (by omega)]
    rfl
  · unfold okLess
    rw [decide_eq_true a1, decide_eq_true b1, decide_eq_false (by omega)]
    rfl
  · have o1 := Q.okv (t := 0) (b := 1) (sm9 (by decide) (by decide)) (sm9 (by decide) (by decide))
    have o2 := Q.okv (t := reachL [c, m, 1]) (b := 1) (sm9 (by have := reach_q c m; omega) (by have := Q.reach; omega)) (sm9 (by decide) (by decide))
    have e3 : (qC c m).headD [] = [c, m, 1] := rfl
    unfold okTT
    rw [eR, eE, e2, e1, Q.okU, o1, e3, o2, okTx_of (r := 1) (xs := [1, m, c]) (by decide) (show 3 ≤ 6 by decide) hmc]
    rfl
  · rw [eR, eE]
    refine ⟨fun e => ?_, fun e => by rw [e]⟩
    have q := (tx_inj (r := 1) (r' := 1) (xs := [1, m, c]) (ys := [c, m, 1]) (by decide) (by decide) hmc hcm (List.cons_ne_nil _ _) (List.cons_ne_nil _ _) e).2
    exact (List.cons.inj q).1.symm
  · have q := tx_inj (r := 0) (r' := 1) (xs := [c, m, 1]) (ys := [c, m, 1]) (by decide) (by decide) hcm hcm (List.cons_ne_nil _ _) (List.cons_ne_nil _ _) e
    have q1 : (0 : Int) = 1 := q.1
    omega
/-! ### third roots -/
theorem cb_mem {n : Nat} (h1 : 2 ≤ n) (h2 : n ≤ 901) : cbT n = true := by
  rcases Nat.lt_or_ge n 52 with q2 | q2
  · refine List.all_eq_true.mp cb_2 n ?_
    simp only [List.mem_cons, List.not_mem_nil, or_false]
    omega
  rcases Nat.lt_or_ge n 102 with q52 | q52
  · refine List.all_eq_true.mp cb_52 n ?_
    simp only [List.mem_cons, List.not_mem_nil, or_false]
    omega
  rcases Nat.lt_or_ge n 152 with q102 | q102
  · refine List.all_eq_true.mp cb_102 n ?_
    simp only [List.mem_cons, List.not_mem_nil, or_false]
    omega
  rcases Nat.lt_or_ge n 202 with q152 | q152
  · refine List.all_eq_true.mp cb_152 n ?_
    simp only [List.mem_cons, List.not_mem_nil, or_false]
    omega
  rcases Nat.lt_or_ge n 252 with q202 | q202
  · refine List.all_eq_true.mp cb_202 n ?_
    simp only [List.mem_cons, List.not_mem_nil, or_false]
    omega
  rcases Nat.lt_or_ge n 302 with q252 | q252
  · refine List.all_eq_true.mp cb_252 n ?_
    simp only [List.mem_cons, List.not_mem_nil, or_false]
    omega
  rcases Nat.lt_or_ge n 352 with q302 | q302
  · refine List.all_eq_true.mp cb_302 n ?_
    simp only [List.mem_cons, List.not_mem_nil, or_false]
    omega
  rcases Nat.lt_or_ge n 402 with q352 | q352
  · refine List.all_eq_true.mp cb_352 n ?_
    simp only [List.mem_cons, List.not_mem_nil, or_false]
    omega
  rcases Nat.lt_or_ge n 452 with q402 | q402
  · refine List.all_eq_true.mp cb_402 n ?_
    simp only [List.mem_cons, List.not_mem_nil, or_false]
    omega
  rcases Nat.lt_or_ge n 502 with q452 | q452
  · refine List.all_eq_true.mp cb_452 n ?_
    simp only [List.mem_cons, List.not_mem_nil, or_false]
    omega
  rcases Nat.lt_or_ge n 552 with q502 | q502
  · refine List.all_eq_true.mp cb_502 n ?_
    simp only [List.mem_cons, List.not_mem_nil, or_false]
    omega
  rcases Nat.lt_or_ge n 602 with q552 | q552
  · refine List.all_eq_true.mp cb_552 n ?_
    simp only [List.mem_cons, List.not_mem_nil, or_false]
    omega
  rcases Nat.lt_or_ge n 652 with q602 | q602
  · refine List.all_eq_true.mp cb_602 n ?_
    simp only [List.mem_cons, List.not_mem_nil, or_false]
    omega
  rcases Nat.lt_or_ge n 702 with q652 | q652
  · refine List.all_eq_true.mp cb_652 n ?_
    simp only [List.mem_cons, List.not_mem_nil, or_false]
    omega
  rcases Nat.lt_or_ge n 752 with q702 | q702
  · refine List.all_eq_true.mp cb_702 n ?_
    simp only [List.mem_cons, List.not_mem_nil, or_false]
    omega
  rcases Nat.lt_or_ge n 802 with q752 | q752
  · refine List.all_eq_true.mp cb_752 n ?_
    simp only [List.mem_cons, List.not_mem_nil, or_false]
    omega
  rcases Nat.lt_or_ge n 852 with q802 | q802
  · refine List.all_eq_true.mp cb_802 n ?_
    simp only [List.mem_cons, List.not_mem_nil, or_false]
    omega
  rcases Nat.lt_or_ge n 902 with q852 | q852
  · refine List.all_eq_true.mp cb_852 n ?_
    simp only [List.mem_cons, List.not_mem_nil, or_false]
    omega
  omega
/-- a third root -/
theorem cb_of {n : Nat} (h1 : 2 ≤ n) (h2 : n ≤ 901) : (∀ k l, sideL n = k :: l → Of [-(n : Int), 0, 0, 1] 0 1 99 1 [-(k : Int), 1] 0) ∧ (sideL n = [] → Of [-(n : Int), 0, 0, 1] 0 1 99 1 [-(n : Int), 0, 0, 1] 0) := by
  have q := cb_mem h1 h2
  unfold cbT at q
  refine ⟨fun k l e => ?_, fun e => ?_⟩
  · rw [e] at q
    exact .of q
  · rw [e] at q
    exact .of q
/-! ### texts -/
theorem tl_add (a b : Str) : TL.tl (a ++ b) = TL.tl a ++ TL.tl b := TL.tl_append a b
theorem tx_lin (k : Int) : txL 0 [k, 1] = Str.ofString "root 0 of " ++ W k ++ Str.ofString " 1" := by
  refine TL.ext_tl ?_
  rw [tl_tx, tl_add, tl_add]
  show [114, 111, 111, 116, 32] ++ (TL.tl (W 0) ++ ([32, 111, 102, 32] ++ (TL.tl (W k) ++ ([32] ++ TL.tl (W 1))))) = _
  rw [show TL.tl (W 0) = [48] from rfl, show TL.tl (W 1) = [49] from rfl, show TL.tl (Str.ofString "root 0 of ") = [114, 111, 111, 116, 32, 48, 32, 111, 102, 32] from rfl, show TL.tl (Str.ofString " 1") = [32, 49] from rfl]
  simp
theorem tx_sq (k : Int) : txL 1 [k, 0, 1] = Str.ofString "root 1 of " ++ W k ++ Str.ofString " 0 1" := by
  refine TL.ext_tl ?_
  rw [tl_tx, tl_add, tl_add]
  show [114, 111, 111, 116, 32] ++ (TL.tl (W 1) ++ ([32, 111, 102, 32] ++ (TL.tl (W k) ++ ([32] ++ (TL.tl (W 0) ++ ([32] ++ TL.tl (W 1))))))) = _
  rw [show TL.tl (W 0) = [48] from rfl, show TL.tl (W 1) = [49] from rfl, show TL.tl (Str.ofString "root 1 of ") = [114, 111, 111, 116, 32, 49, 32, 111, 102, 32] from rfl, show TL.tl (Str.ofString " 0 1") = [32, 48, 32, 49] from rfl]
  simp
theorem tx_cb (k : Int) : txL 0 [k, 0, 0, 1] = Str.ofString "root 0 of " ++ W k ++ Str.ofString " 0 0 1" := by
  refine TL.ext_tl ?_
  rw [tl_tx, tl_add, tl_add]
  show [114, 111, 111, 116, 32] ++ (TL.tl (W 0) ++ ([32, 111, 102, 32] ++ (TL.tl (W k) ++ ([32] ++ (TL.tl (W 0) ++ ([32] ++ (TL.tl (W 0) ++ ([32] ++ TL.tl (W 1))))))))) = _
  rw [show TL.tl (W 0) = [48] from rfl, show TL.tl (W 1) = [49] from rfl, show TL.tl (Str.ofString "root 0 of ") = [114, 111, 111, 116, 32, 48, 32, 111, 102, 32] from rfl, show TL.tl (Str.ofString " 0 0 1") = [32, 48, 32, 48, 32, 49] from rfl]
  simp
theorem pre_len (s : String) (h : (Str.ofString s).length ≤ 20) {i : Int} (hi : i.natAbs ≤ 1000) : (Str.ofString s).length + (W i).length ≤ 30 ∧ (Str.ofString s ++ W i).length ≤ 30 := by
  have := w_len hi
  have e : (Str.ofString s ++ W i).length = (Str.ofString s).length + (W i).length := by
    rw [TL.len_tl, TL.len_tl, TL.len_tl, tl_add, List.length_append]
  omega
end Xq

/-! _law_right. -/
namespace Xq
open PySem PySem.Spec PyProof.Rows L2
theorem SameX.tr {r : Addr} {H H1 H2 : Hp} (a : SameX r H H1) (b : SameX r H1 H2) : SameX r H H2 := fun c o n e => b c o n (a c o n e)
theorem SameX.fr {r : Addr} {H H' : Hp} (k : Same H H') : SameX r H H' := fun b o _ e => k b o e
theorem sp_of {C : Addr} {H : Hp} {Q : VK} {p l h : Addr} {xs ls : List Int} {a c r : Int} (O : Of xs a 1 c 1 ls r) (hp : TI H p xs) (hl : TI H l [a, 1]) (hh : TI H h [c, 1])
    (k : ∀ sh H', Same H H' → ShpG C H' sh (txL r ls) r ls → Q (.ref sh) H') : spOfG C ([.ref p, .ref l, .ref h] ++ []) H Q L2.E0 := by
  refine ⟨p, l, h, xs, a, 1, c, 1, rfl, hp, hl, hh, O.ok, ?_⟩
  rintro v H' s ⟨sh, rfl, hs⟩
  rw [O.eT, O.eR, O.eL] at hs
  exact k sh H' s hs
def nI (ss : List Nat) : List V := ss.map fun n : Nat => V.int (n : Int)
theorem dp_nats {K : PySem.W.Frag} {H : Hp} (l : List Nat) : DpAll K H (nI l) (l.map fun n : Nat => PyData.int (n : Int)) := by
  induction l with
  | nil => exact .nil
  | cons b r ih => exact .cons (.int _) ih
theorem sh_nats (l : List Nat) : SeqAt.shaped (.list (l.map fun n : Nat => PyData.int (n : Int))) = true := by
  have e1 : PyData.canLayAll0 (l.map fun n : Nat => PyData.int (n : Int)) = true := by
    induction l with
    | nil => rfl
    | cons b r ih =>
      show (PyData.canLay0 (.int (b : Int)) && PyData.canLayAll0 (r.map fun n : Nat => PyData.int (n : Int))) = true
      rw [ih]
      first | done | rfl
  have e2 : ∀ l : List Nat, PyData.depthAll (l.map fun n : Nat => PyData.int (n : Int)) = 0 := by
    intro l
    induction l with
    | nil => rfl
    | cons b r ih =>
      simp only [List.map_cons, PyData.depthAll, PyData.depth, ih]
      rfl
  unfold SeqAt.shaped
  rw [Bool.and_eq_true]
  refine ⟨e1, decide_eq_true ?_⟩
  simp only [PyData.depth, e2]
  decide
abbrev nSi : List Str := ["_law_well_here", "_law_many", "_law_found", "_law_left", "_law_turn", "_law_take"]
/-- the sides found so far -/
def sdP (n i : Nat) : List Nat := ((List.range i).map fun j => j + 2).filter fun k => k * k * k == n
theorem sdP_8 (n : Nat) : sdP n 8 = sideL n := rfl
theorem sdP_step (n i : Nat) : sdP n (i + 1) = sdP n i ++ if (i + 2) * (i + 2) * (i + 2) = n then [i + 2] else [] := by
  unfold sdP
  rw [List.range_succ, List.map_append, List.filter_append]
  congr 1
  show List.filter _ [i + 2] = _
  by_cases h : (i + 2) * (i + 2) * (i + 2) = n
  · rw [if_pos h, List.filter_cons_of_pos (by simpa using h)]
    rfl
  · rw [if_neg h, List.filter_cons_of_neg (by simpa using h)]
    rfl
theorem sdP_len (n i : Nat) : (sdP n i).length ≤ i := by
  unfold sdP
  refine Nat.le_trans (List.length_filter_le ..) ?_
  rw [List.length_map, List.length_range]
  exact Nat.le_refl _
theorem fresh2 {H : Hp} {l h : Addr} {ys zs : List V} (hl : H l = none) (hh : upd H l (.tup ys) h = none) :
    Same H (upd (upd H l (.tup ys)) h (.tup zs)) ∧ upd (upd H l (.tup ys)) h (.tup zs) l = some (.tup ys) ∧ upd (upd H l (.tup ys)) h (.tup zs) h = some (.tup zs) := by
  have s2 := same_new (o := .tup ys) hl
  have s3 := same_new (o := .tup zs) hh
  exact ⟨s2.trans s3, s3 _ _ upd_same, upd_same⟩
theorem fresh3 {H : Hp} {p l h : Addr} {xs ys zs : List V} (hp : H p = none) (hl : upd H p (.tup xs) l = none) (hh : upd (upd H p (.tup xs)) l (.tup ys) h = none) :
    Same H (upd (upd (upd H p (.tup xs)) l (.tup ys)) h (.tup zs)) ∧ upd (upd (upd H p (.tup xs)) l (.tup ys)) h (.tup zs) p = some (.tup xs) ∧ upd (upd (upd H p (.tup xs)) l (.tup ys)) h (.tup zs) l = some (.tup ys) ∧ upd (upd (upd H p (.tup xs)) l (.tup ys)) h (.tup zs) h = some (.tup zs) := by
  have s1 := same_new (o := .tup xs) hp
  have s2 := same_new (o := .tup ys) hl
  have s3 := same_new (o := .tup zs) hh
  exact ⟨s1.trans (s2.trans s3), s3 _ _ (s2 _ _ upd_same), s3 _ _ upd_same, upd_same⟩
section
variable {P : Program} {w : World} {K : PySem.W.Frag} {mg : Str → Option Value} {base : Heap} {C : Addr}
abbrev nLR : List Str := ["_law_tub_here", "_law_square_here", "_law_whole", "_law_down", "_law_thing", "_law_inner", "_law_terms", "_law_great", "_law_small", "_law_cube", "_law_third", "_law_side", "_law_k", "_law_fifth"]
theorem l67 : FnScope nLR ["_law_tub_here"] (defScope (top 67)) := (⟨rfl, rfl, rfl, by decide +kernel, rfl, by decide +kernel, by decide +kernel⟩)
abbrev spRight : Sp := Prx (α := Addr) (fun a => [.ref a]) (fun a H Q => RkI H a ∧ ∀ H', SameX a H H' → Q (.bl true) H')
theorem c_right (D : Df K mg "_law_right" (top 67)) (U : All P w K mg base C) (CT : Cal P w K mg base 1 "_law_tap" ["_law_tub_here", "_law_amount"] spTap) (CR : Cal P w K mg base 1 "_law_root_down" ["_law_number"] spRd) : Cal P w K mg base 12 "_law_right" ["_law_tub_here"] spRight := by
  refine mkP D l67 (fun _ _ _ _ _ _ us hl => match us, hl with | [_], _ => rfl) (fun _ => rfl) (fun f cdv A outer s H tub Q E hr k => ?_)
  obtain ⟨hR, k⟩ := k
  have B := U.B
  have S := U.S
  have hu : (A.deeper (envOfC "_law_right" (defScope (top 67)) s.heap.objs.size f cdv)).units + 64 < cLine := by have := hr.un; omega
  have r10 : Room (0 + 10) (A.deeper (envOfC "_law_right" (defScope (top 67)) s.heap.objs.size f cdv)) := hr.mono (by decide)
  have r2 : Room (0 + 2) (A.deeper (envOfC "_law_right" (defScope (top 67)) s.heap.objs.size f cdv)) := hr.mono (by decide)
  refine ⟨_, pss_cons (ps_par (i := 1) (j := 2) rfl l67.nd rfl rfl (by decide) rfl rfl (pa_cons (pe_op op_add pe_int (pe_cl CT hr (pa_cons (pv 0) (pa_cons pe_int pa_nil)))) (pa_cons (pe_op op_add pe_int (pe_cl CT hr (pa_cons (pv 0) (pa_cons pe_int pa_nil)))) pa_nil)) rfl)
    (pss_cons ((ps_set (i := 3) (FnScope.nd l67) rfl (Or.inl rfl) (pe_cl CR hr (pa_cons (pv 1) pa_nil))))
    (pss_cons ((ps_set (i := 4) (FnScope.nd l67) rfl (Or.inl rfl) (pe_of U (pa_cons (pe_tup (pa_cons (pe_un un_neg (pv 1)) (pa_cons pe_int (pa_cons pe_int pa_nil)))) (pa_cons (pe_tup (pa_cons (pv 3) (pa_cons pe_int pa_nil))) (pa_cons (pe_tup (pa_cons (pe_op op_add (pv 3) pe_int) (pa_cons pe_int pa_nil))) pa_nil))) r10 (by rfl))))
    (C8.pss_cut (ps_if ((pt_cmpR op_eq (pe_op op_mulW (pv 3) (pv 3)) (pv 1) (nomark _)))
        (pss_one (ps_if ((pt_cmpR op_ne (pe_txtG (j := 0) S (pv 4) r2) (pe_op op_add_str (pe_op op_add_str pe_str (pe_callTy call_str_int (by rfl) B.str_ PyProof.Rows.boot_str (pa_cons (pe_un un_neg (pv 3)) pa_nil))) pe_str) (nomark _))) pss_nv pss_nil))
        (pss_one (ps_if ((pt_cmpR op_ne (pe_txtG (j := 0) S (pv 4) r2) (pe_op op_add_str (pe_op op_add_str pe_str (pe_callTy call_str_int (by rfl) B.str_ PyProof.Rows.boot_str (pa_cons (pe_un un_neg (pv 1)) pa_nil))) pe_str) (nomark _))) pss_nv
          (pss_one (ps_if (pt_not (pt_val (pe_cl U.less hr (pa_cons (pv 4) (pa_cons (pe_of U (pa_cons (pe_tup (pa_cons (pe_op op_sub (pe_un un_neg (pv 3)) pe_int) (pa_cons pe_int pa_nil))) (pa_cons (pe_tup (pa_cons pe_int (pa_cons pe_int pa_nil))) (pa_cons (pe_tup (pa_cons pe_int (pa_cons pe_int pa_nil))) pa_nil))) r10 (by rfl)) pa_nil))))) pss_nv pss_nil)))))
    (C8.pss_cut (ps_if (PW.pt (pw_and ((pt_cmpR op_ne (pe_op op_mulW (pv 3) (pv 3)) (pv 1) (nomark _))) (pw_and1 ((pt_cmpR op_gt (pe_op op_mulW (pv 2) (pv 2)) (pv 1) (nomark _))))))
        (pss_cons ((ps_set (i := 5) (FnScope.nd l67) rfl (Or.inl rfl) (pe_op op_sub (pe_op op_mulW (pv 2) (pv 2)) (pv 1))))
        (pss_cons ((ps_set (i := 6) (FnScope.nd l67) rfl (Or.inl rfl) (pe_tup (pa_cons (pv 5) (pa_cons (pe_op op_mul (pe_un un_neg pe_int) (pv 2)) (pa_cons pe_int pa_nil))))))
        (pss_cons ((ps_set (i := 7) (FnScope.nd l67) rfl (Or.inl rfl) (pe_of U (pa_cons (pv 6) (pa_cons (pe_tup (pa_cons (pv 2) (pa_cons pe_int pa_nil))) (pa_cons (pe_tup (pa_cons (pe_op op_mul pe_int (pv 2)) (pa_cons pe_int pa_nil))) pa_nil))) r10 (by rfl))))
        (pss_cons ((ps_set (i := 8) (FnScope.nd l67) rfl (Or.inl rfl) (pe_of U (pa_cons (pv 6) (pa_cons (pe_tup (pa_cons pe_int (pa_cons pe_int pa_nil))) (pa_cons (pe_tup (pa_cons (pv 2) (pa_cons pe_int pa_nil))) pa_nil))) r10 (by rfl))))
        (pss_cons (ps_if (pt_cmpR (op_neD hu) (pe_lst (pa_cons (pe_rnkG (j := 0) S (pv 7) r2) (pa_cons (pe_rnkG (j := 0) S (pv 8) r2) (pa_cons (pe_eqnG (j := 0) S (pv 7) r2) (pa_cons (pe_eqnG (j := 0) S (pv 8) r2) pa_nil))))) (pe_lst (pa_cons pe_int (pa_cons pe_int (pa_cons (pv 6) (pa_cons (pv 6) pa_nil))))) (nomark _)) pss_nv pss_nil)
        (pss_one (ps_if (PW.pt (pw_or (pt_not (pt_val (pe_cl U.less hr (pa_cons (pv 8) (pa_cons (pv 7) pa_nil))))) (pw_or (pt_val (pe_cl U.less hr (pa_cons (pv 7) (pa_cons (pv 8) pa_nil)))) (pw_or1 ((pt_cmpR op_ne (pe_cl U.alike hr (pa_cons (pv 8) (pa_cons (pv 7) pa_nil))) (pe_cmpR op_eq (pv 5) pe_int (nomark _)) (nomark _))))))) pss_nv pss_nil))))))) pss_nil)
    (pss_cons (ps_set (i := 9) l67.nd rfl (Or.inr rfl) (pe_op op_add pe_int (pe_cl CT hr (pa_cons (pv 0) (pa_cons pe_int pa_nil)))))
    (pss_cons ((ps_set (i := 10) (FnScope.nd l67) rfl (Or.inl rfl) (pe_of U (pa_cons (pe_tup (pa_cons (pe_un un_neg (pv 9)) (pa_cons pe_int (pa_cons pe_int (pa_cons pe_int pa_nil))))) (pa_cons (pe_tup (pa_cons pe_int (pa_cons pe_int pa_nil))) (pa_cons (pe_tup (pa_cons pe_int (pa_cons pe_int pa_nil))) pa_nil))) r10 (by rfl))))
    (pss_cons (ps_setLc (i := 11) (own := [("_law_k", 12)]) (g := gName 12) (tt := tTest (tOp rEq (tOp (rI CMulW fun i j => .int (i * j)) (tOp (rI CMulW fun i j => .int (i * j)) (tVar 12) (tVar 12)) (tVar 12)) (tVar 9))) (te := tVar 12) rfl l67.nd rfl rfl (sw_true rfl rfl rfl (by decide +kernel)) (pi_range2 (by rfl) B.range_ (pa_cons pe_int (pa_cons pe_int pa_nil)))
        (blkOk_by (N := nLR) (sc := defScope (top 67)) (by decide +kernel)) (fun _ _ _ _ _ => (pg_name (i := 12) (FnScope.nd l67) rfl (Or.inl rfl))) (fun _ _ _ _ _ => pts_one ((pt_cmpR op_eq (pe_op op_mulW (pe_op op_mulW (pv 12) (pv 12)) (pv 12)) (pv 9) (nomark _)))) (fun _ _ _ _ _ => pv 12))
    (C8.pss_cut (ps_if ((pt_cmpR op_ne (pe_txtG (j := 0) S (pv 10) r2) (pe_ifExp (pt_cmpR (op_neD hu) (pv 11) (pe_lst pa_nil) (nomark _))
        (pe_op op_add_str (pe_op op_add_str pe_str (pe_callTy call_str_int (by rfl) B.str_ PyProof.Rows.boot_str (pa_cons (pe_un un_neg ((pe_ix ix_list (pv 11) pe_int (fun _ _ => rfl)))) pa_nil))) pe_str)
        (pe_op op_add_str (pe_op op_add_str pe_str (pe_callTy call_str_int (by rfl) B.str_ PyProof.Rows.boot_str (pa_cons (pe_un un_neg (pv 9)) pa_nil))) pe_str)) (nomark _))) pss_nv pss_nil)
    (pss_cons ((ps_set (i := 13) (FnScope.nd l67) rfl (Or.inl rfl) (pe_of U (pa_cons (pe_tup (pa_cons (pe_op op_sub (pe_un un_neg pe_int) (pe_cl CT hr (pa_cons (pv 0) (pa_cons pe_int pa_nil)))) (pa_cons pe_int (pa_cons pe_int (pa_cons pe_int (pa_cons pe_int (pa_cons pe_int pa_nil))))))) (pa_cons (pe_tup (pa_cons pe_int (pa_cons pe_int pa_nil))) (pa_cons (pe_tup (pa_cons pe_int (pa_cons pe_int pa_nil))) pa_nil))) r10 (by rfl))))
    (pss_one (ps_ret (pe_and (pe_cmpR op_eq (pe_degG (j := 0) S B (pv 13) r2) pe_int (nomark _)) (pe_and (pe_cmpR op_eq (pe_rnkG (j := 0) S (pv 13) r2) pe_int (nomark _)) (pe_one (pe_cl U.less hr (pa_cons (pe_of U (pa_cons (pe_tup (pa_cons (pe_un un_neg pe_int) (pa_cons pe_int pa_nil))) (pa_cons (pe_tup (pa_cons pe_int (pa_cons pe_int pa_nil))) (pa_cons (pe_tup (pa_cons pe_int (pa_cons pe_int pa_nil))) pa_nil))) r10 (by rfl)) (pa_cons (pv 13) pa_nil))))))))))))))))), ?_⟩
  have z2 : (2 : Nat) ≤ sizeLine := by decide
  have z3 : (3 : Nat) ≤ sizeLine := by decide
  have z4 : (4 : Nat) ≤ sizeLine := by decide
  have z6 : (6 : Nat) ≤ sizeLine := by decide
  refine ⟨_, rfl, (tub, 400), rfl, hR, (show (1 : Int) ≤ 400 by decide), (show (400 : Int) ≤ 1000 by decide), fun n1 H1 x1 R1 n10 n11 => ?_⟩
  refine ⟨_, _, rfl, rfl, ?_⟩
  refine ⟨_, rfl, (tub, 20), rfl, R1, (show (1 : Int) ≤ 20 by decide), (show (20 : Int) ≤ 1000 by decide), fun n2 H2 x2 R2 n20 n21 => ?_⟩
  have n11 : n1 < 400 := n11
  have n21 : n2 < 20 := n21
  have x1 : SameX tub H H1 := x1
  have x2 : SameX tub H1 H2 := x2
  have R2 : RkI H2 tub := R2
  have x12 := x1.tr x2
  clear x1 x2 R1
  refine ⟨_, _, rfl, rfl, ?_⟩
  refine ⟨_, _, rfl, ?_⟩
  obtain ⟨o1, d1, d2, d3, d4⟩ := rd_of (n := 1 + n1) (by omega) (by omega)
  refine ⟨_, rfl, 1 + n1, rfl, o1, ?_⟩
  rintro _ _ - ⟨rfl, rfl⟩
  have e0 : L2.start nLR [V.ref tub] = [some (.ref tub), none, none, none, none, none, none, none, none, none, none, none, none, none] := rfl
  rw [e0]
  dsimp only
  have sq1 : 1 ≤ 1 + n1 := by omega
  have sq2 : 1 + n1 ≤ 400 := by omega
  have w1 : 1 ≤ 1 + n2 := by omega
  have w2 : 1 + n2 ≤ 20 := by omega
  generalize rdL (1 + n1) = d at *
  generalize 1 + n1 = sq at *
  generalize 1 + n2 = w at *
  clear n10 n11 n20 n21
  obtain ⟨ls, r, O, hy, hn⟩ : ∃ ls r, Of [-sq, 0, 1] d 1 (d + 1) 1 ls r ∧ (d * d = sq → ls = [-d, 1] ∧ r = 0) ∧ (d * d ≠ sq → ls = [-sq, 0, 1] ∧ r = 1 ∧ okLess [-sq, 0, 1] [-(d + 1), 1] 1 0 = true ∧ (strL [-sq, 0, 1] 1).1 < (strL [-(d + 1), 1] 0).1) := by
    by_cases q : d * d = sq
    · have := sq_yes d3 d4
      rw [q] at this
      exact ⟨_, _, this, fun _ => ⟨rfl, rfl⟩, fun z => absurd q z⟩
    · obtain ⟨a, b, c⟩ := sq_no sq1 sq2 d3 d4 d1 d2 q
      exact ⟨_, _, a, fun z => absurd z q, fun _ => ⟨rfl, rfl, b, c⟩⟩
  refine ⟨rfl, _, rfl, _, rfl, z3, fun p hp => ⟨_, rfl, z2, fun l hl => ⟨_, rfl, _, _, rfl, rfl, z2, fun h hh => ?_⟩⟩⟩
  obtain ⟨s3, g1, g2, g3⟩ := fresh3 (zs := [.int (d + 1), .int 1]) hp hl hh
  refine sp_of O g1 g2 g3 fun sh H4 s4 S4 => ?_
  have R4 := R2.same (s3.trans s4)
  have x4 := x12.tr (SameX.fr (s3.trans s4))
  clear s3 g1 g2 g3 hp hl hh s4
  have sd : Sm 900 d := sm9 (by omega) (by omega)
  have l10 : ∀ {i : Int}, i.natAbs ≤ 1000 → i.natAbs.log2 < 1920 := fun {i} hi => Nat.lt_of_lt_of_le (PySem.Flt.log2_lt_of (show 0 < 10 by decide) (show i.natAbs < 2 ^ 10 by omega)) (by decide)
  have txt : ∀ (a b : String), (Str.ofString a).length ≤ 20 → (Str.ofString b).length ≤ 20 → ∀ {i : Int}, i.natAbs ≤ 1000 → (Str.ofString a).length + (W i).length ≤ sizeLine ∧ (Str.ofString a ++ W i).length + (Str.ofString b).length ≤ sizeLine := fun a b ha hb {i} hi => by
    obtain ⟨u1, u2⟩ := pre_len a ha hi
    have : (50 : Nat) ≤ sizeLine := by decide
    omega
  obtain ⟨dx, qa, y1, y2⟩ := id S4
  refine ⟨fun σ' H' => σ' = [some (.ref tub), some (.int sq), some (.int w), some (.int d), some (.ref sh), none, none, none, none, none, none, none, none, none] ∧ SameX tub H H' ∧ RkI H' tub, ?_, ?_⟩
  · refine ⟨_, rfl, _, rfl, _, _, rfl, rfl, cm sd sd, _, rfl, rfl, _, rfl, ?_⟩
    by_cases q : d * d = sq
    · rw [decide_eq_true (show V.int (d * d) = V.int sq by rw [q])]
      refine iteT ?_
      obtain ⟨rfl, rfl⟩ := hy q
      obtain ⟨u1, u2⟩ := txt "root 0 of " " 1" (by decide +kernel) (by decide +kernel) (i := -d) (by omega)
      refine ⟨_, rfl, sh, dx, _, rfl, y1, sh, _, _, _, rfl, S4, fun _ _ => ⟨_, rfl, _, rfl, _, rfl, l10 (by omega), _, _, rfl, rfl, u1, _, _, rfl, rfl, u2, rfl, _, rfl, ?_⟩⟩
      show (if (!decide (V.str (txL 0 [-d, 1]) = V.str (Str.ofString "root 0 of " ++ W (-d) ++ Str.ofString " 1"))) = true then _ else _)
      rw [decide_eq_true (show V.str (txL 0 [-d, 1]) = V.str (Str.ofString "root 0 of " ++ W (-d) ++ Str.ofString " 1") by rw [tx_lin])]
      exact iteF ⟨rfl, x4, R4⟩
    · rw [decide_eq_false (show ¬ V.int (d * d) = V.int sq from fun z => q (V.int.inj z))]
      refine iteF ?_
      obtain ⟨rfl, rfl, ol, lt⟩ := hn q
      obtain ⟨u1, u2⟩ := txt "root 1 of " " 0 1" (by decide +kernel) (by decide +kernel) (i := -sq) (by omega)
      refine ⟨_, rfl, sh, dx, _, rfl, y1, sh, _, _, _, rfl, S4, fun _ _ => ⟨_, rfl, _, rfl, _, rfl, l10 (by omega), _, _, rfl, rfl, u1, _, _, rfl, rfl, u2, rfl, _, rfl, ?_⟩⟩
      show (if (!decide (V.str (txL 1 [-sq, 0, 1]) = V.str (Str.ofString "root 1 of " ++ W (-sq) ++ Str.ofString " 0 1"))) = true then _ else _)
      rw [decide_eq_true (show V.str (txL 1 [-sq, 0, 1]) = V.str (Str.ofString "root 1 of " ++ W (-sq) ++ Str.ofString " 0 1") by rw [tx_sq])]
      refine iteF ?_
      refine ⟨_, rfl, rfl, _, rfl, _, rfl, _, _, rfl, rfl, z2, fun p hp => ⟨z2, fun l hl => ⟨z2, fun h hh => ?_⟩⟩⟩
      obtain ⟨s5, g1, g2, g3⟩ := fresh3 (zs := [.int 99, .int 1]) hp hl hh
      have en : -d - 1 = -(d + 1) := by omega
      have g1 : TI _ p [-d - 1, 1] := g1
      rw [en] at g1
      refine sp_of (li_of (d := d + 1) (by omega) (by omega)).1 g1 g2 g3 fun sh2 H5 s5' S5 => ?_
      have s45 := s5.trans s5'
      have nt : ¬ txL 1 [-sq, 0, 1] = txL 0 [-(d + 1), 1] := fun e => by
        have q := (tx_inj (r := 1) (r' := 0) (xs := [-sq, 0, 1]) (ys := [-(d + 1), 1]) (by decide) (by decide) (fun x hx => by simp only [List.mem_cons, List.not_mem_nil, or_false] at hx; omega) (fun x hx => by simp only [List.mem_cons, List.not_mem_nil, or_false] at hx; omega) (List.cons_ne_nil _ _) (List.cons_ne_nil _ _) e).1
        omega
      refine ⟨(sh, _, 1, [-sq, 0, 1], sh2, _, 0, [-(d + 1), 1]), rfl, ⟨S4.same s45, S5, nt, ol⟩, ?_⟩
      rintro _ H6 s6 rfl
      refine ⟨_, rfl, ?_⟩
      show (if (!decide ((strL [-sq, 0, 1] 1).1 < (strL [-(d + 1), 1] 0).1)) = true then _ else _)
      rw [decide_eq_true lt]
      exact iteF ⟨rfl, x4.tr (SameX.fr (s45.trans s6)), R4.same (s45.trans s6)⟩
  clear S4 R4 x4 y1 y2 dx qa hy hn O
  rintro σ' H7 ⟨rfl, x7, R7⟩
  have sw : Sm 900 w := sm9 (by omega) (by omega)
  refine ⟨fun σ' H' => (∃ a5 a6 a7 a8, σ' = [some (.ref tub), some (.int sq), some (.int w), some (.int d), some (.ref sh), a5, a6, a7, a8, none, none, none, none, none]) ∧ SameX tub H H' ∧ RkI H' tub, ?_, ?_⟩
  · refine ⟨_, rfl, _, rfl, _, _, rfl, rfl, cm sd sd, _, rfl, rfl, _, rfl, ?_⟩
    by_cases q : d * d = sq
    · show (if (!decide (V.int (d * d) = V.int sq)) = true then _ else _)
      rw [decide_eq_true (show V.int (d * d) = V.int sq by rw [q])]
      exact iteF (iteF ⟨⟨_, _, _, _, rfl⟩, x7, R7⟩)
    show (if (!decide (V.int (d * d) = V.int sq)) = true then _ else _)
    rw [decide_eq_false (show ¬ V.int (d * d) = V.int sq from fun z => q (V.int.inj z))]
    refine iteT ⟨_, rfl, _, rfl, _, _, rfl, rfl, cm sw sw, _, rfl, _, _, rfl, rfl, _, rfl, ?_⟩
    by_cases q2 : sq < w * w
    · rw [decide_eq_true q2]
      refine iteT ?_
      refine ⟨_, rfl, _, rfl, _, _, rfl, rfl, cm sw sw, _, rfl, _, _, rfl, rfl, ?_⟩
      refine ⟨_, rfl, _, rfl, _, rfl, _, _, rfl, rfl, .inl ⟨by decide, by decide⟩, z3, fun pT hT => ?_⟩
      have hns := nosq (by omega) d1 d2 q
      obtain ⟨O1, O0, l01, l10', lt, oTT, al, ntx⟩ := pair_of sq1 w1 w2 q2 hns
      have sT := same_new (o := .tup [.int (w * w - sq), .int (-2 * w), .int 1]) hT
      have TT : TI (upd H7 pT (.tup [.int (w * w - sq), .int (-2 * w), .int 1])) pT [w * w - sq, -2 * w, 1] := upd_same
      show gName 6 (.ref pT) [some (.ref tub), some (.int sq), some (.int w), some (.int d), some (.ref sh), some (.int (w * w - sq)), none, none, none, none, none, none, none, none] (upd H7 pT (.tup [.int (w * w - sq), .int (-2 * w), .int 1])) _
      generalize upd H7 pT (.tup [.int (w * w - sq), .int (-2 * w), .int 1]) = H8 at *
      clear hT
      generalize hc : w * w - sq = c at *
      generalize hm : -2 * w = m at *
      refine ⟨rfl, _, rfl, _, rfl, z2, fun l hl => ⟨_, rfl, _, _, rfl, rfl, .inl ⟨by decide, by decide⟩, z2, fun h hh => ?_⟩⟩
      obtain ⟨s9, g2, g3⟩ := fresh2 (zs := [.int (2 * w), .int 1]) hl hh
      refine sp_of O1 (TI.same s9 TT) g2 g3 fun shg H9 s9' Sg => ?_
      have s89 := s9.trans s9'
      have T9 := TI.same s89 TT
      clear g2 g3 hl hh s9 s9'
      refine ⟨rfl, _, rfl, z2, fun l hl => ⟨_, rfl, z2, fun h hh => ?_⟩⟩
      obtain ⟨s10, g2, g3⟩ := fresh2 (zs := [.int w, .int 1]) hl hh
      refine sp_of O0 (TI.same s10 T9) g2 g3 fun shs H10 s10' Ss => ?_
      have s90 := s10.trans s10'
      have T10 := TI.same s90 T9
      have Sg := Sg.same s90
      have x10 := x7.tr (SameX.fr ((sT.trans s89).trans s90))
      have R10 := R7.same ((sT.trans s89).trans s90)
      clear g2 g3 hl hh s10 s10' T9 TT
      obtain ⟨dg, qg, yg1, yg2⟩ := id Sg
      obtain ⟨ds, qs, ys1, ys2⟩ := id Ss
      refine ⟨_, rfl, shg, dg, _, rfl, yg1, shg, _, _, _, rfl, Sg, fun _ _ => ?_⟩
      refine ⟨_, rfl, shs, ds, _, rfl, ys1, shs, _, _, _, rfl, Ss, fun _ _ => ?_⟩
      refine ⟨_, rfl, shg, dg, _, rfl, yg1, shg, _, _, _, rfl, Sg, fun qg' Tg => ?_⟩
      refine ⟨_, rfl, shs, ds, _, rfl, ys1, shs, _, _, _, rfl, Ss, fun qs' Ts => ?_⟩
      refine ⟨z4, fun L1 hL1 => ⟨_, rfl, _, rfl, z4, fun L2 hL2 => ?_⟩⟩
      have sA := same_new (o := .lst [.int 1, .int 0, .ref qg', .ref qs']) hL1
      have sB := same_new (o := .lst [.int 1, .int 0, .ref pT, .ref pT]) hL2
      have e1 : upd (upd H10 L1 (.lst [.int 1, .int 0, .ref qg', .ref qs'])) L2 (.lst [.int 1, .int 0, .ref pT, .ref pT]) L1 = some (.lst [.int 1, .int 0, .ref qg', .ref qs']) := sB _ _ upd_same
      have e2 : upd (upd H10 L1 (.lst [.int 1, .int 0, .ref qg', .ref qs'])) L2 (.lst [.int 1, .int 0, .ref pT, .ref pT]) L2 = some (.lst [.int 1, .int 0, .ref pT, .ref pT]) := upd_same
      have sAB := sA.trans sB
      refine ⟨.list [.int 1, .int 0, dT [c, m, 1], dT [c, m, 1]], .list [.int 1, .int 0, dT [c, m, 1], dT [c, m, 1]],
        .lst (SqL.of e1) (.cons (.int 1) (.cons (.int 0) (.cons (.tup (SqT.of (sAB _ _ Tg)) (dp_ints _)) (.cons (.tup (SqT.of (sAB _ _ Ts)) (dp_ints _)) .nil)))),
        .lst (SqL.of e2) (.cons (.int 1) (.cons (.int 0) (.cons (.tup (SqT.of (sAB _ _ T10)) (dp_ints _)) (.cons (.tup (SqT.of (sAB _ _ T10)) (dp_ints _)) .nil)))), rfl, rfl, _, rfl, ?_⟩
      show (if (!PyData.eqv (.list [.int 1, .int 0, dT [c, m, 1], dT [c, m, 1]]) (.list [.int 1, .int 0, dT [c, m, 1], dT [c, m, 1]])) = true then _ else _)
      rw [PySem.SeqAt.eqv_refl _ rfl]
      refine iteF ?_
      have Sg := Sg.same sAB
      have Ss := Ss.same sAB
      have x12 := x10.tr (SameX.fr sAB)
      have R12 := R10.same sAB
      generalize upd (upd H10 L1 (.lst [.int 1, .int 0, .ref qg', .ref qs'])) L2 (.lst [.int 1, .int 0, .ref pT, .ref pT]) = H12 at *
      refine ⟨_, rfl, _, rfl, (shs, _, 0, [c, m, 1], shg, _, 1, [c, m, 1]), rfl, ⟨Ss, Sg, ntx, l01⟩, ?_⟩
      rintro _ H13 s13 rfl
      refine ⟨_, rfl, ?_⟩
      show (if (!decide ((strL [c, m, 1] 0).1 < (strL [c, m, 1] 1).1)) = true then _ else _)
      rw [decide_eq_true lt]
      refine iteF ⟨_, rfl, _, rfl, (shg, _, 1, [c, m, 1], shs, _, 0, [c, m, 1]), rfl, ⟨Sg.same s13, Ss.same s13, fun e => ntx e.symm, l10'⟩, ?_⟩
      rintro _ H14 s14 rfl
      have s1314 := s13.trans s14
      refine ⟨_, rfl, ?_⟩
      show (if decide ((strL [c, m, 1] 1).1 < (strL [c, m, 1] 0).1) = true then _ else _)
      rw [decide_eq_false (show ¬ (strL [c, m, 1] 1).1 < (strL [c, m, 1] 0).1 by omega)]
      refine iteF ⟨_, rfl, _, rfl, (shs, _, 0, [c, m, 1], shg, _, 1, [c, m, 1]), rfl, ⟨Ss.same s1314, Sg.same s1314, ntx, oTT⟩, ?_⟩
      rintro _ H15 s15 rfl
      refine ⟨_, rfl, rfl, rfl, _, rfl, ?_⟩
      show (if (!decide (V.bl (decide (txL (ttR [c, m, 1] 0) (ttE [c, m, 1]) = txL 1 [c, m, 1])) = V.bl (decide (V.int c = V.int 1)))) = true then _ else _)
      have eb : decide (txL (ttR [c, m, 1] 0) (ttE [c, m, 1]) = txL 1 [c, m, 1]) = decide (V.int c = V.int 1) := by
        by_cases z : c = 1
        · rw [decide_eq_true (al.mpr z), decide_eq_true (show V.int c = V.int 1 by rw [z])]
        · rw [decide_eq_false (fun q => z (al.mp q)), decide_eq_false (show ¬ V.int c = V.int 1 from fun q => z (V.int.inj q))]
      rw [eb, decide_eq_true rfl]
      have s15' := s1314.trans s15
      exact iteF ⟨⟨_, _, _, _, rfl⟩, x12.tr (SameX.fr s15'), R12.same s15'⟩
    · rw [decide_eq_false q2]
      exact iteF ⟨⟨_, _, _, _, rfl⟩, x7, R7⟩
  clear d1 d2 o1 sd
  rintro σ' H7 ⟨⟨a5, a6, a7, a8, rfl⟩, x7, R7⟩
  refine ⟨_, rfl, (tub, 900), rfl, R7, (show (1 : Int) ≤ 900 by decide), (show (900 : Int) ≤ 1000 by decide), fun n3 H8 x8' R8 n30 n31 => ?_⟩
  have n31 : n3 < 900 := n31
  have x8 := x7.tr (show SameX tub H7 H8 from x8')
  have R8 : RkI H8 tub := R8
  clear x7 R7 x8'
  refine ⟨_, _, rfl, rfl, ?_⟩
  dsimp only
  obtain ⟨cn, hcn⟩ : ∃ cn : Nat, 2 + n3 = (cn : Int) := Int.eq_ofNat_of_zero_le (by omega)
  have cn1 : 2 ≤ cn := by omega
  have cn2 : cn ≤ 901 := by omega
  rw [hcn]
  clear n30 n31 hcn
  obtain ⟨ls, O, hy, hn⟩ : ∃ ls, Of [-(cn : Int), 0, 0, 1] 0 1 99 1 ls 0 ∧ (∀ k l, sideL cn = k :: l → ls = [-(k : Int), 1]) ∧ (sideL cn = [] → ls = [-(cn : Int), 0, 0, 1]) := by
    obtain ⟨a, b⟩ := cb_of cn1 cn2
    cases e : sideL cn with
    | nil => exact ⟨_, b e, fun _ _ z => (nomatch z), fun _ => rfl⟩
    | cons k l => exact ⟨_, a k l e, fun _ _ z => by injection z with z1 z2; rw [z1], fun z => (nomatch z)⟩
  refine ⟨rfl, _, rfl, _, rfl, z4, fun p hp => ⟨z2, fun l hl => ⟨z2, fun h hh => ?_⟩⟩⟩
  obtain ⟨s9, g1, g2, g3⟩ := fresh3 (zs := [.int 99, .int 1]) hp hl hh
  refine sp_of O g1 g2 g3 fun sh3 H9 s9' S9 => ?_
  have x9 := x8.tr (SameX.fr (s9.trans s9'))
  have R9 := R8.same (s9.trans s9')
  clear x8 R8 s9 s9' g1 g2 g3 hp hl hh O
  refine ⟨_, _, rfl, ⟨by decide, by decide, by decide, by decide⟩, fun D hD => ?_⟩
  rw [show ((10 : Int) - 2).toNat = 8 from rfl]
  refine lc_range (lo := 2) (fun i H' => Same H9 H' ∧ H' D = some (.lst (nI (sdP cn i)))) ⟨same_new hD, upd_same⟩ (fun i H' hi e => ?_) (fun H10 e => ?_)
  · obtain ⟨s1, e1⟩ := e
    have sk : Sm 900 (2 + (i : Int)) := sm9 (by omega) (by omega)
    refine ⟨rfl, ?_⟩
    refine ⟨_, rfl, _, rfl, _, _, rfl, rfl, cm sk sk, _, rfl, _, _, rfl, rfl, cm (sm_mul sk sk) sk, _, rfl, rfl, _, rfl, ?_⟩
    have ek : (2 + (i : Int)) * (2 + (i : Int)) * (2 + (i : Int)) = (((i + 2) * (i + 2) * (i + 2) : Nat) : Int) := by
      rw [Int.natCast_mul, Int.natCast_mul]
      rw [show (2 + (i : Int)) = ((i + 2 : Nat) : Int) by omega]
    rw [sdP_step]
    by_cases h3 : (i + 2) * (i + 2) * (i + 2) = cn
    · rw [decide_eq_true (show V.int ((2 + (i : Int)) * (2 + (i : Int)) * (2 + (i : Int))) = V.int (cn : Int) by rw [ek, h3]), if_pos h3]
      refine iteT ⟨_, rfl, _, e1, ?_, Same.put s1 hD, ?_⟩
      · unfold nI
        rw [List.length_map]
        exact sz_lt (Nat.le_trans (sdP_len cn i) (by omega))
      · rw [upd_same]
        unfold nI
        rw [List.map_append, show (2 + (i : Int)) = ((i + 2 : Nat) : Int) by omega]
        rfl
    · rw [decide_eq_false (show ¬ V.int ((2 + (i : Int)) * (2 + (i : Int)) * (2 + (i : Int))) = V.int (cn : Int) from fun q => h3 (by have := V.int.inj q; rw [ek] at this; exact Int.ofNat_inj.mp this)), if_neg h3, List.append_nil]
      exact iteF ⟨s1, e1⟩
  obtain ⟨s10, e10⟩ := e
  rw [sdP_8] at e10
  have x10 := x9.tr (SameX.fr s10)
  have R10 := R9.same s10
  have S10 := S9.same s10
  obtain ⟨dx, qx, y1, y2⟩ := id S10
  clear x9 R9 S9 s10 hD
  refine ⟨fun σ' H' => (∃ b1 b2 b3 b4 b5 b6 b7 b8 b9 b10 b11 b12, σ' = [some (.ref tub), b1, b2, b3, b4, b5, b6, b7, b8, b9, b10, b11, b12, none]) ∧ SameX tub H H' ∧ RkI H' tub, ?_, ?_⟩
  refine ⟨_, rfl, sh3, dx, _, rfl, y1, sh3, _, _, _, rfl, S10, fun _ _ => ?_⟩
  refine ⟨_, rfl, Nat.zero_le _, fun L hL => ?_⟩
  have sL := same_new (o := .lst []) hL
  refine ⟨.list ((sideL cn).map fun n : Nat => PyData.int (n : Int)), .list [], .lst (SqL.of (sL _ _ e10)) (dp_nats _), .lst (SqL.of upd_same) .nil, sh_nats _, rfl, _, rfl, ?_⟩
  have x11 := x10.tr (SameX.fr sL)
  have R11 := R10.same sL
  have e11 := sL _ _ e10
  generalize upd H10 L (.lst []) = H11 at *
  clear x10 R10 e10 hL y1 y2 S10
  cases e : sideL cn with
  | nil =>
    rw [hn e]
    obtain ⟨u1, u2⟩ := txt "root 0 of " " 0 0 1" (by decide +kernel) (by decide +kernel) (i := -(cn : Int)) (by omega)
    refine ⟨_, rfl, _, rfl, _, rfl, l10 (by omega), _, _, rfl, rfl, u1, _, _, rfl, rfl, u2, rfl, _, rfl, ?_⟩
    show (if (!decide (V.str (txL 0 [-(cn : Int), 0, 0, 1]) = V.str (Str.ofString "root 0 of " ++ W (-(cn : Int)) ++ Str.ofString " 0 0 1"))) = true then _ else _)
    rw [decide_eq_true (show V.str (txL 0 [-(cn : Int), 0, 0, 1]) = V.str (Str.ofString "root 0 of " ++ W (-(cn : Int)) ++ Str.ofString " 0 0 1") by rw [tx_cb])]
    exact iteF ⟨⟨_, _, _, _, _, _, _, _, _, _, _, _, rfl⟩, x11, R11⟩
  | cons k l =>
    rw [e] at e11
    have hk : k ≤ 9 := by
      have h : k ∈ sideL cn := by rw [e]; exact List.mem_cons_self
      have h := (List.mem_filter.mp h).1
      simp only [List.mem_cons, List.not_mem_nil, or_false] at h
      omega
    rw [hy k l e]
    obtain ⟨u1, u2⟩ := txt "root 0 of " " 1" (by decide +kernel) (by decide +kernel) (i := -(k : Int)) (by omega)
    refine ⟨_, rfl, D, _, 0, .int (k : Int), rfl, rfl, SqL.of e11, atI_nat (j := 0) rfl, _, rfl, _, rfl, l10 (by omega), _, _, rfl, rfl, u1, _, _, rfl, rfl, u2, rfl, _, rfl, ?_⟩
    show (if (!decide (V.str (txL 0 [-(k : Int), 1]) = V.str (Str.ofString "root 0 of " ++ W (-(k : Int)) ++ Str.ofString " 1"))) = true then _ else _)
    rw [decide_eq_true (show V.str (txL 0 [-(k : Int), 1]) = V.str (Str.ofString "root 0 of " ++ W (-(k : Int)) ++ Str.ofString " 1") by rw [tx_lin])]
    exact iteF ⟨⟨_, _, _, _, _, _, _, _, _, _, _, _, rfl⟩, x11, R11⟩
  clear hy hn e10 S10 y1 y2 x10 R10
  rintro σ' H12 ⟨⟨b1, b2, b3, b4, b5, b6, b7, b8, b9, b10, b11, b12, rfl⟩, x12, R12⟩
  refine ⟨rfl, _, rfl, _, rfl, (tub, 20), rfl, R12, (show (1 : Int) ≤ 20 by decide), (show (20 : Int) ≤ 1000 by decide), fun n4 H13 x13' R13 n40 n41 => ?_⟩
  have n41 : n4 < 20 := n41
  have x13 := x12.tr (show SameX tub H12 H13 from x13')
  have R13 : RkI H13 tub := R13
  clear x12 R12 x13'
  refine ⟨_, _, rfl, rfl, z6, fun p hp => ⟨z2, fun l hl => ⟨z2, fun h hh => ?_⟩⟩⟩
  obtain ⟨s14, g1, g2, g3⟩ := fresh3 (zs := [.int 2, .int 1]) hp hl hh
  have en : (-2 : Int) - n4 = -(2 + n4) := by omega
  have g1 : TI _ p [-2 - n4, 0, 0, 0, 0, 1] := g1
  rw [en] at g1
  obtain ⟨O, ol, lt⟩ := fi_of (d := 2 + n4) (by omega) (by omega)
  refine sp_of O g1 g2 g3 fun sh5 H14 s14' S14 => ?_
  have x14 := x13.tr (SameX.fr (s14.trans s14'))
  clear g1 g2 g3 hp hl hh
  obtain ⟨dx, qx, y1, y2⟩ := id S14
  refine ⟨_, rfl, sh5, dx, _, rfl, y1, sh5, _, _, _, rfl, S14, fun _ _ => ?_⟩
  refine ⟨rfl, _, rfl, ?_⟩
  rw [decide_eq_true (show V.int ((([-(2 + n4), 0, 0, 0, 0, 1] : List Int).length : Int) - 1) = V.int 5 from rfl), if_pos rfl]
  refine ⟨_, rfl, sh5, dx, _, rfl, y1, sh5, _, _, _, rfl, S14, fun _ _ => ?_⟩
  refine ⟨rfl, _, rfl, ?_⟩
  rw [decide_eq_true (show V.int 0 = V.int 0 from rfl), if_pos rfl]
  refine ⟨rfl, _, rfl, z2, fun p hp => ⟨z2, fun l hl => ⟨z2, fun h hh => ?_⟩⟩⟩
  obtain ⟨s15, g1, g2, g3⟩ := fresh3 (zs := [.int 9, .int 1]) hp hl hh
  refine sp_of one_of.1 g1 g2 g3 fun sh6 H15 s15' S15 => ?_
  have s1415 := s15.trans s15'
  have nt : ¬ txL 0 [-1, 1] = txL 0 [-(2 + n4), 0, 0, 0, 0, 1] := fun e => by
    have q := (tx_inj (r := 0) (r' := 0) (xs := [-1, 1]) (ys := [-(2 + n4), 0, 0, 0, 0, 1]) (by decide) (by decide) (fun x hx => by simp only [List.mem_cons, List.not_mem_nil, or_false] at hx; omega) (fun x hx => by simp only [List.mem_cons, List.not_mem_nil, or_false] at hx; omega) (List.cons_ne_nil _ _) (List.cons_ne_nil _ _) e).2
    have q2 : (2 : Nat) = 6 := congrArg List.length q
    omega
  refine ⟨_, rfl, (sh6, _, 0, [-1, 1], sh5, _, 0, [-(2 + n4), 0, 0, 0, 0, 1]), rfl, ⟨S15, S14.same s1415, nt, ol⟩, ?_⟩
  rintro _ H16 s16 rfl
  show Q (.bl (decide ((strL [-1, 1] 0).1 < (strL [-(2 + n4), 0, 0, 0, 0, 1] 0).1))) H16
  rw [decide_eq_true lt]
  exact k _ (x14.tr (SameX.fr (s1415.trans s16)))
end
end Xq

/-! law; all defs together. -/
namespace Xq
open PySem PySem.Spec PyProof.Rows L2 Xk
/-! ### defs where no repr is under way -/
structure CalG (P : Program) (w : World) (K : PySem.W.Frag) (mg : Str → Option Value) (base : Heap) (k : Nat) (x : Str) (ps : List Str) (sp : Sp) : Prop where
  ex : ∃ f fd, FnG P w K mg base k f fd ps sp ∧ Binds K fd ps [] ∧ mg x = some (.ref f) ∧ PySem.W.keepIn K (.ref f) = true
theorem mkG {P : Program} {w : World} {K : PySem.W.Frag} {mg : Str → Option Value} {base : Heap} {sp : Sp} {N ps : List Str} {x : Str} {st : Stmt} {k : Nat}
    (D : Df K mg x st) (S : FnScope N ps (defScope st))
    (hb : ∀ (kV doc pm : Value) (an : Option Addr) (cdv ct : Value) (us : List Value), us.length = ps.length → bindArgs (PySem.W.fnOf x x (defArgs st) (defBody st) (defScope st) .none kV doc pm an cdv ct) ⟨us, []⟩ = pure (ps.zip us))
    (hl : ∀ vs H Q E, sp vs H Q E → vs.length = ps.length)
    (h : ∀ (f : Addr) (cdv : Value) (A : Around) (outer : List Env) (s : Shared) (H : Hp) (vs : List V) (Q : VK) (E : XK), Room k (A.deeper (envOfC x (defScope st) s.heap.objs.size f cdv)) → A.guards = some [] → sp vs H Q E →
      ∃ t, PSs (cxOf CX0 P w K mg base N x (defScope st) f cdv A outer s H E).nox (defBody st) t ∧ t { nx := fun _ H' => Q .non H', rt := Q } (L2.start N vs) H) :
    CalG P w K mg base (k + 1) x ps sp := by
  obtain ⟨f, fd, F, m⟩ := D.ex
  exact ⟨f, fd, fn_g F S hl (fun cdv A outer s H vs Q E hr hG hsp => h f cdv A outer s H vs Q E hr hG hsp), F.binds hb, m, F.kp⟩
section
variable {P : Program} {w : World} {K : PySem.W.Frag} {mg : Str → Option Value} {base : Heap} {C : Addr}
theorem SqL.sx {H H' : Hp} {a D : Addr} {xs : List V} (h : SqL K H a xs) (hD : H D = none) (e : SameX D H H') : SqL K H' a xs := by
  rcases h with (h | ⟨o, h⟩) | h
  · exact .inl (.inl (e _ _ (fun z => by rw [z, hD] at h; cases h) h))
  · exact .inl (.inr ⟨o, e _ _ (fun z => by rw [z, hD] at h; cases h) h⟩)
  · exact .inr h
abbrev nLaw : List Str := ["_law_cells", "_law_turn"]
theorem l68 : FnScope nLaw ["_law_cells"] (defScope (top 68)) := (⟨rfl, rfl, rfl, by decide +kernel, rfl, by decide +kernel, by decide +kernel⟩)
def spLaw (K : PySem.W.Frag) : Sp := fun vs H Q _ => ∃ (a : Addr) (ns : List Int), vs = [.ref a] ∧ SqL K H a (ns.map V.int) ∧ ns.length ≤ 63 ∧ ∀ H', Q (.bl true) H'
theorem all_true (n : Nat) : (List.replicate n true).all id = true := by
  induction n with
  | zero => rfl
  | succ n ih => rw [List.replicate_succ, List.all_cons, ih]; rfl
theorem c_law (D : Df K mg "law" (top 68)) (B : Bl mg) (CR : Cal P w K mg base 12 "_law_right" ["_law_tub_here"] spRight) (CT : Cal P w K mg base 1 "_law_tub" ["_law_cells", "_law_turn"] (spTub K)) : CalG P w K mg base 13 "law" ["_law_cells"] (spLaw K) := by
  refine mkG D l68 (fun _ _ _ _ _ _ us hl => match us, hl with | [_], _ => rfl) (fun vs H Q E h => ?_) (fun f cdv A outer s H vs Q E hr hG h => ?_)
  · obtain ⟨a, ns, rfl, _⟩ := h
    rfl
  obtain ⟨a, ns, rfl, hS, hlen, k⟩ := h
  refine ⟨_, pss_one (ps_ret (pe_callB (cr_all rfl) (by rfl) B.all_ PyProof.Rows.boot_all (pa_cons
      (pe_lc (own := [("_law_turn", 1)]) (g := gName 1) (tt := tYes) (te := tCall spRight [] L2.E0 (tCons (tCall (spTub K) [] L2.E0 (tCons (tVar 0) (tCons (tVar 1) tNil))) tNil)) rfl l68.nd
        (pi_range1 (by rfl) B.range_ (pa_cons pe_int pa_nil))
        (blkOk_by (N := nLaw) (sc := defScope (top 68)) (by decide +kernel)) (fun _ _ _ _ _ => (pg_name (i := 1) (FnScope.nd l68) rfl (Or.inl rfl))) (fun _ _ _ _ _ => pts_nil)
        (fun _ _ _ _ _ => pe_cl CR hr (pa_cons (pe_cl CT hr (pa_cons (pv 0) (pa_cons (pv 1) pa_nil))) pa_nil))) pa_nil))), ?_⟩
  have e0 : L2.start nLaw [V.ref a] = [some (.ref a), none] := rfl
  rw [e0]
  refine ⟨_, rfl, by decide, by decide, fun D hD => ?_⟩
  refine lc_range (fun i H' => SameX D H H' ∧ H' D = some (.lst ((List.replicate i true).map V.bl))) ⟨fun b o n e => by rw [upd_ne n]; exact e, upd_same⟩ (fun i H' hi e => ?_) (fun H' e => ?_)
  · obtain ⟨sT, hDl⟩ := e
    refine ⟨rfl, ?_⟩
    simp only [tYes, if_true]
    refine ⟨_, rfl, _, rfl, (a, ns, i), (by show [V.ref a, V.int (0 + (i : Int))] = [V.ref a, V.int (i : Int)]; rw [Int.zero_add]), SqL.sx hS hD sT, hlen, fun p H2 k2 hp hr2 => ?_⟩
    refine ⟨p, rfl, hr2, fun H3 k3 => ?_⟩
    have hDp : D ≠ p := fun z => by rw [z, hp] at hDl; cases hDl
    have hD3 := k3 D _ hDp (k2 _ _ hDl)
    have k4 : Same H' H3 := fun b o e => k3 b o (fun z => by rw [z, hp] at e; cases e) (k2 b o e)
    refine ⟨_, hD3, ?_, ?_, ?_⟩
    · rw [List.length_map, List.length_replicate]
      exact Nat.lt_of_lt_of_le hi (by decide)
    · refine fun b o n e => ?_
      rw [upd_ne n]
      exact k4 _ _ (sT _ _ n e)
    · rw [upd_same, List.replicate_succ', List.map_append]
      rfl
  · obtain ⟨sT, hDl⟩ := e
    refine ⟨D, _, rfl, SqL.of hDl, ?_⟩
    rw [all_true]
    exact k _
end
/-- all defs where they stand -/
structure Ds (K : PySem.W.Frag) (mg : Str → Option Value) : Prop where
  d11 : Df K mg "trimmed" (top 11)
  d12 : Df K mg "common_divisor" (top 12)
  d13 : Df K mg "primitive" (top 13)
  d14 : Df K mg "negative" (top 14)
  d15 : Df K mg "derivative" (top 15)
  d16 : Df K mg "value_at" (top 16)
  d17 : Df K mg "combined" (top 17)
  d18 : Df K mg "remainder" (top 18)
  d19 : Df K mg "divided" (top 19)
  d21 : Df K mg "is_least" (top 21)
  d22 : Df K mg "factors_of" (top 22)
  d23 : Df K mg "least_factor" (top 23)
  d24 : Df K mg "divisors" (top 24)
  d25 : Df K mg "linear_factor" (top 25)
  d26 : Df K mg "quadratic_factor" (top 26)
  d27 : Df K mg "middles" (top 27)
  d28 : Df K mg "whole_roots" (top 28)
  d32 : Df K mg "is_integer" (top 32)
  d33 : Df K mg "are_integers" (top 33)
  d34 : Df K mg "is_fraction" (top 34)
  d35 : Df K mg "is_below" (top 35)
  d36 : Df K mg "is_term" (top 36)
  d37 : Df K mg "wrong_term" (top 37)
  d40 : Df K mg "sturm_chain" (top 40)
  d41 : Df K mg "changes" (top 41)
  d42 : Df K mg "reach" (top 42)
  d43 : Df K mg "roots_up_to" (top 43)
  d44 : Df K mg "roots_in_all" (top 44)
  d45 : Df K mg "roots_within" (top 45)
  d46 : Df K mg "rank_of_last" (top 46)
  d47 : Df K mg "stretch_of" (top 47)
  d48 : Df K mg "lonely_stretch" (top 48)
  d49 : Df K mg "refined" (top 49)
  d50 : Df K mg "guessed" (top 50)
  d53 : Df K mg "less" (top 53)
  d54 : Df K mg "alike" (top 54)
  d55 : Df K mg "check_shape" (top 55)
  d56 : Df K mg "check_equation" (top 56)
  d57 : Df K mg "check_stretch" (top 57)
  d58 : Df K mg "factor_within" (top 58)
  d59 : Df K mg "told_by" (top 59)
  d60 : Df K mg "integer_of" (top 60)
  d61 : Df K mg "text_of" (top 61)
  d62 : Df K mg "turned_text" (top 62)
  d64 : Df K mg "_law_tub" (top 64)
  d65 : Df K mg "_law_tap" (top 65)
  d66 : Df K mg "_law_root_down" (top 66)
  d67 : Df K mg "_law_right" (top 67)
  d68 : Df K mg "law" (top 68)
section
variable {P : Program} {w : World} {K : PySem.W.Frag} {mg : Str → Option Value} {base : Heap} {C : Addr}
theorem law_all (D : Ds K mg) (B : Bl mg) (S : ShC K mg C) (SE : ShE K C) (SO : ShO K C) (wl : mg "list" = none) (wa : mg "any" = none) (iq : mg "isqrt" = some (.builtin "math.isqrt")) : CalG P w K mg base 13 "law" ["_law_cells"] (spLaw K) := by
  have isint := c_isint (P := P) (w := w) (base := base) D.d32 B
  have areints := c_areints D.d33 B isint
  have isfrac := c_isfrac D.d34 B areints
  have isterm := c_isterm D.d36 B isint
  have wrong := c_wrongG D.d37 B isterm
  have trim := c_trim (P := P) (w := w) (base := base) D.d11 B
  have gcd := c_gcd (P := P) (w := w) (base := base) D.d12 B
  have prim := c_primG D.d13 B gcd
  have neg := c_negG (P := P) (w := w) (base := base) D.d14 B
  have der := c_derG (P := P) (w := w) (base := base) D.d15 B
  have val := c_valG (P := P) (w := w) (base := base) D.d16
  have comb := c_combG D.d17 B trim
  have rem := c_remG D.d18 B comb prim
  have sturm := c_sturmG D.d40 B der rem neg
  have chg := c_chgG D.d41 B val
  have reach := c_reachG (P := P) (w := w) (base := base) D.d42 B
  have upto := c_upG D.d43 chg reach
  have inall := c_allG D.d44 upto reach
  have gue := c_gueG D.d50 val
  have refd := c_refG D.d49 B gue
  have lone := c_loneG D.d48 sturm reach chg upto
  have str := c_strG D.d47 B lone refd
  have div := c_divG (P := P) (w := w) (base := base) D.d24 B
  have lin := c_linG D.d25 B div val
  have wr := c_wrG (P := P) (w := w) (base := base) D.d28 B iq
  have dv := c_dvG (P := P) (w := w) (base := base) D.d19 B wl wa
  have mid := c_midG D.d27 B wr
  have qu := c_quG D.d26 B div mid dv
  have lf := c_lfG D.d23 B lin qu
  have least := c_leastG D.d21 gcd lf
  have intof := c_intof (P := P) (w := w) (base := base) D.d60 B
  have told := c_toldG D.d59 B intof wrong least sturm upto inall
  have dva := c_dvA (P := P) (w := w) (base := base) D.d19 B wl wa
  have lina := c_linA D.d25 B div val
  have lfa := c_lfA D.d23 B lina qu
  have fac := c_fac D.d22 B prim neg lfa dva
  have rw_ := c_rw D.d45 sturm chg val
  have rl := c_rl D.d46 sturm upto
  have fw := c_fw D.d58 fac rw_
  have chk := c_chkG (P := P) (w := w) (base := base) D.d55 B S
  have tx := c_tx (P := P) (w := w) (base := base) D.d61 B
  have tt := c_tt D.d62 B S sturm upto inall neg tx
  have less := c_less D.d53 B S SE chk
  have alike := c_alike D.d54 B S SE chk tt
  have chke := c_chkE D.d56 B wrong
  have below := c_below (P := P) (w := w) (base := base) D.d35
  have chks := c_chkS D.d57 isfrac below
  have U : All P w K mg base C := ⟨B, S, SE, SO, chke, chks, fw, isterm, tx, rl, told, str, less, alike⟩
  have tub := c_tub (P := P) (w := w) (base := base) D.d64 B
  have tap := c_tap (P := P) (w := w) (base := base) D.d65 B B.divmod_
  have rd := c_rd (P := P) (w := w) (base := base) D.d66
  exact c_law D.d68 B (c_right D.d67 U tap rd) tub
end
end Xq

/-! Where all stands behind the top of k12. -/
namespace Wq
open PySem PySem.Spec PyProof.Rows L2 Xk Xq
noncomputable abbrev HK (p : Params) : PySem.W.Frag := Hd.K p
theorem topQ (i : Nat) : top i = Hd.hT i := congrArg (fun p : Program => p.main.body.getD i (.Pass ⟨0, 0, 0, 0⟩)) Hd.pT
section
variable {p : Params} {mg : Str → Option Value} {h : Heap}
theorem fd11 (p : Params) : ∃ fd, Fun (HK p) "trimmed" "trimmed" (top 11) 189 fd := by
  rw [topQ]
  refine ⟨?fd, ⟨⟨?a1, ?a2, ?a3, ?a4, ?a5, ?a6, ?a7, ?a8, ?a9, ?e1, ?e2, ?e3⟩, ?e4⟩⟩
  case e1 => exact rfl
  case e2 => exact rfl
  case e3 => kernel_rfl
  case e4 => kernel_rfl
theorem df11 (X : (HK p).In h) (G : h.Ns mainGlobals mg) : Df (HK p) mg "trimmed" (top 11) := by
  obtain ⟨fd, F⟩ := fd11 p
  exact ⟨189, fd, F, PySem.W.mg_of X G (by kernel_rfl)⟩
theorem fd12 (p : Params) : ∃ fd, Fun (HK p) "common_divisor" "common_divisor" (top 12) 196 fd := by
  rw [topQ]
  refine ⟨?fd, ⟨⟨?a1, ?a2, ?a3, ?a4, ?a5, ?a6, ?a7, ?a8, ?a9, ?e1, ?e2, ?e3⟩, ?e4⟩⟩
  case e1 => exact rfl
  case e2 => exact rfl
  case e3 => kernel_rfl
  case e4 => kernel_rfl
theorem df12 (X : (HK p).In h) (G : h.Ns mainGlobals mg) : Df (HK p) mg "common_divisor" (top 12) := by
  obtain ⟨fd, F⟩ := fd12 p
  exact ⟨196, fd, F, PySem.W.mg_of X G (by kernel_rfl)⟩
theorem fd13 (p : Params) : ∃ fd, Fun (HK p) "primitive" "primitive" (top 13) 201 fd := by
  rw [topQ]
  refine ⟨?fd, ⟨⟨?a1, ?a2, ?a3, ?a4, ?a5, ?a6, ?a7, ?a8, ?a9, ?e1, ?e2, ?e3⟩, ?e4⟩⟩
  case e1 => exact rfl
  case e2 => exact rfl
  case e3 => kernel_rfl
  case e4 => kernel_rfl
theorem df13 (X : (HK p).In h) (G : h.Ns mainGlobals mg) : Df (HK p) mg "primitive" (top 13) := by
  obtain ⟨fd, F⟩ := fd13 p
  exact ⟨201, fd, F, PySem.W.mg_of X G (by kernel_rfl)⟩
theorem fd14 (p : Params) : ∃ fd, Fun (HK p) "negative" "negative" (top 14) 206 fd := by
  rw [topQ]
  refine ⟨?fd, ⟨⟨?a1, ?a2, ?a3, ?a4, ?a5, ?a6, ?a7, ?a8, ?a9, ?e1, ?e2, ?e3⟩, ?e4⟩⟩
  case e1 => exact rfl
  case e2 => exact rfl
  case e3 => kernel_rfl
  case e4 => kernel_rfl
theorem df14 (X : (HK p).In h) (G : h.Ns mainGlobals mg) : Df (HK p) mg "negative" (top 14) := by
  obtain ⟨fd, F⟩ := fd14 p
  exact ⟨206, fd, F, PySem.W.mg_of X G (by kernel_rfl)⟩
theorem fd15 (p : Params) : ∃ fd, Fun (HK p) "derivative" "derivative" (top 15) 211 fd := by
  rw [topQ]
  refine ⟨?fd, ⟨⟨?a1, ?a2, ?a3, ?a4, ?a5, ?a6, ?a7, ?a8, ?a9, ?e1, ?e2, ?e3⟩, ?e4⟩⟩
  case e1 => exact rfl
  case e2 => exact rfl
  case e3 => kernel_rfl
  case e4 => kernel_rfl
theorem df15 (X : (HK p).In h) (G : h.Ns mainGlobals mg) : Df (HK p) mg "derivative" (top 15) := by
  obtain ⟨fd, F⟩ := fd15 p
  exact ⟨211, fd, F, PySem.W.mg_of X G (by kernel_rfl)⟩
theorem fd16 (p : Params) : ∃ fd, Fun (HK p) "value_at" "value_at" (top 16) 218 fd := by
  rw [topQ]
  refine ⟨?fd, ⟨⟨?a1, ?a2, ?a3, ?a4, ?a5, ?a6, ?a7, ?a8, ?a9, ?e1, ?e2, ?e3⟩, ?e4⟩⟩
  case e1 => exact rfl
  case e2 => exact rfl
  case e3 => kernel_rfl
  case e4 => kernel_rfl
theorem df16 (X : (HK p).In h) (G : h.Ns mainGlobals mg) : Df (HK p) mg "value_at" (top 16) := by
  obtain ⟨fd, F⟩ := fd16 p
  exact ⟨218, fd, F, PySem.W.mg_of X G (by kernel_rfl)⟩
theorem fd17 (p : Params) : ∃ fd, Fun (HK p) "combined" "combined" (top 17) 225 fd := by
  rw [topQ]
  refine ⟨?fd, ⟨⟨?a1, ?a2, ?a3, ?a4, ?a5, ?a6, ?a7, ?a8, ?a9, ?e1, ?e2, ?e3⟩, ?e4⟩⟩
  case e1 => exact rfl
  case e2 => exact rfl
  case e3 => kernel_rfl
  case e4 => kernel_rfl
theorem df17 (X : (HK p).In h) (G : h.Ns mainGlobals mg) : Df (HK p) mg "combined" (top 17) := by
  obtain ⟨fd, F⟩ := fd17 p
  exact ⟨225, fd, F, PySem.W.mg_of X G (by kernel_rfl)⟩
theorem fd18 (p : Params) : ∃ fd, Fun (HK p) "remainder" "remainder" (top 18) 232 fd := by
  rw [topQ]
  refine ⟨?fd, ⟨⟨?a1, ?a2, ?a3, ?a4, ?a5, ?a6, ?a7, ?a8, ?a9, ?e1, ?e2, ?e3⟩, ?e4⟩⟩
  case e1 => exact rfl
  case e2 => exact rfl
  case e3 => kernel_rfl
  case e4 => kernel_rfl
theorem df18 (X : (HK p).In h) (G : h.Ns mainGlobals mg) : Df (HK p) mg "remainder" (top 18) := by
  obtain ⟨fd, F⟩ := fd18 p
  exact ⟨232, fd, F, PySem.W.mg_of X G (by kernel_rfl)⟩
theorem fd19 (p : Params) : ∃ fd, Fun (HK p) "divided" "divided" (top 19) 239 fd := by
  rw [topQ]
  refine ⟨?fd, ⟨⟨?a1, ?a2, ?a3, ?a4, ?a5, ?a6, ?a7, ?a8, ?a9, ?e1, ?e2, ?e3⟩, ?e4⟩⟩
  case e1 => exact rfl
  case e2 => exact rfl
  case e3 => kernel_rfl
  case e4 => kernel_rfl
theorem df19 (X : (HK p).In h) (G : h.Ns mainGlobals mg) : Df (HK p) mg "divided" (top 19) := by
  obtain ⟨fd, F⟩ := fd19 p
  exact ⟨239, fd, F, PySem.W.mg_of X G (by kernel_rfl)⟩
theorem fd21 (p : Params) : ∃ fd, Fun (HK p) "is_least" "is_least" (top 21) 246 fd := by
  rw [topQ]
  refine ⟨?fd, ⟨⟨?a1, ?a2, ?a3, ?a4, ?a5, ?a6, ?a7, ?a8, ?a9, ?e1, ?e2, ?e3⟩, ?e4⟩⟩
  case e1 => exact rfl
  case e2 => exact rfl
  case e3 => kernel_rfl
  case e4 => kernel_rfl
theorem df21 (X : (HK p).In h) (G : h.Ns mainGlobals mg) : Df (HK p) mg "is_least" (top 21) := by
  obtain ⟨fd, F⟩ := fd21 p
  exact ⟨246, fd, F, PySem.W.mg_of X G (by kernel_rfl)⟩
theorem fd22 (p : Params) : ∃ fd, Fun (HK p) "factors_of" "factors_of" (top 22) 253 fd := by
  rw [topQ]
  refine ⟨?fd, ⟨⟨?a1, ?a2, ?a3, ?a4, ?a5, ?a6, ?a7, ?a8, ?a9, ?e1, ?e2, ?e3⟩, ?e4⟩⟩
  case e1 => exact rfl
  case e2 => exact rfl
  case e3 => kernel_rfl
  case e4 => kernel_rfl
theorem df22 (X : (HK p).In h) (G : h.Ns mainGlobals mg) : Df (HK p) mg "factors_of" (top 22) := by
  obtain ⟨fd, F⟩ := fd22 p
  exact ⟨253, fd, F, PySem.W.mg_of X G (by kernel_rfl)⟩
theorem fd23 (p : Params) : ∃ fd, Fun (HK p) "least_factor" "least_factor" (top 23) 260 fd := by
  rw [topQ]
  refine ⟨?fd, ⟨⟨?a1, ?a2, ?a3, ?a4, ?a5, ?a6, ?a7, ?a8, ?a9, ?e1, ?e2, ?e3⟩, ?e4⟩⟩
  case e1 => exact rfl
  case e2 => exact rfl
  case e3 => kernel_rfl
  case e4 => kernel_rfl
theorem df23 (X : (HK p).In h) (G : h.Ns mainGlobals mg) : Df (HK p) mg "least_factor" (top 23) := by
  obtain ⟨fd, F⟩ := fd23 p
  exact ⟨260, fd, F, PySem.W.mg_of X G (by kernel_rfl)⟩
theorem fd24 (p : Params) : ∃ fd, Fun (HK p) "divisors" "divisors" (top 24) 265 fd := by
  rw [topQ]
  refine ⟨?fd, ⟨⟨?a1, ?a2, ?a3, ?a4, ?a5, ?a6, ?a7, ?a8, ?a9, ?e1, ?e2, ?e3⟩, ?e4⟩⟩
  case e1 => exact rfl
  case e2 => exact rfl
  case e3 => kernel_rfl
  case e4 => kernel_rfl
theorem df24 (X : (HK p).In h) (G : h.Ns mainGlobals mg) : Df (HK p) mg "divisors" (top 24) := by
  obtain ⟨fd, F⟩ := fd24 p
  exact ⟨265, fd, F, PySem.W.mg_of X G (by kernel_rfl)⟩
theorem fd25 (p : Params) : ∃ fd, Fun (HK p) "linear_factor" "linear_factor" (top 25) 272 fd := by
  rw [topQ]
  refine ⟨?fd, ⟨⟨?a1, ?a2, ?a3, ?a4, ?a5, ?a6, ?a7, ?a8, ?a9, ?e1, ?e2, ?e3⟩, ?e4⟩⟩
  case e1 => exact rfl
  case e2 => exact rfl
  case e3 => kernel_rfl
  case e4 => kernel_rfl
theorem df25 (X : (HK p).In h) (G : h.Ns mainGlobals mg) : Df (HK p) mg "linear_factor" (top 25) := by
  obtain ⟨fd, F⟩ := fd25 p
  exact ⟨272, fd, F, PySem.W.mg_of X G (by kernel_rfl)⟩
theorem fd26 (p : Params) : ∃ fd, Fun (HK p) "quadratic_factor" "quadratic_factor" (top 26) 279 fd := by
  rw [topQ]
  refine ⟨?fd, ⟨⟨?a1, ?a2, ?a3, ?a4, ?a5, ?a6, ?a7, ?a8, ?a9, ?e1, ?e2, ?e3⟩, ?e4⟩⟩
  case e1 => exact rfl
  case e2 => exact rfl
  case e3 => kernel_rfl
  case e4 => kernel_rfl
theorem df26 (X : (HK p).In h) (G : h.Ns mainGlobals mg) : Df (HK p) mg "quadratic_factor" (top 26) := by
  obtain ⟨fd, F⟩ := fd26 p
  exact ⟨279, fd, F, PySem.W.mg_of X G (by kernel_rfl)⟩
theorem fd27 (p : Params) : ∃ fd, Fun (HK p) "middles" "middles" (top 27) 286 fd := by
  rw [topQ]
  refine ⟨?fd, ⟨⟨?a1, ?a2, ?a3, ?a4, ?a5, ?a6, ?a7, ?a8, ?a9, ?e1, ?e2, ?e3⟩, ?e4⟩⟩
  case e1 => exact rfl
  case e2 => exact rfl
  case e3 => kernel_rfl
  case e4 => kernel_rfl
theorem df27 (X : (HK p).In h) (G : h.Ns mainGlobals mg) : Df (HK p) mg "middles" (top 27) := by
  obtain ⟨fd, F⟩ := fd27 p
  exact ⟨286, fd, F, PySem.W.mg_of X G (by kernel_rfl)⟩
theorem fd28 (p : Params) : ∃ fd, Fun (HK p) "whole_roots" "whole_roots" (top 28) 291 fd := by
  rw [topQ]
  refine ⟨?fd, ⟨⟨?a1, ?a2, ?a3, ?a4, ?a5, ?a6, ?a7, ?a8, ?a9, ?e1, ?e2, ?e3⟩, ?e4⟩⟩
  case e1 => exact rfl
  case e2 => exact rfl
  case e3 => kernel_rfl
  case e4 => kernel_rfl
theorem df28 (X : (HK p).In h) (G : h.Ns mainGlobals mg) : Df (HK p) mg "whole_roots" (top 28) := by
  obtain ⟨fd, F⟩ := fd28 p
  exact ⟨291, fd, F, PySem.W.mg_of X G (by kernel_rfl)⟩
theorem fd32 (p : Params) : ∃ fd, Fun (HK p) "is_integer" "is_integer" (top 32) 298 fd := by
  rw [topQ]
  refine ⟨?fd, ⟨⟨?a1, ?a2, ?a3, ?a4, ?a5, ?a6, ?a7, ?a8, ?a9, ?e1, ?e2, ?e3⟩, ?e4⟩⟩
  case e1 => exact rfl
  case e2 => exact rfl
  case e3 => kernel_rfl
  case e4 => kernel_rfl
theorem df32 (X : (HK p).In h) (G : h.Ns mainGlobals mg) : Df (HK p) mg "is_integer" (top 32) := by
  obtain ⟨fd, F⟩ := fd32 p
  exact ⟨298, fd, F, PySem.W.mg_of X G (by kernel_rfl)⟩
theorem fd33 (p : Params) : ∃ fd, Fun (HK p) "are_integers" "are_integers" (top 33) 303 fd := by
  rw [topQ]
  refine ⟨?fd, ⟨⟨?a1, ?a2, ?a3, ?a4, ?a5, ?a6, ?a7, ?a8, ?a9, ?e1, ?e2, ?e3⟩, ?e4⟩⟩
  case e1 => exact rfl
  case e2 => exact rfl
  case e3 => kernel_rfl
  case e4 => kernel_rfl
theorem df33 (X : (HK p).In h) (G : h.Ns mainGlobals mg) : Df (HK p) mg "are_integers" (top 33) := by
  obtain ⟨fd, F⟩ := fd33 p
  exact ⟨303, fd, F, PySem.W.mg_of X G (by kernel_rfl)⟩
theorem fd34 (p : Params) : ∃ fd, Fun (HK p) "is_fraction" "is_fraction" (top 34) 310 fd := by
  rw [topQ]
  refine ⟨?fd, ⟨⟨?a1, ?a2, ?a3, ?a4, ?a5, ?a6, ?a7, ?a8, ?a9, ?e1, ?e2, ?e3⟩, ?e4⟩⟩
  case e1 => exact rfl
  case e2 => exact rfl
  case e3 => kernel_rfl
  case e4 => kernel_rfl
theorem df34 (X : (HK p).In h) (G : h.Ns mainGlobals mg) : Df (HK p) mg "is_fraction" (top 34) := by
  obtain ⟨fd, F⟩ := fd34 p
  exact ⟨310, fd, F, PySem.W.mg_of X G (by kernel_rfl)⟩
theorem fd35 (p : Params) : ∃ fd, Fun (HK p) "is_below" "is_below" (top 35) 317 fd := by
  rw [topQ]
  refine ⟨?fd, ⟨⟨?a1, ?a2, ?a3, ?a4, ?a5, ?a6, ?a7, ?a8, ?a9, ?e1, ?e2, ?e3⟩, ?e4⟩⟩
  case e1 => exact rfl
  case e2 => exact rfl
  case e3 => kernel_rfl
  case e4 => kernel_rfl
theorem df35 (X : (HK p).In h) (G : h.Ns mainGlobals mg) : Df (HK p) mg "is_below" (top 35) := by
  obtain ⟨fd, F⟩ := fd35 p
  exact ⟨317, fd, F, PySem.W.mg_of X G (by kernel_rfl)⟩
theorem fd36 (p : Params) : ∃ fd, Fun (HK p) "is_term" "is_term" (top 36) 324 fd := by
  rw [topQ]
  refine ⟨?fd, ⟨⟨?a1, ?a2, ?a3, ?a4, ?a5, ?a6, ?a7, ?a8, ?a9, ?e1, ?e2, ?e3⟩, ?e4⟩⟩
  case e1 => exact rfl
  case e2 => exact rfl
  case e3 => kernel_rfl
  case e4 => kernel_rfl
theorem df36 (X : (HK p).In h) (G : h.Ns mainGlobals mg) : Df (HK p) mg "is_term" (top 36) := by
  obtain ⟨fd, F⟩ := fd36 p
  exact ⟨324, fd, F, PySem.W.mg_of X G (by kernel_rfl)⟩
theorem fd37 (p : Params) : ∃ fd, Fun (HK p) "wrong_term" "wrong_term" (top 37) 331 fd := by
  rw [topQ]
  refine ⟨?fd, ⟨⟨?a1, ?a2, ?a3, ?a4, ?a5, ?a6, ?a7, ?a8, ?a9, ?e1, ?e2, ?e3⟩, ?e4⟩⟩
  case e1 => exact rfl
  case e2 => exact rfl
  case e3 => kernel_rfl
  case e4 => kernel_rfl
theorem df37 (X : (HK p).In h) (G : h.Ns mainGlobals mg) : Df (HK p) mg "wrong_term" (top 37) := by
  obtain ⟨fd, F⟩ := fd37 p
  exact ⟨331, fd, F, PySem.W.mg_of X G (by kernel_rfl)⟩
theorem fd40 (p : Params) : ∃ fd, Fun (HK p) "sturm_chain" "sturm_chain" (top 40) 338 fd := by
  rw [topQ]
  refine ⟨?fd, ⟨⟨?a1, ?a2, ?a3, ?a4, ?a5, ?a6, ?a7, ?a8, ?a9, ?e1, ?e2, ?e3⟩, ?e4⟩⟩
  case e1 => exact rfl
  case e2 => exact rfl
  case e3 => kernel_rfl
  case e4 => kernel_rfl
theorem df40 (X : (HK p).In h) (G : h.Ns mainGlobals mg) : Df (HK p) mg "sturm_chain" (top 40) := by
  obtain ⟨fd, F⟩ := fd40 p
  exact ⟨338, fd, F, PySem.W.mg_of X G (by kernel_rfl)⟩
theorem fd41 (p : Params) : ∃ fd, Fun (HK p) "changes" "changes" (top 41) 343 fd := by
  rw [topQ]
  refine ⟨?fd, ⟨⟨?a1, ?a2, ?a3, ?a4, ?a5, ?a6, ?a7, ?a8, ?a9, ?e1, ?e2, ?e3⟩, ?e4⟩⟩
  case e1 => exact rfl
  case e2 => exact rfl
  case e3 => kernel_rfl
  case e4 => kernel_rfl
theorem df41 (X : (HK p).In h) (G : h.Ns mainGlobals mg) : Df (HK p) mg "changes" (top 41) := by
  obtain ⟨fd, F⟩ := fd41 p
  exact ⟨343, fd, F, PySem.W.mg_of X G (by kernel_rfl)⟩
theorem fd42 (p : Params) : ∃ fd, Fun (HK p) "reach" "reach" (top 42) 348 fd := by
  rw [topQ]
  refine ⟨?fd, ⟨⟨?a1, ?a2, ?a3, ?a4, ?a5, ?a6, ?a7, ?a8, ?a9, ?e1, ?e2, ?e3⟩, ?e4⟩⟩
  case e1 => exact rfl
  case e2 => exact rfl
  case e3 => kernel_rfl
  case e4 => kernel_rfl
theorem df42 (X : (HK p).In h) (G : h.Ns mainGlobals mg) : Df (HK p) mg "reach" (top 42) := by
  obtain ⟨fd, F⟩ := fd42 p
  exact ⟨348, fd, F, PySem.W.mg_of X G (by kernel_rfl)⟩
theorem fd43 (p : Params) : ∃ fd, Fun (HK p) "roots_up_to" "roots_up_to" (top 43) 355 fd := by
  rw [topQ]
  refine ⟨?fd, ⟨⟨?a1, ?a2, ?a3, ?a4, ?a5, ?a6, ?a7, ?a8, ?a9, ?e1, ?e2, ?e3⟩, ?e4⟩⟩
  case e1 => exact rfl
  case e2 => exact rfl
  case e3 => kernel_rfl
  case e4 => kernel_rfl
theorem df43 (X : (HK p).In h) (G : h.Ns mainGlobals mg) : Df (HK p) mg "roots_up_to" (top 43) := by
  obtain ⟨fd, F⟩ := fd43 p
  exact ⟨355, fd, F, PySem.W.mg_of X G (by kernel_rfl)⟩
theorem fd44 (p : Params) : ∃ fd, Fun (HK p) "roots_in_all" "roots_in_all" (top 44) 362 fd := by
  rw [topQ]
  refine ⟨?fd, ⟨⟨?a1, ?a2, ?a3, ?a4, ?a5, ?a6, ?a7, ?a8, ?a9, ?e1, ?e2, ?e3⟩, ?e4⟩⟩
  case e1 => exact rfl
  case e2 => exact rfl
  case e3 => kernel_rfl
  case e4 => kernel_rfl
theorem df44 (X : (HK p).In h) (G : h.Ns mainGlobals mg) : Df (HK p) mg "roots_in_all" (top 44) := by
  obtain ⟨fd, F⟩ := fd44 p
  exact ⟨362, fd, F, PySem.W.mg_of X G (by kernel_rfl)⟩
theorem fd45 (p : Params) : ∃ fd, Fun (HK p) "roots_within" "roots_within" (top 45) 369 fd := by
  rw [topQ]
  refine ⟨?fd, ⟨⟨?a1, ?a2, ?a3, ?a4, ?a5, ?a6, ?a7, ?a8, ?a9, ?e1, ?e2, ?e3⟩, ?e4⟩⟩
  case e1 => exact rfl
  case e2 => exact rfl
  case e3 => kernel_rfl
  case e4 => kernel_rfl
theorem df45 (X : (HK p).In h) (G : h.Ns mainGlobals mg) : Df (HK p) mg "roots_within" (top 45) := by
  obtain ⟨fd, F⟩ := fd45 p
  exact ⟨369, fd, F, PySem.W.mg_of X G (by kernel_rfl)⟩
theorem fd46 (p : Params) : ∃ fd, Fun (HK p) "rank_of_last" "rank_of_last" (top 46) 376 fd := by
  rw [topQ]
  refine ⟨?fd, ⟨⟨?a1, ?a2, ?a3, ?a4, ?a5, ?a6, ?a7, ?a8, ?a9, ?e1, ?e2, ?e3⟩, ?e4⟩⟩
  case e1 => exact rfl
  case e2 => exact rfl
  case e3 => kernel_rfl
  case e4 => kernel_rfl
theorem df46 (X : (HK p).In h) (G : h.Ns mainGlobals mg) : Df (HK p) mg "rank_of_last" (top 46) := by
  obtain ⟨fd, F⟩ := fd46 p
  exact ⟨376, fd, F, PySem.W.mg_of X G (by kernel_rfl)⟩
theorem fd47 (p : Params) : ∃ fd, Fun (HK p) "stretch_of" "stretch_of" (top 47) 383 fd := by
  rw [topQ]
  refine ⟨?fd, ⟨⟨?a1, ?a2, ?a3, ?a4, ?a5, ?a6, ?a7, ?a8, ?a9, ?e1, ?e2, ?e3⟩, ?e4⟩⟩
  case e1 => exact rfl
  case e2 => exact rfl
  case e3 => kernel_rfl
  case e4 => kernel_rfl
theorem df47 (X : (HK p).In h) (G : h.Ns mainGlobals mg) : Df (HK p) mg "stretch_of" (top 47) := by
  obtain ⟨fd, F⟩ := fd47 p
  exact ⟨383, fd, F, PySem.W.mg_of X G (by kernel_rfl)⟩
theorem fd48 (p : Params) : ∃ fd, Fun (HK p) "lonely_stretch" "lonely_stretch" (top 48) 390 fd := by
  rw [topQ]
  refine ⟨?fd, ⟨⟨?a1, ?a2, ?a3, ?a4, ?a5, ?a6, ?a7, ?a8, ?a9, ?e1, ?e2, ?e3⟩, ?e4⟩⟩
  case e1 => exact rfl
  case e2 => exact rfl
  case e3 => kernel_rfl
  case e4 => kernel_rfl
theorem df48 (X : (HK p).In h) (G : h.Ns mainGlobals mg) : Df (HK p) mg "lonely_stretch" (top 48) := by
  obtain ⟨fd, F⟩ := fd48 p
  exact ⟨390, fd, F, PySem.W.mg_of X G (by kernel_rfl)⟩
theorem fd49 (p : Params) : ∃ fd, Fun (HK p) "refined" "refined" (top 49) 397 fd := by
  rw [topQ]
  refine ⟨?fd, ⟨⟨?a1, ?a2, ?a3, ?a4, ?a5, ?a6, ?a7, ?a8, ?a9, ?e1, ?e2, ?e3⟩, ?e4⟩⟩
  case e1 => exact rfl
  case e2 => exact rfl
  case e3 => kernel_rfl
  case e4 => kernel_rfl
theorem df49 (X : (HK p).In h) (G : h.Ns mainGlobals mg) : Df (HK p) mg "refined" (top 49) := by
  obtain ⟨fd, F⟩ := fd49 p
  exact ⟨397, fd, F, PySem.W.mg_of X G (by kernel_rfl)⟩
theorem fd50 (p : Params) : ∃ fd, Fun (HK p) "guessed" "guessed" (top 50) 404 fd := by
  rw [topQ]
  refine ⟨?fd, ⟨⟨?a1, ?a2, ?a3, ?a4, ?a5, ?a6, ?a7, ?a8, ?a9, ?e1, ?e2, ?e3⟩, ?e4⟩⟩
  case e1 => exact rfl
  case e2 => exact rfl
  case e3 => kernel_rfl
  case e4 => kernel_rfl
theorem df50 (X : (HK p).In h) (G : h.Ns mainGlobals mg) : Df (HK p) mg "guessed" (top 50) := by
  obtain ⟨fd, F⟩ := fd50 p
  exact ⟨404, fd, F, PySem.W.mg_of X G (by kernel_rfl)⟩
theorem fd53 (p : Params) : ∃ fd, Fun (HK p) "less" "less" (top 53) 493 fd := by
  rw [topQ]
  refine ⟨?fd, ⟨⟨?a1, ?a2, ?a3, ?a4, ?a5, ?a6, ?a7, ?a8, ?a9, ?e1, ?e2, ?e3⟩, ?e4⟩⟩
  case e1 => exact rfl
  case e2 => exact rfl
  case e3 => kernel_rfl
  case e4 => kernel_rfl
theorem df53 (X : (HK p).In h) (G : h.Ns mainGlobals mg) : Df (HK p) mg "less" (top 53) := by
  obtain ⟨fd, F⟩ := fd53 p
  exact ⟨493, fd, F, PySem.W.mg_of X G (by kernel_rfl)⟩
theorem fd54 (p : Params) : ∃ fd, Fun (HK p) "alike" "alike" (top 54) 500 fd := by
  rw [topQ]
  refine ⟨?fd, ⟨⟨?a1, ?a2, ?a3, ?a4, ?a5, ?a6, ?a7, ?a8, ?a9, ?e1, ?e2, ?e3⟩, ?e4⟩⟩
  case e1 => exact rfl
  case e2 => exact rfl
  case e3 => kernel_rfl
  case e4 => kernel_rfl
theorem df54 (X : (HK p).In h) (G : h.Ns mainGlobals mg) : Df (HK p) mg "alike" (top 54) := by
  obtain ⟨fd, F⟩ := fd54 p
  exact ⟨500, fd, F, PySem.W.mg_of X G (by kernel_rfl)⟩
theorem fd55 (p : Params) : ∃ fd, Fun (HK p) "check_shape" "check_shape" (top 55) 507 fd := by
  rw [topQ]
  refine ⟨?fd, ⟨⟨?a1, ?a2, ?a3, ?a4, ?a5, ?a6, ?a7, ?a8, ?a9, ?e1, ?e2, ?e3⟩, ?e4⟩⟩
  case e1 => exact rfl
  case e2 => exact rfl
  case e3 => kernel_rfl
  case e4 => kernel_rfl
theorem df55 (X : (HK p).In h) (G : h.Ns mainGlobals mg) : Df (HK p) mg "check_shape" (top 55) := by
  obtain ⟨fd, F⟩ := fd55 p
  exact ⟨507, fd, F, PySem.W.mg_of X G (by kernel_rfl)⟩
theorem fd56 (p : Params) : ∃ fd, Fun (HK p) "check_equation" "check_equation" (top 56) 514 fd := by
  rw [topQ]
  refine ⟨?fd, ⟨⟨?a1, ?a2, ?a3, ?a4, ?a5, ?a6, ?a7, ?a8, ?a9, ?e1, ?e2, ?e3⟩, ?e4⟩⟩
  case e1 => exact rfl
  case e2 => exact rfl
  case e3 => kernel_rfl
  case e4 => kernel_rfl
theorem df56 (X : (HK p).In h) (G : h.Ns mainGlobals mg) : Df (HK p) mg "check_equation" (top 56) := by
  obtain ⟨fd, F⟩ := fd56 p
  exact ⟨514, fd, F, PySem.W.mg_of X G (by kernel_rfl)⟩
theorem fd57 (p : Params) : ∃ fd, Fun (HK p) "check_stretch" "check_stretch" (top 57) 521 fd := by
  rw [topQ]
  refine ⟨?fd, ⟨⟨?a1, ?a2, ?a3, ?a4, ?a5, ?a6, ?a7, ?a8, ?a9, ?e1, ?e2, ?e3⟩, ?e4⟩⟩
  case e1 => exact rfl
  case e2 => exact rfl
  case e3 => kernel_rfl
  case e4 => kernel_rfl
theorem df57 (X : (HK p).In h) (G : h.Ns mainGlobals mg) : Df (HK p) mg "check_stretch" (top 57) := by
  obtain ⟨fd, F⟩ := fd57 p
  exact ⟨521, fd, F, PySem.W.mg_of X G (by kernel_rfl)⟩
theorem fd58 (p : Params) : ∃ fd, Fun (HK p) "factor_within" "factor_within" (top 58) 528 fd := by
  rw [topQ]
  refine ⟨?fd, ⟨⟨?a1, ?a2, ?a3, ?a4, ?a5, ?a6, ?a7, ?a8, ?a9, ?e1, ?e2, ?e3⟩, ?e4⟩⟩
  case e1 => exact rfl
  case e2 => exact rfl
  case e3 => kernel_rfl
  case e4 => kernel_rfl
theorem df58 (X : (HK p).In h) (G : h.Ns mainGlobals mg) : Df (HK p) mg "factor_within" (top 58) := by
  obtain ⟨fd, F⟩ := fd58 p
  exact ⟨528, fd, F, PySem.W.mg_of X G (by kernel_rfl)⟩
theorem fd59 (p : Params) : ∃ fd, Fun (HK p) "told_by" "told_by" (top 59) 533 fd := by
  rw [topQ]
  refine ⟨?fd, ⟨⟨?a1, ?a2, ?a3, ?a4, ?a5, ?a6, ?a7, ?a8, ?a9, ?e1, ?e2, ?e3⟩, ?e4⟩⟩
  case e1 => exact rfl
  case e2 => exact rfl
  case e3 => kernel_rfl
  case e4 => kernel_rfl
theorem df59 (X : (HK p).In h) (G : h.Ns mainGlobals mg) : Df (HK p) mg "told_by" (top 59) := by
  obtain ⟨fd, F⟩ := fd59 p
  exact ⟨533, fd, F, PySem.W.mg_of X G (by kernel_rfl)⟩
theorem fd60 (p : Params) : ∃ fd, Fun (HK p) "integer_of" "integer_of" (top 60) 540 fd := by
  rw [topQ]
  refine ⟨?fd, ⟨⟨?a1, ?a2, ?a3, ?a4, ?a5, ?a6, ?a7, ?a8, ?a9, ?e1, ?e2, ?e3⟩, ?e4⟩⟩
  case e1 => exact rfl
  case e2 => exact rfl
  case e3 => kernel_rfl
  case e4 => kernel_rfl
theorem df60 (X : (HK p).In h) (G : h.Ns mainGlobals mg) : Df (HK p) mg "integer_of" (top 60) := by
  obtain ⟨fd, F⟩ := fd60 p
  exact ⟨540, fd, F, PySem.W.mg_of X G (by kernel_rfl)⟩
theorem fd61 (p : Params) : ∃ fd, Fun (HK p) "text_of" "text_of" (top 61) 545 fd := by
  rw [topQ]
  refine ⟨?fd, ⟨⟨?a1, ?a2, ?a3, ?a4, ?a5, ?a6, ?a7, ?a8, ?a9, ?e1, ?e2, ?e3⟩, ?e4⟩⟩
  case e1 => exact rfl
  case e2 => exact rfl
  case e3 => kernel_rfl
  case e4 => kernel_rfl
theorem df61 (X : (HK p).In h) (G : h.Ns mainGlobals mg) : Df (HK p) mg "text_of" (top 61) := by
  obtain ⟨fd, F⟩ := fd61 p
  exact ⟨545, fd, F, PySem.W.mg_of X G (by kernel_rfl)⟩
theorem fd62 (p : Params) : ∃ fd, Fun (HK p) "turned_text" "turned_text" (top 62) 552 fd := by
  rw [topQ]
  refine ⟨?fd, ⟨⟨?a1, ?a2, ?a3, ?a4, ?a5, ?a6, ?a7, ?a8, ?a9, ?e1, ?e2, ?e3⟩, ?e4⟩⟩
  case e1 => exact rfl
  case e2 => exact rfl
  case e3 => kernel_rfl
  case e4 => kernel_rfl
theorem df62 (X : (HK p).In h) (G : h.Ns mainGlobals mg) : Df (HK p) mg "turned_text" (top 62) := by
  obtain ⟨fd, F⟩ := fd62 p
  exact ⟨552, fd, F, PySem.W.mg_of X G (by kernel_rfl)⟩
theorem fd64 (p : Params) : ∃ fd, Fun (HK p) "_law_tub" "_law_tub" (top 64) 559 fd := by
  rw [topQ]
  refine ⟨?fd, ⟨⟨?a1, ?a2, ?a3, ?a4, ?a5, ?a6, ?a7, ?a8, ?a9, ?e1, ?e2, ?e3⟩, ?e4⟩⟩
  case e1 => exact rfl
  case e2 => exact rfl
  case e3 => kernel_rfl
  case e4 => kernel_rfl
theorem df64 (X : (HK p).In h) (G : h.Ns mainGlobals mg) : Df (HK p) mg "_law_tub" (top 64) := by
  obtain ⟨fd, F⟩ := fd64 p
  exact ⟨559, fd, F, PySem.W.mg_of X G (by kernel_rfl)⟩
theorem fd65 (p : Params) : ∃ fd, Fun (HK p) "_law_tap" "_law_tap" (top 65) 566 fd := by
  rw [topQ]
  refine ⟨?fd, ⟨⟨?a1, ?a2, ?a3, ?a4, ?a5, ?a6, ?a7, ?a8, ?a9, ?e1, ?e2, ?e3⟩, ?e4⟩⟩
  case e1 => exact rfl
  case e2 => exact rfl
  case e3 => kernel_rfl
  case e4 => kernel_rfl
theorem df65 (X : (HK p).In h) (G : h.Ns mainGlobals mg) : Df (HK p) mg "_law_tap" (top 65) := by
  obtain ⟨fd, F⟩ := fd65 p
  exact ⟨566, fd, F, PySem.W.mg_of X G (by kernel_rfl)⟩
theorem fd66 (p : Params) : ∃ fd, Fun (HK p) "_law_root_down" "_law_root_down" (top 66) 573 fd := by
  rw [topQ]
  refine ⟨?fd, ⟨⟨?a1, ?a2, ?a3, ?a4, ?a5, ?a6, ?a7, ?a8, ?a9, ?e1, ?e2, ?e3⟩, ?e4⟩⟩
  case e1 => exact rfl
  case e2 => exact rfl
  case e3 => kernel_rfl
  case e4 => kernel_rfl
theorem df66 (X : (HK p).In h) (G : h.Ns mainGlobals mg) : Df (HK p) mg "_law_root_down" (top 66) := by
  obtain ⟨fd, F⟩ := fd66 p
  exact ⟨573, fd, F, PySem.W.mg_of X G (by kernel_rfl)⟩
theorem fd67 (p : Params) : ∃ fd, Fun (HK p) "_law_right" "_law_right" (top 67) 578 fd := by
  rw [topQ]
  refine ⟨?fd, ⟨⟨?a1, ?a2, ?a3, ?a4, ?a5, ?a6, ?a7, ?a8, ?a9, ?e1, ?e2, ?e3⟩, ?e4⟩⟩
  case e1 => exact rfl
  case e2 => exact rfl
  case e3 => kernel_rfl
  case e4 => kernel_rfl
theorem df67 (X : (HK p).In h) (G : h.Ns mainGlobals mg) : Df (HK p) mg "_law_right" (top 67) := by
  obtain ⟨fd, F⟩ := fd67 p
  exact ⟨578, fd, F, PySem.W.mg_of X G (by kernel_rfl)⟩
theorem fd68 (p : Params) : ∃ fd, Fun (HK p) "law" "law" (top 68) 583 fd := by
  rw [topQ]
  refine ⟨?fd, ⟨⟨?a1, ?a2, ?a3, ?a4, ?a5, ?a6, ?a7, ?a8, ?a9, ?e1, ?e2, ?e3⟩, ?e4⟩⟩
  case e1 => exact rfl
  case e2 => exact rfl
  case e3 => kernel_rfl
  case e4 => kernel_rfl
theorem df68 (X : (HK p).In h) (G : h.Ns mainGlobals mg) : Df (HK p) mg "law" (top 68) := by
  obtain ⟨fd, F⟩ := fd68 p
  exact ⟨583, fd, F, PySem.W.mg_of X G (by kernel_rfl)⟩
theorem ds_of (X : (HK p).In h) (G : h.Ns mainGlobals mg) : Ds (HK p) mg where
  d11 := df11 X G
  d12 := df12 X G
  d13 := df13 X G
  d14 := df14 X G
  d15 := df15 X G
  d16 := df16 X G
  d17 := df17 X G
  d18 := df18 X G
  d19 := df19 X G
  d21 := df21 X G
  d22 := df22 X G
  d23 := df23 X G
  d24 := df24 X G
  d25 := df25 X G
  d26 := df26 X G
  d27 := df27 X G
  d28 := df28 X G
  d32 := df32 X G
  d33 := df33 X G
  d34 := df34 X G
  d35 := df35 X G
  d36 := df36 X G
  d37 := df37 X G
  d40 := df40 X G
  d41 := df41 X G
  d42 := df42 X G
  d43 := df43 X G
  d44 := df44 X G
  d45 := df45 X G
  d46 := df46 X G
  d47 := df47 X G
  d48 := df48 X G
  d49 := df49 X G
  d50 := df50 X G
  d53 := df53 X G
  d54 := df54 X G
  d55 := df55 X G
  d56 := df56 X G
  d57 := df57 X G
  d58 := df58 X G
  d59 := df59 X G
  d60 := df60 X G
  d61 := df61 X G
  d62 := df62 X G
  d64 := df64 X G
  d65 := df65 X G
  d66 := df66 X G
  d67 := df67 X G
  d68 := df68 X G
theorem bl_of (X : (HK p).In h) (G : h.Ns mainGlobals mg) : Bl mg where
  isinstance_ := PySem.W.mg_none_of X G (by kernel_rfl)
  int_ := PySem.W.mg_none_of X G (by kernel_rfl)
  bool_ := PySem.W.mg_none_of X G (by kernel_rfl)
  tuple_ := PySem.W.mg_none_of X G (by kernel_rfl)
  str_ := PySem.W.mg_none_of X G (by kernel_rfl)
  len_ := PySem.W.mg_none_of X G (by kernel_rfl)
  all_ := PySem.W.mg_none_of X G (by kernel_rfl)
  range_ := PySem.W.mg_none_of X G (by kernel_rfl)
  max_ := PySem.W.mg_none_of X G (by kernel_rfl)
  min_ := PySem.W.mg_none_of X G (by kernel_rfl)
  abs_ := PySem.W.mg_none_of X G (by kernel_rfl)
  enumerate_ := PySem.W.mg_none_of X G (by kernel_rfl)
  zip_ := PySem.W.mg_none_of X G (by kernel_rfl)
  divmod_ := PySem.W.mg_none_of X G (by kernel_rfl)
  repr_ := PySem.W.mg_none_of X G (by kernel_rfl)
  gcd_ := PySem.W.mg_of X G (by kernel_rfl)
  deg_ := ⟨_, PySem.W.mg_of X G rfl⟩
  term_ := ⟨_, PySem.W.mg_of X G rfl⟩
  bits_ := ⟨_, PySem.W.mg_of X G rfl⟩
theorem list_of (X : (HK p).In h) (G : h.Ns mainGlobals mg) : mg "list" = none := PySem.W.mg_none_of X G (by kernel_rfl)
theorem any_of (X : (HK p).In h) (G : h.Ns mainGlobals mg) : mg "any" = none := PySem.W.mg_none_of X G (by kernel_rfl)
theorem isq_of (X : (HK p).In h) (G : h.Ns mainGlobals mg) : mg "isqrt" = some (.builtin "math.isqrt") := PySem.W.mg_of X G (by kernel_rfl)
theorem sh_cl (p : Params) : Cls (HK p) 482 := ⟨by kernel_rfl, by kernel_rfl, by kernel_rfl, by kernel_rfl⟩
theorem sh_init (p : Params) : ∃ f fd, Mk (HK p) 482 f ∧ Fun (HK p) "__init__" "Shape.__init__" (inClass (top 52) 0) f fd := by
  rw [topQ]
  refine ⟨418, ?fd, ⟨?m1, ?m2, ?m3, ?m4⟩, ⟨⟨?a1, ?a2, ?a3, ?a4, ?a5, ?a6, ?a7, ?a8, ?a9, ?e1, ?e2, ?e3⟩, ?e4⟩⟩
  case m1 => kernel_rfl
  case m2 => kernel_rfl
  case m3 => kernel_rfl
  case m4 => kernel_rfl
  case e1 => exact rfl
  case e2 => exact rfl
  case e3 => kernel_rfl
  case e4 => kernel_rfl
theorem sh_text (p : Params) : ∃ q f fd, PropOf (HK p) 482 "text" q f ∧ Fun (HK p) "text" "Shape.text" (inClass (top 52) 2) f fd := by
  rw [topQ]
  refine ⟨434, ?f, ?fd, ⟨?m1, ?m2, ?m3, ⟨?rest, ?m4⟩⟩, ⟨⟨?a1, ?a2, ?a3, ?a4, ?a5, ?a6, ?a7, ?a8, ?a9, ?e1, ?e2, ?e3⟩, ?e4⟩⟩
  case m1 => kernel_rfl
  case m4 => exact rfl
  case m2 => kernel_rfl
  case m3 => kernel_rfl
  case e1 => exact rfl
  case e2 => exact rfl
  case e3 => kernel_rfl
  case e4 => kernel_rfl
theorem sh_equation (p : Params) : ∃ q f fd, PropOf (HK p) 482 "equation" q f ∧ Fun (HK p) "equation" "Shape.equation" (inClass (top 52) 3) f fd := by
  rw [topQ]
  refine ⟨442, ?f, ?fd, ⟨?m1, ?m2, ?m3, ⟨?rest, ?m4⟩⟩, ⟨⟨?a1, ?a2, ?a3, ?a4, ?a5, ?a6, ?a7, ?a8, ?a9, ?e1, ?e2, ?e3⟩, ?e4⟩⟩
  case m1 => kernel_rfl
  case m4 => exact rfl
  case m2 => kernel_rfl
  case m3 => kernel_rfl
  case e1 => exact rfl
  case e2 => exact rfl
  case e3 => kernel_rfl
  case e4 => kernel_rfl
theorem sh_degree (p : Params) : ∃ q f fd, PropOf (HK p) 482 "degree" q f ∧ Fun (HK p) "degree" "Shape.degree" (inClass (top 52) 4) f fd := by
  rw [topQ]
  refine ⟨450, ?f, ?fd, ⟨?m1, ?m2, ?m3, ⟨?rest, ?m4⟩⟩, ⟨⟨?a1, ?a2, ?a3, ?a4, ?a5, ?a6, ?a7, ?a8, ?a9, ?e1, ?e2, ?e3⟩, ?e4⟩⟩
  case m1 => kernel_rfl
  case m4 => exact rfl
  case m2 => kernel_rfl
  case m3 => kernel_rfl
  case e1 => exact rfl
  case e2 => exact rfl
  case e3 => kernel_rfl
  case e4 => kernel_rfl
theorem sh_rank (p : Params) : ∃ q f fd, PropOf (HK p) 482 "rank" q f ∧ Fun (HK p) "rank" "Shape.rank" (inClass (top 52) 5) f fd := by
  rw [topQ]
  refine ⟨458, ?f, ?fd, ⟨?m1, ?m2, ?m3, ⟨?rest, ?m4⟩⟩, ⟨⟨?a1, ?a2, ?a3, ?a4, ?a5, ?a6, ?a7, ?a8, ?a9, ?e1, ?e2, ?e3⟩, ?e4⟩⟩
  case m1 => kernel_rfl
  case m4 => exact rfl
  case m2 => kernel_rfl
  case m3 => kernel_rfl
  case e1 => exact rfl
  case e2 => exact rfl
  case e3 => kernel_rfl
  case e4 => kernel_rfl
theorem sh_flo (p : Params) : ∃ f fd, Meth (HK p) 482 "floor_at" f ∧ Fun (HK p) "floor_at" "Shape.floor_at" (inClass (top 52) 6) f fd := by
  rw [topQ]
  refine ⟨465, ?fd, ⟨?m1, ?m2, ?m3⟩, ⟨⟨?a1, ?a2, ?a3, ?a4, ?a5, ?a6, ?a7, ?a8, ?a9, ?e1, ?e2, ?e3⟩, ?e4⟩⟩
  case m1 => kernel_rfl
  case m2 => kernel_rfl
  case m3 => kernel_rfl
  case e1 => exact rfl
  case e2 => exact rfl
  case e3 => kernel_rfl
  case e4 => kernel_rfl
theorem sh_eq (p : Params) : ShE (HK p) 482 := by
  have q : ∃ fd, Fun (HK p) "__eq__" "Shape.__eq__" (inClass (top 52) 7) 472 fd := by
    rw [topQ]
    refine ⟨?fd, ⟨⟨?a1, ?a2, ?a3, ?a4, ?a5, ?a6, ?a7, ?a8, ?a9, ?e1, ?e2, ?e3⟩, ?e4⟩⟩
    case e1 => exact rfl
    case e2 => exact rfl
    case e3 => kernel_rfl
    case e4 => kernel_rfl
  obtain ⟨fd, F⟩ := q
  exact ⟨⟨472, fd, by kernel_rfl, by kernel_rfl, F⟩⟩
theorem sh_so (p : Params) : ShO (HK p) 482 := by
  have q : ∃ fd, Fun (HK p) "of" "Shape.of" (inClass (top 52) 1) 423 fd := by
    rw [topQ]
    refine ⟨?fd, ⟨⟨?a1, ?a2, ?a3, ?a4, ?a5, ?a6, ?a7, ?a8, ?a9, ?e1, ?e2, ?e3⟩, ?e4⟩⟩
    case e1 => exact rfl
    case e2 => exact rfl
    case e3 => kernel_rfl
    case e4 => kernel_rfl
  obtain ⟨fd, F⟩ := q
  exact ⟨⟨.type "type", ⟨by kernel_rfl, by kernel_rfl⟩, 425, 423, fd, ⟨by kernel_rfl, ⟨_, rfl⟩⟩, by kernel_rfl, F⟩⟩
theorem sh_of (X : (HK p).In h) (G : h.Ns mainGlobals mg) : ShC (HK p) mg 482 where
  cl := sh_cl p
  n1 := by show PySem.W.findIn _ _ _ = _; kernel_rfl
  n2 := by show PySem.W.findIn _ _ _ = _; kernel_rfl
  n3 := by show PySem.W.findIn _ _ _ = _; kernel_rfl
  n4 := by show PySem.W.findIn _ _ _ = _; kernel_rfl
  n5 := by show PySem.W.findIn _ _ _ = _; kernel_rfl
  mgC := PySem.W.mg_of X G (by kernel_rfl)
  mkS := sh_init p
  txt := sh_text p
  eqn := sh_equation p
  deg := sh_degree p
  rnk := sh_rank p
  flo := sh_flo p
  c1 := by kernel_rfl
  c2 := by kernel_rfl
  c3 := by kernel_rfl
  c4 := by kernel_rfl
  kit := by kernel_rfl
end
end Wq

/-! The end of k12. -/
namespace Xq
open PySem PySem.Spec PyProof.Rows L2 Xk
/-- the law's call, where no repr is under way -/
theorem call_g2 {P : Program} {w : World} {K : PySem.W.Frag} {mg mb : Str → Option Value} {k : Nat} {fa a : Addr} {x x' : Str} {sp : Sp} {s₁ : Shared} {vs : List Value} {ns : List Int}
    (KX : K.In s₁.heap) (hns : s₁.heap.Ns mainGlobals mg) (hb : s₁.heap.Ns builtinsNs mb) (hbb : ∀ x : Str, x ≠ "__name__" → mb x = bootBuiltins x)
    (hlim : s₁.heap.NoLimit) (hg : s₁.gens = #[]) (ha : s₁.heap.get? a = some { cls := .type "list", data := .seq vs.toArray })
    (hi : IntsAre vs ns) (hl : ns.length ≤ sizeLine) (hr : Room k callerA)
    (F : ∀ base : Heap, CalG P w K mg base k x [x'] sp) (hmx : mg x = some (.ref fa))
    (hsp : ∀ H : Hp, SqL K H a (ns.map V.int) → sp [.ref a] H (fun v _ => v = .bl true) E0) :
    codeAny (model P w) callerA (.call (.ref fa) ⟨[.ref a], []⟩)
      (fun r s' => r = .ok (.ret (.bool true)) ∧ PySem.OldK s₁.heap s'.heap ∧ s'.os = s₁.os ∧ AllBare s'.gens) s₁ := by
  have rv := vals_ints hi
  have lenV := hi.length
  have core : ∀ H : Hp, Only H → SqL K H a (ns.map V.int) → HOk P w H s₁.heap → (∀ b, H b ≠ none → b = a) → (H a ≠ none → K.lookup a = none) →
      codeAny (model P w) callerA (.call (.ref fa) ⟨[.ref a], []⟩)
        (fun r s' => r = .ok (.ret (.bool true)) ∧ PySem.OldK s₁.heap s'.heap ∧ s'.os = s₁.os ∧ AllBare s'.gens) s₁ := by
    intro H hO hS hok hA hK
    have base_of : ∀ {b : Addr} {o : Obj}, s₁.heap.get? b = some o → H b = none → (hidT s₁.heap H).get? b = some o := fun e n => hidT_get e n
    have noA : ∀ {b : Addr} {o : Obj} {es : Array DictEntry} {ep : Nat}, s₁.heap.get? b = some o → o.data = .dict es ep → H b = none := fun {b o es ep} e d => by
      cases q : H b with
      | none => rfl
      | some u =>
        obtain rfl : b = a := hA b (by rw [q]; simp)
        rw [ha] at e
        cases e
        cases (show Data.seq vs.toArray _ = Data.dict es ep from d)
    have nsK : ∀ {b : Addr} {m : Str → Option Value}, s₁.heap.Ns b m → (hidT s₁.heap H).Ns b m := fun {b m} z => by
      obtain ⟨o, es, ep, e, d, r⟩ := z
      exact ⟨o, es, ep, base_of e (noA e d), d, r⟩
    have hKb : K.In (hidT s₁.heap H) := fun b o e => by
      refine base_of (KX b o e) ?_
      cases q : H b with
      | none => rfl
      | some u =>
        obtain rfl : b = a := hA b (by rw [q]; simp)
        rw [hK (by rw [q]; simp)] at e
        cases e
    have hM : Mod K mg (hidT s₁.heap H) := by
      obtain ⟨mc, h1, h2⟩ := hlim
      exact ⟨hKb, nsK hns, ⟨mb, nsK hb, hbb⟩, ⟨mc, nsK h1, h2⟩⟩
    have en : Env0 P w K mg (hidT s₁.heap H) callerA [] s₁ H :=
      ⟨rfl, hM, fun b o e => of_hidT e, Nat.le_of_eq (hidT_size _ _), trivial, fun b hb => absurd (show b ∈ ([] : List Addr) from hb) (by simp), hok, .of_eq hg⟩
    obtain ⟨f', fd, FF, bnd, m', kp⟩ := (F (hidT s₁.heap H)).ex
    rw [hmx] at m'
    cases m'
    have bd := bnd s₁ [.ref a] KX rfl
    rw [List.append_nil] at bd
    refine codeAny_mono (FF.run callerA [] s₁ H ⟨[.ref a], []⟩ [.ref a] [.ref a] _ _ hr rfl en bd (.cons rfl .nil) (hsp H hS)) fun r s' h => ?_
    cases r with
    | error e => exact (show False from h).elim
    | ok fl =>
      cases fl with
      | next => exact False.elim h
      | brk => exact False.elim h
      | cont => exact False.elim h
      | ret u =>
        obtain ⟨v, H', os, bare, un, hok', r', q⟩ := h
        obtain rfl : v = .bl true := q
        obtain rfl : u = Value.bool true := r'
        refine ⟨rfl, PySem.OldK.of_keep fun b o e => ?_, os, bare⟩
        cases q : H b with
        | none =>
          refine un.keep b o e q ?_ (by simp)
          intro z
          exact absurd (show b ∈ ([] : List Addr) from z) (by simp)
        | some u =>
          rcases hO b with z | ⟨ob, xs, z⟩
          · rw [q] at z
            cases z
          · obtain ⟨e1, _⟩ := hok b _ z
            obtain ⟨e2, _⟩ := hok' b _ (un.frzs b ob _ z)
            rw [e] at e1
            cases e1
            exact e2
  cases hk : K.lookup a with
  | some o =>
    have e := KX a o hk
    rw [ha] at e
    cases e
    refine core (fun _ => none) (fun _ => .inl rfl) (.inr ⟨_, vs.toArray, _, hk, rfl, rfl, rfl, ?_, by simpa using rv⟩) ?_ (fun b z => absurd rfl z) fun z => absurd rfl z
    · rw [List.size_toArray, lenV]
      exact hl
    · intro b u z
      cases (show (none : Option HO) = some u from z)
  | none =>
    refine core (fun b => if b = a then some (.frz { cls := .type "list", data := .seq vs.toArray } (.lst (ns.map V.int))) else none) (fun b => ?_)
      (.inl (.inr ⟨{ cls := .type "list", data := .seq vs.toArray }, if_pos rfl⟩)) (fun b u z => ?_) (fun b z => ?_) fun _ => hk
    · by_cases hb : b = a
      · exact .inr ⟨_, _, if_pos hb⟩
      · exact .inl (if_neg hb)
    · by_cases hb : b = a
      · cases ((if_pos hb).symm.trans z)
        subst hb
        exact ⟨ha, by rw [List.length_map]; exact hl, vs, _, rv, ha⟩
      · cases ((if_neg hb).symm.trans z)
    · by_cases hb : b = a
      · exact hb
      · exact absurd (if_neg hb) z
theorem room13 : Room 13 callerA := ⟨rfl, by decide, by decide⟩
theorem walk_12 {l : PySem.W.OpenLaw} {q : Program} {loose : List Str} {XP : (Str → Option Value) → Heap → Prop} {YP : World → Heap → Prop} {d : DefRec}
    (hn : l.most = some 63) (hdf : d.params.defaults = []) (hnm : d.name = "law")
    (hY : ∀ (w : World) (h : Heap), YP w h → (Wq.HK w.params).In h) :
    PySem.W.WalkO q loose XP YP l.row.toRowW d [] (fun f vs => PySem.call f vs) := by
  refine Att.attach_call hn hdf fun w s₀ s₁ mg mb fa o pm cd doc a vs ns G Y ho hd hcd hmg hobj hints hlen hg => ?_
  have KX := hY w _ Y
  rw [hnm] at hmg
  exact call_g2 KX G.T.g G.T.b G.T.builtins G.T.nolimit hg hobj hints (Nat.le_trans hlen (by decide)) room13
    (fun base => law_all (P := l.prog) (w := w) (base := base) (Wq.ds_of KX G.T.g) (Wq.bl_of KX G.T.g) (Wq.sh_of KX G.T.g) (Wq.sh_eq w.params) (Wq.sh_so w.params) (Wq.list_of KX G.T.g) (Wq.any_of KX G.T.g) (Wq.isq_of KX G.T.g)) hmg fun H hS => ⟨a, ns, rfl, hS, hlen, fun _ => rfl⟩
end Xq
open PySem PySem.W PyProof.Rows in
theorem PySem.Challenge.cw_likepanes_k12_known_shapes_holds : PySem.Challenge.rw_likepanes_k12_known_shapes.Holds := by
  w_on; o_law
  refine Hd.hd (by assumption) ?hw ?hc
  case hw =>
    show (OpenRow.toRowW (OpenLaw.row PySem.Challenge.rw_likepanes_k12_known_shapes)).promised
    w_witness2
  case hc => exact Xq.walk_12 (l := PySem.Challenge.rw_likepanes_k12_known_shapes) rfl (by kernel_rfl) (by kernel_rfl) (fun w h Y => PySem.W.kIn_of Y)
#print axioms PySem.Challenge.cw_likepanes_k12_known_shapes_holds
