import PyProof.Rows.All
import Wide.All
import OpenK.AllK
import Wide.FinOn
import HandS.AnyAll
import HandS.Base
import HandS.Call
import HandS.ClsMeth
import HandS.Codes
import HandS.Deep
import HandS.EndTab
import HandS.FStr
import HandS.Flow
import HandS.ForMost
import HandS.Gcd
import HandS.HeadHook3
import HandS.IsInst
import HandS.Lambda
import HandS.List
import HandS.NoneIn
import HandS.OwnEq
import HandS.Property
import HandS.Rev
import HandS.Star
import HandS.StrMore
import HandS.Style
import HandS.TupAny
import HandS.Walk
import HandS.Wide
import HandS.WideBits
import HandS.Words
import HandS.Zip
import KE.HD3
import KE.KMathG
import PyProof.Draws
import PyProof.ReprLen
import PyProof.ReprRoads
import PySem.Challenge.RW_likepanes_k39_known_writings
set_option Elab.async false
set_option linter.all false
set_option maxRecDepth 100000
set_option maxHeartbeats 0
set_option exponentiation.threshold 20000
/-! The top in segments, each the kernel's run from a written state to the next one. -/
namespace Hs
open PySem PySem.W PySem.Calls PyProof.Rows
/-! the library's twins by their names -/
noncomputable def execsQ : List Stmt → Env → Sem Flow := PySem.W.Fast.tw12563942051412417395
theorem execsQ_eq : @PySem.execs = execsQ := PySem.W.Fast.te12563942051412417395
noncomputable def blockQ : List Stmt → Env → Sem Unit := PySem.W.Fast.tw1066825118222455980
theorem blockQ_eq : @blockStart = blockQ := PySem.W.Fast.te1066825118222455980
noncomputable def okQ : Nat → Option Value → Thread → Bool := PySem.W.Fast.tw6613529449190102663
theorem okQ_eq : @stepOk = okQ := PySem.W.Fast.te6613529449190102663
noncomputable abbrev stQ (p : Program) (w : World) : SharedT → Thread → Option (SharedT × Thread) := HeadRun.stepQ (HeadRun.denQ HeadRun.tabQ) p w
theorem stQ_eq (p : Program) (w : World) : stepT (denote treeTable) p w = stQ p w := by rw [HeadRun.stepQ_eq, HeadRun.denQ_eq, HeadRun.tabQ_eq]
section
variable (st : SharedT → Thread → Option (SharedT × Thread)) (ok : Thread → Bool)
/-- a segment of the top, to its end -/
noncomputable def segF : Nat → SharedT → Thread → Option (Flow × SharedT × Code × Pos)
  | 0, _, _ => none
  | m + 1, s, t => match endAt 1 t with
    | some f => some (f, s, t.code, t.pos)
    | none => match ok t with
      | false => none
      | true => match st s t with
        | some (s', t') => HeadRun.frS s' fun s' => segF m s' t'
        | none => none
/-- so many steps of the top -/
noncomputable def goK : Nat → SharedT → Thread → Option (SharedT × Thread)
  | 0, s, t => some (s, t)
  | m + 1, s, t => match through t with
    | true => none
    | false => match ok t with
      | false => none
      | true => match st s t with
        | some (s', t') => HeadRun.frS s' fun s' => goK m s' t'
        | none => none
end
section
variable {tb : String → Option Builtin} {p : Program} {w : World} {n₀ : Nat} {ann : Option Value}
theorem segF_ok : ∀ {m : Nat} {s s' : SharedT} {t : Thread} {f : Flow} {c : Code} {q : Pos}, segF (stepT (denote tb) p w) (stepOk n₀ ann) m s t = some (f, s', c, q) → segRun tb p w n₀ ann 1 m s.abs t = some (f, s'.abs, c, q)
  | 0, _, _, _, _, _, _, h => by cases h
  | m + 1, s, s', t, f, c, q, h => by
    have h1 : (match endAt 1 t with
      | some f => some (f, s, t.code, t.pos)
      | none => match stepOk n₀ ann t with
        | false => none
        | true => match stepT (denote tb) p w s t with
          | some (s', t') => HeadRun.frS s' fun s' => segF (stepT (denote tb) p w) (stepOk n₀ ann) m s' t'
          | none => none) = some (f, s', c, q) := h
    unfold segRun
    cases he : endAt 1 t with
    | some x => rw [he] at h1; cases h1; rfl
    | none =>
      rw [he] at h1
      cases hk : stepOk n₀ ann t with
      | false => rw [hk] at h1; cases h1
      | true =>
        rw [hk] at h1
        cases hs : stepT (denote tb) p w s t with
        | none => rw [hs] at h1; cases h1
        | some r =>
          obtain ⟨s₂, t₂⟩ := r
          rw [hs] at h1
          have h2 : (HeadRun.frS s₂ fun s' => segF (stepT (denote tb) p w) (stepOk n₀ ann) m s' t₂) = some (f, s', c, q) := h1
          rw [HeadRun.frS_eq] at h2
          rw [stepT_spec hs]
          exact segF_ok h2
theorem goK_ok : ∀ {m : Nat} {s s' : SharedT} {t t' : Thread}, goK (stepT (denote tb) p w) (stepOk n₀ ann) m s t = some (s', t') → topGo tb p w n₀ ann m s.abs t = some (s'.abs, t')
  | 0, _, _, _, _, h => by
    cases h
    rfl
  | m + 1, s, s', t, t', h => by
    have h1 : (match through t with
      | true => none
      | false => match stepOk n₀ ann t with
        | false => none
        | true => match stepT (denote tb) p w s t with
          | some (s', t') => HeadRun.frS s' fun s' => goK (stepT (denote tb) p w) (stepOk n₀ ann) m s' t'
          | none => none) = some (s', t') := h
    unfold topGo
    cases he : through t with
    | true => rw [he] at h1; cases h1
    | false =>
      rw [he] at h1
      cases hk : stepOk n₀ ann t with
      | false => rw [hk] at h1; cases h1
      | true =>
        rw [hk] at h1
        cases hs : stepT (denote tb) p w s t with
        | none => rw [hs] at h1; cases h1
        | some r =>
          obtain ⟨s₂, t₂⟩ := r
          rw [hs] at h1
          have h2 : (HeadRun.frS s₂ fun s' => goK (stepT (denote tb) p w) (stepOk n₀ ann) m s' t₂) = some (s', t') := h1
          rw [HeadRun.frS_eq] at h2
          show (match step (denote tb) p w s.abs t with
            | .go s' t' => topGo tb p w n₀ ann m s' t'
            | .halt _ _ => none) = some (s'.abs, t')
          rw [stepT_spec hs]
          exact goK_ok h2
end
/-! the run's parts, by the twins -/
section
variable {p : Program} {w : World} {n₀ : Nat} {ann : Option Value} {env : Env} {q : Pos} {N : Nat} {r : Shared}
/-- ahead of the text's body -/
theorem pre_ok {m : Nat} {s s' : SharedT} {b : List Stmt} {pos : Pos} (h : goK (stQ p w) (okQ n₀ ann) m s (topStub p) = some (s', ⟨HeadRun.denQ HeadRun.tabQ (.body b env), .body b env, pos, [topFrame q]⟩))
    (k : topRun treeTable p w n₀ ann N s'.abs ⟨denote treeTable (.body b env), .body b env, pos, [topFrame q]⟩ = some r) : topRun treeTable p w n₀ ann (m + N) s.abs (topStub p) = some r := by
  rw [← stQ_eq, ← okQ_eq, ← HeadRun.denQ_eq, ← HeadRun.tabQ_eq] at h
  exact go_top (goK_ok h) k
/-- the body's own start -/
theorem block_ok {m : Nat} {s s' : SharedT} {b : List Stmt} {c : Code} {pos p' : Pos} (h : segF (stQ p w) (okQ n₀ ann) m s ⟨(blockQ b env).wrap (fun _ => doneF .next) deadEnd id id, c, pos, [topFrame q]⟩ = some (.next, s', c, p'))
    (k : topRun treeTable p w n₀ ann N s'.abs (restOf b env c p' [topFrame q]) = some r) : topRun treeTable p w n₀ ann (m + N) s.abs ⟨denote treeTable (.body b env), c, pos, [topFrame q]⟩ = some r := by
  rw [← stQ_eq, ← okQ_eq, ← blockQ_eq] at h
  exact piece_block (segF_ok h) k
/-- some of its statements -/
theorem some_ok {m : Nat} {s s' : SharedT} {l rest : List Stmt} {c : Code} {pos p' : Pos} (h : segF (stQ p w) (okQ n₀ ann) m s ⟨(execsQ l env).wrap doneF deadEnd id id, c, pos, [topFrame q]⟩ = some (.next, s', c, p'))
    (k : topRun treeTable p w n₀ ann N s'.abs (restOf rest env c p' [topFrame q]) = some r) : topRun treeTable p w n₀ ann (m + N) s.abs (restOf (l ++ rest) env c pos [topFrame q]) = some r := by
  rw [← stQ_eq, ← okQ_eq, ← execsQ_eq] at h
  exact piece_app (segF_ok h) k
/-- behind the last -/
theorem fin_ok {m : Nat} {s s' : SharedT} {c : Code} {pos : Pos} (h : HeadRun.goF (stQ p w) n₀ ann m s ⟨doneF .next, c, pos, [topFrame q]⟩ = some s') : topRun treeTable p w n₀ ann m s.abs (restOf [] env c pos [topFrame q]) = some s'.abs := by
  rw [← stQ_eq] at h
  exact HeadRun.goF_ok h
end
/-- the boot, the imports, the fences -/
theorem open_ok {M : Nat} {p : Program} {w : World} {A X : SharedT} {YA Y : Shared} (h1 : HeadRun.impF (stQ (opening p) w) M (HeadRun.startT (opening p)) (start (opening p)).2 = some A) (hA : A.abs = YA) (h2 : HeadRun.fenceQ p YA = some Y)
    (hX : X.abs = Y) : fencedOpening treeTable p w M = some Y ∧ Y.heap.objs.size = X.n := by
  rw [← stQ_eq] at h1
  have a1 := HeadRun.impF_ok h1
  rw [HeadRun.startT_eq, hA] at a1
  refine ⟨?_, ?_⟩
  · unfold fencedOpening
    rw [a1]
    show fenceModules? p YA = some Y
    rw [HeadRun.fenceQ_eq]
    exact h2
  · rw [← hX]
    exact absHeap_size _ _ _
theorem imp_mono {st : SharedT → Thread → Option (SharedT × Thread)} (k : Nat) : ∀ (m : Nat) (s : SharedT) (t : Thread) (r : SharedT), HeadRun.impF st m s t = some r → HeadRun.impF st (m + k) s t = some r
  | 0, _, _, _, h => by cases h
  | m + 1, s, t, r, h => by
    have h1 : (match t.atExitBegin with
      | some l => (match l with
        | [] => some s
        | _ :: _ => none)
      | none => match st s t with
        | some (s', t') => HeadRun.frS s' fun s' => HeadRun.impF st m s' t'
        | none => none) = some r := h
    rw [show m + 1 + k = m + k + 1 by omega]
    show (match t.atExitBegin with
      | some l => (match l with
        | [] => some s
        | _ :: _ => none)
      | none => match st s t with
        | some (s', t') => HeadRun.frS s' fun s' => HeadRun.impF st (m + k) s' t'
        | none => none) = some r
    cases ht : t.atExitBegin with
    | some l =>
      rw [ht] at h1
      exact h1
    | none =>
      rw [ht] at h1
      cases hs : st s t with
      | none =>
        rw [hs] at h1
        cases h1
      | some x =>
        obtain ⟨s2, t2⟩ := x
        rw [hs] at h1
        have h2 : (HeadRun.frS s2 fun s' => HeadRun.impF st m s' t2) = some r := h1
        show (HeadRun.frS s2 fun s' => HeadRun.impF st (m + k) s' t2) = some r
        rw [HeadRun.frS_eq] at h2 ⊢
        exact imp_mono k m _ _ _ h2
lay_quick PySem.W.openGood PySem.W.staticsOk PySem.W.namesBound PySem.W.laidKept
noncomputable def staticsQ : List PySem.Str → Heap → Heap → Bool := PySem.W.Fast.tw13471830651028734593
theorem staticsQ_eq : @staticsOk = staticsQ := PySem.W.Fast.te13471830651028734593
noncomputable def namesQ : Program → Heap → Bool := PySem.W.Fast.tw4683006035507612052
theorem namesQ_eq : @namesBound = namesQ := PySem.W.Fast.te4683006035507612052
noncomputable def laidQ : Heap → Heap → Bool := PySem.W.Fast.tw16898566250750103049
theorem laidQ_eq : @laidKept = laidQ := PySem.W.Fast.te16898566250750103049
theorem left_cut {p q : Program} {loose : List PySem.Str} {Xt : Shared → Bool} {α : Type} {Yf : Shared → α} {Ya : World → α} {N : Nat}
    (run : ∀ w : World, ∃ (x : SharedT) (s0 s1 : Shared) (ann : Option Value), (fencedOpening treeTable p w N = some s0 ∧ s0.heap.objs.size = x.n) ∧ x.abs = s0 ∧ (s0.heap.isNs mainGlobals && s0.gens.size == 0) = true ∧ s0.heap.nsMap mainGlobals "__annotations__" = ann ∧ topRun treeTable p w x.n ann N x.abs (topStub p) = some s1 ∧
      staticsQ (importedModules p.main.body) s0.heap s1.heap = true ∧ namesQ p s1.heap = true ∧ gensDone s1 = true ∧ laidQ s0.heap s1.heap = true ∧ openSeen q loose (importedModules p.main.body) Xt true s1 = openGood q loose ∧ Yf s1 = Ya w) :
    LeftO p q loose Xt Yf Ya N true := fun w => by
  obtain ⟨x, s0, s1, ann, ⟨a, en⟩, hx, b, ha, h1, k1, k2, k3, k4, l2, l3⟩ := run w
  rw [← staticsQ_eq] at k1
  rw [← namesQ_eq] at k2
  rw [← laidQ_eq] at k4
  rw [hx] at h1
  have l1' : (staticsOk (importedModules p.main.body) s0.heap s1.heap && namesBound p s1.heap && gensDone s1 && laidKept s0.heap s1.heap) = true := by
    rw [k1, k2, k3, k4]
    rfl
  have t : topFrom treeTable p w N s0 = some s1 := by
    unfold topFrom
    rw [b]
    show (topRun treeTable p w s0.heap.objs.size (s0.heap.nsMap mainGlobals "__annotations__") N s0 (topStub p)).bind _ = _
    rw [en, ha, h1]
    show (match staticsOk (importedModules p.main.body) s0.heap s1.heap && namesBound p s1.heap && gensDone s1 && laidKept s0.heap s1.heap with | true => some s1 | false => none) = _
    rw [l1']
  unfold openEnds
  rw [a]
  show (topFrom treeTable p w N s0).map _ = _
  rw [t]
  exact congrArg some (Prod.ext l2 l3)
theorem seen_ok {q : Program} {loose mods : List PySem.Str} {Xt : Shared → Bool} {s : Shared} (h1 : seen ((recsOf q).map (·.name)) (ownsOf q) [] { s with gens := #[] } = expectedOf q) (h2 : s.heap.bltView = bltViewBooted)
    (h3 : s.heap.keysOk (looseW q loose) ((recsOf q).map (·.name)) ((litsOf q).map (·.1)) ((clssOf q (looseW q loose)).map (·.name)) = true) (h4 : s.heap.accountedOkI mods = true) (h5 : tablesOk q s.heap = true) (h6 : Xt s = true) (h7 : tabsOk q s = true)
    (h8 : pinSeenD q (drecsOf q) s = pinGoodD (drecsOf q)) (h9 : plainSeenE q (looseW q loose) s = plainGoodE q (looseW q loose)) (h10 : plainSeenD q loose s = plainGoodD q loose) (h11 : wideSeen q s = wideGood q) (h12 : clsSeenW q loose s = clsGoodW q loose)
    (h13 : (s.heap.isNs mainGlobals && s.heap.isNs builtinsNs) = true) (h14 : s.gens = #[]) : openSeen q loose mods Xt true s = openGood q loose := by
  obtain ⟨h13a, h13b⟩ := Bool.and_eq_true_iff.mp h13
  unfold openSeen openGood
  rw [h1, h2, h3, h4, h5, h6, h7, h8, h9, h10, h11, h12, h13a, h13b, h14]
  rfl
end Hs
lay_quick PySem.Challenge.pw_likepanes_k39_known_writings
/-! The head: the top in segments, each the kernel's run from a written state to the next one. -/
namespace Hd
open PySem PySem.W PySem.Calls PyProof.Rows Hs
noncomputable abbrev R : OpenRow := OpenLaw.row PySem.Challenge.rw_likepanes_k39_known_writings
noncomputable abbrev T : Program := PySem.W.Fast.tw8148995987596544644
theorem pT : R.prog = T := PySem.W.Fast.te8148995987596544644
noncomputable def hT (i : Nat) : Stmt := T.main.body.getD i (.Pass ⟨0, 0, 0, 0⟩)
noncomputable abbrev s (x : String) : PySem.Str := PySem.Str.ofString x
noncomputable abbrev u (l : List Nat) : PySem.Str := ⟨⟨l⟩⟩
noncomputable def k (P : Params) (x : String) (t : Nat) (v : Value) : DictEntry := ⟨PyData.keyHash P (s x), .str (s x) t, v⟩
noncomputable def ku (P : Params) (x : PySem.Str) (t : Nat) (v : Value) : DictEntry := ⟨PyData.keyHash P x, .str x t, v⟩
noncomputable def fn (st : Stmt) (name qual : PySem.Str) (g : Addr) (cl : List (PySem.Str × Addr)) (d kd doc pm : Value) (an : Option Addr) (co ct : Value) (b : Addr) : FuncData := ⟨name, qual, L2.defArgs st, .stmts (L2.defBody st), L2.defScope st, g, cl, d, kd, doc, pm, an, co, ct, b⟩
noncomputable abbrev n (o : Obj) (a b : BT) : BT := .node o a b
noncomputable abbrev z : BT := .nil
/-! ### the states: the objects, the trees -/
noncomputable def o0 (P : Params) : Obj := ⟨(.type "dict"), none, (.dict #[k P "__name__" 1 (.str (s "builtins") 160), k P "__doc__" 2 (.builtin "builtins.__doc__:str#opaque"), k P "__package__" 3 (.builtin "builtins.__package__:str#opaque"), k P "__loader__" 4 (.builtin "builtins.__loader__:shared#opaque"), k P "__spec__" 5 (.builtin "builtins.__spec__#opaque"), k P "__build_class__" 6 (.builtin "__build_class__"), k P "__import__" 7 (.builtin "__import__"), k P "abs" 8 (.builtin "abs"), k P "all" 9 (.builtin "all"), k P "any" 10 (.builtin "any"), k P "ascii" 11 (.builtin "ascii"), k P "bin" 12 (.builtin "bin"), k P "breakpoint" 13 (.builtin "breakpoint"), k P "callable" 14 (.builtin "callable"), k P "chr" 15 (.builtin "chr"), k P "compile" 16 (.builtin "compile"), k P "delattr" 17 (.builtin "delattr"), k P "dir" 18 (.builtin "dir"), k P "divmod" 19 (.builtin "divmod"), k P "eval" 20 (.builtin "eval"), k P "exec" 21 (.builtin "exec"), k P "format" 22 (.builtin "format"), k P "getattr" 23 (.builtin "getattr"), k P "globals" 24 (.builtin "globals"), k P "hasattr" 25 (.builtin "hasattr"), k P "hash" 26 (.builtin "hash"), k P "hex" 27 (.builtin "hex"), k P "id" 28 (.builtin "id"), k P "input" 29 (.builtin "input"), k P "isinstance" 30 (.builtin "isinstance"), k P "issubclass" 31 (.builtin "issubclass"), k P "iter" 32 (.builtin "iter"), k P "aiter" 33 (.builtin "aiter"), k P "len" 34 (.builtin "len"), k P "locals" 35 (.builtin "locals"), k P "max" 36 (.builtin "max"), k P "min" 37 (.builtin "min"), k P "next" 38 (.builtin "next"), k P "anext" 39 (.builtin "anext"), k P "oct" 40 (.builtin "oct"), k P "ord" 41 (.builtin "ord"), k P "pow" 42 (.builtin "pow"), k P "print" 43 (.builtin "print"), k P "repr" 44 (.builtin "repr"), k P "round" 45 (.builtin "round"), k P "setattr" 46 (.builtin "setattr"), k P "sorted" 47 (.builtin "sorted"), k P "sum" 48 (.builtin "sum"), k P "vars" 49 (.builtin "vars"), k P "None" 50 .none, k P "Ellipsis" 51 .ellipsis, k P "NotImplemented" 52 .notImplemented, k P "False" 53 (.bool false), k P "True" 54 (.bool true), k P "bool" 55 (.type "bool"), k P "memoryview" 56 (.type "memoryview"), k P "bytearray" 57 (.type "bytearray"), k P "bytes" 58 (.type "bytes"), k P "classmethod" 59 (.type "classmethod"), k P "complex" 60 (.type "complex"), k P "dict" 61 (.type "dict"), k P "enumerate" 62 (.type "enumerate"), k P "filter" 63 (.type "filter"), k P "float" 64 (.type "float"), k P "frozenset" 65 (.type "frozenset"), k P "property" 66 (.type "property"), k P "int" 67 (.type "int"), k P "list" 68 (.type "list"), k P "map" 69 (.type "map"), k P "object" 70 (.type "object"), k P "range" 71 (.type "range"), k P "reversed" 72 (.type "reversed"), k P "set" 73 (.type "set"), k P "slice" 74 (.type "slice"), k P "staticmethod" 75 (.type "staticmethod"), k P "str" 76 (.type "str"), k P "super" 77 (.type "super"), k P "tuple" 78 (.type "tuple"), k P "type" 79 (.type "type"), k P "zip" 80 (.type "zip"), k P "__debug__" 81 (.bool true), k P "BaseException" 82 (.type "BaseException"), k P "BaseExceptionGroup" 83 (.type "BaseExceptionGroup"), k P "Exception" 84 (.type "Exception"), k P "GeneratorExit" 85 (.type "GeneratorExit"), k P "KeyboardInterrupt" 86 (.type "KeyboardInterrupt"), k P "SystemExit" 87 (.type "SystemExit"), k P "ArithmeticError" 88 (.type "ArithmeticError"), k P "AssertionError" 89 (.type "AssertionError"), k P "AttributeError" 90 (.type "AttributeError"), k P "BufferError" 91 (.type "BufferError"), k P "EOFError" 92 (.type "EOFError"), k P "ImportError" 93 (.type "ImportError"), k P "LookupError" 94 (.type "LookupError"), k P "MemoryError" 95 (.type "MemoryError"), k P "NameError" 96 (.type "NameError"), k P "OSError" 97 (.type "OSError"), k P "ReferenceError" 98 (.type "ReferenceError"), k P "RuntimeError" 99 (.type "RuntimeError"), k P "StopAsyncIteration" 100 (.type "StopAsyncIteration"), k P "StopIteration" 101 (.type "StopIteration"), k P "SyntaxError" 102 (.type "SyntaxError"), k P "SystemError" 103 (.type "SystemError"), k P "TypeError" 104 (.type "TypeError"), k P "ValueError" 105 (.type "ValueError"), k P "Warning" 106 (.type "Warning"), k P "FloatingPointError" 107 (.type "FloatingPointError"), k P "OverflowError" 108 (.type "OverflowError"), k P "ZeroDivisionError" 109 (.type "ZeroDivisionError"), k P "BytesWarning" 110 (.type "BytesWarning"), k P "DeprecationWarning" 111 (.type "DeprecationWarning"), k P "EncodingWarning" 112 (.type "EncodingWarning"), k P "FutureWarning" 113 (.type "FutureWarning"), k P "ImportWarning" 114 (.type "ImportWarning"), k P "PendingDeprecationWarning" 115 (.type "PendingDeprecationWarning"), k P "ResourceWarning" 116 (.type "ResourceWarning"), k P "RuntimeWarning" 117 (.type "RuntimeWarning"), k P "SyntaxWarning" 118 (.type "SyntaxWarning"), k P "UnicodeWarning" 119 (.type "UnicodeWarning"), k P "UserWarning" 120 (.type "UserWarning"), k P "BlockingIOError" 121 (.type "BlockingIOError"), k P "ChildProcessError" 122 (.type "ChildProcessError"), k P "ConnectionError" 123 (.type "ConnectionError"), k P "FileExistsError" 124 (.type "FileExistsError"), k P "FileNotFoundError" 125 (.type "FileNotFoundError"), k P "InterruptedError" 126 (.type "InterruptedError"), k P "IsADirectoryError" 127 (.type "IsADirectoryError"), k P "NotADirectoryError" 128 (.type "NotADirectoryError"), k P "PermissionError" 129 (.type "PermissionError"), k P "ProcessLookupError" 130 (.type "ProcessLookupError"), k P "TimeoutError" 131 (.type "TimeoutError"), k P "IndentationError" 132 (.type "IndentationError"), k P "_IncompleteInputError" 133 (.type "_IncompleteInputError"), k P "IndexError" 134 (.type "IndexError"), k P "KeyError" 135 (.type "KeyError"), k P "ModuleNotFoundError" 136 (.type "ModuleNotFoundError"), k P "NotImplementedError" 137 (.type "NotImplementedError"), k P "PythonFinalizationError" 138 (.type "PythonFinalizationError"), k P "RecursionError" 139 (.type "RecursionError"), k P "UnboundLocalError" 140 (.type "UnboundLocalError"), k P "UnicodeError" 141 (.type "UnicodeError"), k P "BrokenPipeError" 142 (.type "BrokenPipeError"), k P "ConnectionAbortedError" 143 (.type "ConnectionAbortedError"), k P "ConnectionRefusedError" 144 (.type "ConnectionRefusedError"), k P "ConnectionResetError" 145 (.type "ConnectionResetError"), k P "TabError" 146 (.type "TabError"), k P "UnicodeDecodeError" 147 (.type "UnicodeDecodeError"), k P "UnicodeEncodeError" 148 (.type "UnicodeEncodeError"), k P "UnicodeTranslateError" 149 (.type "UnicodeTranslateError"), k P "ExceptionGroup" 150 (.type "ExceptionGroup"), k P "EnvironmentError" 151 (.type "OSError"), k P "IOError" 152 (.type "OSError"), k P "open" 153 (.builtin "open"), k P "quit" 154 (.builtin "builtins.quit#opaque"), k P "exit" 155 (.builtin "builtins.exit#opaque"), k P "copyright" 156 (.builtin "builtins.copyright#opaque"), k P "credits" 157 (.builtin "builtins.credits#opaque"), k P "license" 158 (.builtin "builtins.license#opaque"), k P "help" 159 (.builtin "builtins.help#opaque")] 159), #[]⟩
noncomputable def o1 (P : Params) : Obj := ⟨(.type "dict"), none, (.dict #[k P "builtins" 162 (.ref 4), k P "__main__" 163 (.ref 5), k P "math" 285 (.ref 13)] 3), #[]⟩
noncomputable def o2 (P : Params) : Obj := ⟨.none, none, (.dict #[ku P (u [105, 109, 112, 111, 114, 116, 46, 108, 111, 97, 100, 101, 100, 46, 109, 97, 116, 104]) 186 (.bool true), k P "class._frozen_importlib_external._LoaderBasics" 191 (.ref 16), ku P (u [119, 97, 116, 99, 104, 101, 100, 46, 105, 109, 112, 111, 114, 116]) 207 (.ref 20), k P "class._frozen_importlib_external.FileLoader" 208 (.ref 22), k P "class._frozen_importlib_external.ExtensionFileLoader" 229 (.ref 27), k P "class._frozen_importlib.ModuleSpec" 257 (.ref 33), k P "sys.modules.booked-epoch" 286 (.int (3) 0), ku P (u [105, 109, 112, 111, 114, 116, 46, 108, 97, 116, 101, 114, 45, 108, 97, 105, 100, 46, 109, 97, 116, 104]) 362 (.bool true), k P "watched.library" 364 (.ref 38), k P "watched.library-objects" 0 (.str (u [13]) 0)] 10), #[]⟩
noncomputable def o3 (P : Params) : Obj := ⟨(.type "dict"), none, (.dict #[k P "__name__" 165 (.str (s "__main__") 164), k P "__doc__" 166 .none, k P "__package__" 167 .none, k P "__loader__" 168 (.builtin "__main__.__loader__#opaque"), k P "__spec__" 169 .none, k P "__annotations__" 170 (.ref 6), k P "__builtins__" 171 (.ref 4), k P "__file__" 173 (.str (s "/claim/cut.py") 172), k P "__cached__" 174 .none, k P "gcd" 370 (.builtin "math.gcd"), k P "isqrt" 373 (.builtin "math.isqrt")] 11), #[]⟩
noncomputable def o4 (P : Params) : Obj := ⟨(.type "module"), (some 0), .plain, #[]⟩
noncomputable def o5 (P : Params) : Obj := ⟨(.type "module"), (some 3), .plain, #[]⟩
noncomputable def o6 (P : Params) : Obj := ⟨(.type "dict"), none, (.dict #[] 0), #[]⟩
noncomputable def o7 (P : Params) : Obj := ⟨(.type "tuple"), none, (.seq #[] 0), #[]⟩
noncomputable def o8 (P : Params) : Obj := ⟨.none, none, (.fields #[]), #[]⟩
noncomputable def o9 (P : Params) : Obj := ⟨(.type "code"), none, (.fields #[(.str (s "<module>") 176), (.str (s "<module>") 177), (.str (s "/claim/cut.py") 178), (.int (1) 0), (.int (0) 0), (.int (0) 0), (.int (0) 0), (.int (0) 0), (.ref 7), (.bool false), (.int (175) 0), (.ref 8), .none, .none, .none, .none, (.int (179) 0), (.int (1) 0), (.str (s "/claim/cut.py") 180)]), #[]⟩
noncomputable def o10 (P : Params) : Obj := ⟨(.type "frame"), none, .plain, #[(some (.ref 9)), (some (.ref 3)), (some (.ref 3)), none, (some (.str (s "__main__") 164)), none, (some (.ref 0))]⟩
noncomputable def o11 (P : Params) : Obj := ⟨(.type "tuple"), none, (.seq #[(.str (s "gcd") 182), (.str (s "isqrt") 183)] 0), #[]⟩
noncomputable def o12 (P : Params) : Obj := ⟨(.type "dict"), none, (.dict #[k P "__name__" 288 (.str (s "math") 287), k P "__doc__" 289 (.builtin "math.__doc__:str#opaque"), k P "__package__" 291 (.str (s "") 290), k P "__loader__" 292 (.ref 29), k P "__spec__" 293 (.ref 37), k P "acos" 294 (.builtin "math.acos"), k P "acosh" 295 (.builtin "math.acosh"), k P "asin" 296 (.builtin "math.asin"), k P "asinh" 297 (.builtin "math.asinh"), k P "atan" 298 (.builtin "math.atan"), k P "atan2" 299 (.builtin "math.atan2"), k P "atanh" 300 (.builtin "math.atanh"), k P "cbrt" 301 (.builtin "math.cbrt"), k P "ceil" 302 (.builtin "math.ceil"), k P "copysign" 303 (.builtin "math.copysign"), k P "cos" 304 (.builtin "math.cos"), k P "cosh" 305 (.builtin "math.cosh"), k P "degrees" 306 (.builtin "math.degrees"), k P "dist" 307 (.builtin "math.dist"), k P "erf" 308 (.builtin "math.erf"), k P "erfc" 309 (.builtin "math.erfc"), k P "exp" 310 (.builtin "math.exp"), k P "exp2" 311 (.builtin "math.exp2"), k P "expm1" 312 (.builtin "math.expm1"), k P "fabs" 313 (.builtin "math.fabs"), k P "factorial" 314 (.builtin "math.factorial"), k P "floor" 315 (.builtin "math.floor"), k P "fma" 316 (.builtin "math.fma"), k P "fmod" 317 (.builtin "math.fmod"), k P "frexp" 318 (.builtin "math.frexp"), k P "fsum" 319 (.builtin "math.fsum"), k P "gamma" 320 (.builtin "math.gamma"), k P "gcd" 321 (.builtin "math.gcd"), k P "hypot" 322 (.builtin "math.hypot"), k P "isclose" 323 (.builtin "math.isclose"), k P "isfinite" 324 (.builtin "math.isfinite"), k P "isinf" 325 (.builtin "math.isinf"), k P "isnan" 326 (.builtin "math.isnan"), k P "isqrt" 327 (.builtin "math.isqrt"), k P "lcm" 328 (.builtin "math.lcm"), k P "ldexp" 329 (.builtin "math.ldexp"), k P "lgamma" 330 (.builtin "math.lgamma"), k P "log" 331 (.builtin "math.log"), k P "log1p" 332 (.builtin "math.log1p"), k P "log10" 333 (.builtin "math.log10"), k P "log2" 334 (.builtin "math.log2"), k P "modf" 335 (.builtin "math.modf"), k P "pow" 336 (.builtin "math.pow"), k P "radians" 337 (.builtin "math.radians"), k P "remainder" 338 (.builtin "math.remainder"), k P "sin" 339 (.builtin "math.sin"), k P "sinh" 340 (.builtin "math.sinh"), k P "sqrt" 341 (.builtin "math.sqrt"), k P "tan" 342 (.builtin "math.tan"), k P "tanh" 343 (.builtin "math.tanh"), k P "sumprod" 344 (.builtin "math.sumprod"), k P "trunc" 345 (.builtin "math.trunc"), k P "prod" 346 (.builtin "math.prod"), k P "perm" 347 (.builtin "math.perm"), k P "comb" 348 (.builtin "math.comb"), k P "nextafter" 349 (.builtin "math.nextafter"), k P "ulp" 350 (.builtin "math.ulp"), k P "__file__" 351 (.str (u [47, 110, 105, 120, 47, 115, 116, 111, 114, 101, 47, 119, 106, 49, 102, 53, 54, 113, 107, 121, 52, 112, 109, 106, 99, 55, 108, 48, 114, 54, 98, 54, 108, 55, 119, 104, 110, 110, 119, 55, 104, 112, 54, 45, 112, 121, 116, 104, 111, 110, 51, 45, 51, 46, 49, 51, 46, 49, 53, 47, 108, 105, 98, 47, 112, 121, 116, 104, 111, 110, 51, 46, 49, 51, 47, 108, 105, 98, 45, 100, 121, 110, 108, 111, 97, 100, 47, 109, 97, 116, 104, 46, 99, 112, 121, 116, 104, 111, 110, 45, 51, 49, 51, 45, 120, 56, 54, 95, 54, 52, 45, 108, 105, 110, 117, 120, 45, 103, 110, 117, 46, 115, 111]) 187), k P "pi" 353 (.float 4614256656552045848 352), k P "e" 355 (.float 4613303445314885481 354), k P "tau" 357 (.float 4618760256179416344 356), k P "inf" 359 (.float 9218868437227405312 358), k P "nan" 361 (.float 9221120237041090560 360)] 68), #[]⟩
noncomputable def o13 (P : Params) : Obj := ⟨(.type "module"), (some 12), .plain, #[]⟩
noncomputable def o14 (P : Params) : Obj := ⟨(.type "dict"), none, (.dict #[k P "name" 189 (.str (s "math") 188), k P "path" 190 (.str (u [47, 110, 105, 120, 47, 115, 116, 111, 114, 101, 47, 119, 106, 49, 102, 53, 54, 113, 107, 121, 52, 112, 109, 106, 99, 55, 108, 48, 114, 54, 98, 54, 108, 55, 119, 104, 110, 110, 119, 55, 104, 112, 54, 45, 112, 121, 116, 104, 111, 110, 51, 45, 51, 46, 49, 51, 46, 49, 53, 47, 108, 105, 98, 47, 112, 121, 116, 104, 111, 110, 51, 46, 49, 51, 47, 108, 105, 98, 45, 100, 121, 110, 108, 111, 97, 100, 47, 109, 97, 116, 104, 46, 99, 112, 121, 116, 104, 111, 110, 45, 51, 49, 51, 45, 120, 56, 54, 95, 54, 52, 45, 108, 105, 110, 117, 120, 45, 103, 110, 117, 46, 115, 111]) 187)] 2), #[]⟩
noncomputable def o15 (P : Params) : Obj := ⟨(.type "dict"), none, (.dict #[k P "__module__" 194 (.str (s "_frozen_importlib_external") 192), k P "__firstlineno__" 195 (.int (1001) 193), k P "__doc__" 196 (.builtin "_frozen_importlib_external._LoaderBasics.__doc__:str#opaque"), k P "is_package" 197 (.builtin "_frozen_importlib_external._LoaderBasics.is_package#opaque"), k P "create_module" 198 (.builtin "_frozen_importlib_external._LoaderBasics.create_module#opaque"), k P "exec_module" 199 (.builtin "_frozen_importlib_external._LoaderBasics.exec_module#opaque"), k P "load_module" 200 (.builtin "_frozen_importlib_external._LoaderBasics.load_module#opaque"), k P "__static_attributes__" 201 (.ref 17), k P "__dict__" 203 (.ref 18), k P "__weakref__" 205 (.ref 19)] 10), #[]⟩
noncomputable def o16 (P : Params) : Obj := ⟨(.type "type"), none, (.cls ⟨(s "_LoaderBasics"), [(.type "object")], [(.ref 16), (.type "object")], 15, (s "_LoaderBasics"), true, [], [(.ref 27)], false, none, false⟩), #[]⟩
noncomputable def o17 (P : Params) : Obj := ⟨(.type "tuple"), none, (.seq #[] 0), #[]⟩
noncomputable def o18 (P : Params) : Obj := ⟨(.type "getset_descriptor"), none, (.fields #[(.str (s "__dict__") 202), (.ref 16), (.builtin "function.__dict__"), (.builtin "function.__dict__#set")]), #[]⟩
noncomputable def o19 (P : Params) : Obj := ⟨(.type "getset_descriptor"), none, (.fields #[(.str (s "__weakref__") 204), (.ref 16), (.builtin "ExceptionGroup.__weakref__"), .none]), #[]⟩
noncomputable def o20 (P : Params) : Obj := ⟨.none, none, (.seq #[(.int (15) 0), (.str (u [6, 194, 10, 95, 95, 109, 111, 100, 117, 108, 101, 95, 95, 6, 192, 26, 95, 102, 114, 111, 122, 101, 110, 95, 105, 109, 112, 111, 114, 116, 108, 105, 98, 95, 101, 120, 116, 101, 114, 110, 97, 108, 6, 195, 15, 95, 95, 102, 105, 114, 115, 116, 108, 105, 110, 101, 110, 111, 95, 95, 4, 193, 0, 1001, 6, 196, 7, 95, 95, 100, 111, 99, 95, 95, 9, 59, 95, 102, 114, 111, 122, 101, 110, 95, 105, 109, 112, 111, 114, 116, 108, 105, 98, 95, 101, 120, 116, 101, 114, 110, 97, 108, 46, 95, 76, 111, 97, 100, 101, 114, 66, 97, 115, 105, 99, 115, 46, 95, 95, 100, 111, 99, 95, 95, 58, 115, 116, 114, 35, 111, 112, 97, 113, 117, 101, 6, 197, 10, 105, 115, 95, 112, 97, 99, 107, 97, 103, 101, 9, 58, 95, 102, 114, 111, 122, 101, 110, 95, 105, 109, 112, 111, 114, 116, 108, 105, 98, 95, 101, 120, 116, 101, 114, 110, 97, 108, 46, 95, 76, 111, 97, 100, 101, 114, 66, 97, 115, 105, 99, 115, 46, 105, 115, 95, 112, 97, 99, 107, 97, 103, 101, 35, 111, 112, 97, 113, 117, 101, 6, 198, 13, 99, 114, 101, 97, 116, 101, 95, 109, 111, 100, 117, 108, 101, 9, 61, 95, 102, 114, 111, 122, 101, 110, 95, 105, 109, 112, 111, 114, 116, 108, 105, 98, 95, 101, 120, 116, 101, 114, 110, 97, 108, 46, 95, 76, 111, 97, 100, 101, 114, 66, 97, 115, 105, 99, 115, 46, 99, 114, 101, 97, 116, 101, 95, 109, 111, 100, 117, 108, 101, 35, 111, 112, 97, 113, 117, 101, 6, 199, 11, 101, 120, 101, 99, 95, 109, 111, 100, 117, 108, 101, 9, 59, 95, 102, 114, 111, 122, 101, 110, 95, 105, 109, 112, 111, 114, 116, 108, 105, 98, 95, 101, 120, 116, 101, 114, 110, 97, 108, 46, 95, 76, 111, 97, 100, 101, 114, 66, 97, 115, 105, 99, 115, 46, 101, 120, 101, 99, 95, 109, 111, 100, 117, 108, 101, 35, 111, 112, 97, 113, 117, 101, 6, 200, 11, 108, 111, 97, 100, 95, 109, 111, 100, 117, 108, 101, 9, 59, 95, 102, 114, 111, 122, 101, 110, 95, 105, 109, 112, 111, 114, 116, 108, 105, 98, 95, 101, 120, 116, 101, 114, 110, 97, 108, 46, 95, 76, 111, 97, 100, 101, 114, 66, 97, 115, 105, 99, 115, 46, 108, 111, 97, 100, 95, 109, 111, 100, 117, 108, 101, 35, 111, 112, 97, 113, 117, 101, 6, 201, 21, 95, 95, 115, 116, 97, 116, 105, 99, 95, 97, 116, 116, 114, 105, 98, 117, 116, 101, 115, 95, 95, 4, 0, 0, 17, 6, 203, 8, 95, 95, 100, 105, 99, 116, 95, 95, 4, 0, 0, 18, 6, 205, 11, 95, 95, 119, 101, 97, 107, 114, 101, 102, 95, 95, 4, 0, 0, 19]) 0), (.bool true), (.bool true), (.str (s "") 206), (.int (21) 0), (.str (u [6, 213, 10, 95, 95, 109, 111, 100, 117, 108, 101, 95, 95, 6, 209, 26, 95, 102, 114, 111, 122, 101, 110, 95, 105, 109, 112, 111, 114, 116, 108, 105, 98, 95, 101, 120, 116, 101, 114, 110, 97, 108, 6, 214, 15, 95, 95, 102, 105, 114, 115, 116, 108, 105, 110, 101, 110, 111, 95, 95, 4, 210, 0, 1176, 6, 215, 7, 95, 95, 100, 111, 99, 95, 95, 9, 56, 95, 102, 114, 111, 122, 101, 110, 95, 105, 109, 112, 111, 114, 116, 108, 105, 98, 95, 101, 120, 116, 101, 114, 110, 97, 108, 46, 70, 105, 108, 101, 76, 111, 97, 100, 101, 114, 46, 95, 95, 100, 111, 99, 95, 95, 58, 115, 116, 114, 35, 111, 112, 97, 113, 117, 101, 6, 216, 8, 95, 95, 105, 110, 105, 116, 95, 95, 9, 53, 95, 102, 114, 111, 122, 101, 110, 95, 105, 109, 112, 111, 114, 116, 108, 105, 98, 95, 101, 120, 116, 101, 114, 110, 97, 108, 46, 70, 105, 108, 101, 76, 111, 97, 100, 101, 114, 46, 95, 95, 105, 110, 105, 116, 95, 95, 35, 111, 112, 97, 113, 117, 101, 6, 217, 6, 95, 95, 101, 113, 95, 95, 9, 51, 95, 102, 114, 111, 122, 101, 110, 95, 105, 109, 112, 111, 114, 116, 108, 105, 98, 95, 101, 120, 116, 101, 114, 110, 97, 108, 46, 70, 105, 108, 101, 76, 111, 97, 100, 101, 114, 46, 95, 95, 101, 113, 95, 95, 35, 111, 112, 97, 113, 117, 101, 6, 218, 8, 95, 95, 104, 97, 115, 104, 95, 95, 9, 53, 95, 102, 114, 111, 122, 101, 110, 95, 105, 109, 112, 111, 114, 116, 108, 105, 98, 95, 101, 120, 116, 101, 114, 110, 97, 108, 46, 70, 105, 108, 101, 76, 111, 97, 100, 101, 114, 46, 95, 95, 104, 97, 115, 104, 95, 95, 35, 111, 112, 97, 113, 117, 101, 6, 219, 11, 108, 111, 97, 100, 95, 109, 111, 100, 117, 108, 101, 9, 56, 95, 102, 114, 111, 122, 101, 110, 95, 105, 109, 112, 111, 114, 116, 108, 105, 98, 95, 101, 120, 116, 101, 114, 110, 97, 108, 46, 70, 105, 108, 101, 76, 111, 97, 100, 101, 114, 46, 108, 111, 97, 100, 95, 109, 111, 100, 117, 108, 101, 35, 111, 112, 97, 113, 117, 101, 6, 220, 12, 103, 101, 116, 95, 102, 105, 108, 101, 110, 97, 109, 101, 9, 57, 95, 102, 114, 111, 122, 101, 110, 95, 105, 109, 112, 111, 114, 116, 108, 105, 98, 95, 101, 120, 116, 101, 114, 110, 97, 108, 46, 70, 105, 108, 101, 76, 111, 97, 100, 101, 114, 46, 103, 101, 116, 95, 102, 105, 108, 101, 110, 97, 109, 101, 35, 111, 112, 97, 113, 117, 101, 6, 221, 8, 103, 101, 116, 95, 100, 97, 116, 97, 9, 53, 95, 102, 114, 111, 122, 101, 110, 95, 105, 109, 112, 111, 114, 116, 108, 105, 98, 95, 101, 120, 116, 101, 114, 110, 97, 108, 46, 70, 105, 108, 101, 76, 111, 97, 100, 101, 114, 46, 103, 101, 116, 95, 100, 97, 116, 97, 35, 111, 112, 97, 113, 117, 101, 6, 222, 19, 103, 101, 116, 95, 114, 101, 115, 111, 117, 114, 99, 101, 95, 114, 101, 97, 100, 101, 114, 9, 64, 95, 102, 114, 111, 122, 101, 110, 95, 105, 109, 112, 111, 114, 116, 108, 105, 98, 95, 101, 120, 116, 101, 114, 110, 97, 108, 46, 70, 105, 108, 101, 76, 111, 97, 100, 101, 114, 46, 103, 101, 116, 95, 114, 101, 115, 111, 117, 114, 99, 101, 95, 114, 101, 97, 100, 101, 114, 35, 111, 112, 97, 113, 117, 101, 6, 223, 21, 95, 95, 115, 116, 97, 116, 105, 99, 95, 97, 116, 116, 114, 105, 98, 117, 116, 101, 115, 95, 95, 4, 0, 0, 23, 6, 225, 8, 95, 95, 100, 105, 99, 116, 95, 95, 4, 0, 0, 24, 6, 227, 11, 95, 95, 119, 101, 97, 107, 114, 101, 102, 95, 95, 4, 0, 0, 25]) 0), (.bool true), (.bool true), (.str (s "") 228), (.int (26) 0), (.str (u [6, 234, 10, 95, 95, 109, 111, 100, 117, 108, 101, 95, 95, 6, 230, 26, 95, 102, 114, 111, 122, 101, 110, 95, 105, 109, 112, 111, 114, 116, 108, 105, 98, 95, 101, 120, 116, 101, 114, 110, 97, 108, 6, 235, 15, 95, 95, 102, 105, 114, 115, 116, 108, 105, 110, 101, 110, 111, 95, 95, 4, 231, 0, 1296, 6, 236, 7, 95, 95, 100, 111, 99, 95, 95, 9, 65, 95, 102, 114, 111, 122, 101, 110, 95, 105, 109, 112, 111, 114, 116, 108, 105, 98, 95, 101, 120, 116, 101, 114, 110, 97, 108, 46, 69, 120, 116, 101, 110, 115, 105, 111, 110, 70, 105, 108, 101, 76, 111, 97, 100, 101, 114, 46, 95, 95, 100, 111, 99, 95, 95, 58, 115, 116, 114, 35, 111, 112, 97, 113, 117, 101, 6, 237, 8, 95, 95, 105, 110, 105, 116, 95, 95, 9, 62, 95, 102, 114, 111, 122, 101, 110, 95, 105, 109, 112, 111, 114, 116, 108, 105, 98, 95, 101, 120, 116, 101, 114, 110, 97, 108, 46, 69, 120, 116, 101, 110, 115, 105, 111, 110, 70, 105, 108, 101, 76, 111, 97, 100, 101, 114, 46, 95, 95, 105, 110, 105, 116, 95, 95, 35, 111, 112, 97, 113, 117, 101, 6, 238, 6, 95, 95, 101, 113, 95, 95, 9, 60, 95, 102, 114, 111, 122, 101, 110, 95, 105, 109, 112, 111, 114, 116, 108, 105, 98, 95, 101, 120, 116, 101, 114, 110, 97, 108, 46, 69, 120, 116, 101, 110, 115, 105, 111, 110, 70, 105, 108, 101, 76, 111, 97, 100, 101, 114, 46, 95, 95, 101, 113, 95, 95, 35, 111, 112, 97, 113, 117, 101, 6, 239, 8, 95, 95, 104, 97, 115, 104, 95, 95, 9, 62, 95, 102, 114, 111, 122, 101, 110, 95, 105, 109, 112, 111, 114, 116, 108, 105, 98, 95, 101, 120, 116, 101, 114, 110, 97, 108, 46, 69, 120, 116, 101, 110, 115, 105, 111, 110, 70, 105, 108, 101, 76, 111, 97, 100, 101, 114, 46, 95, 95, 104, 97, 115, 104, 95, 95, 35, 111, 112, 97, 113, 117, 101, 6, 240, 13, 99, 114, 101, 97, 116, 101, 95, 109, 111, 100, 117, 108, 101, 9, 67, 95, 102, 114, 111, 122, 101, 110, 95, 105, 109, 112, 111, 114, 116, 108, 105, 98, 95, 101, 120, 116, 101, 114, 110, 97, 108, 46, 69, 120, 116, 101, 110, 115, 105, 111, 110, 70, 105, 108, 101, 76, 111, 97, 100, 101, 114, 46, 99, 114, 101, 97, 116, 101, 95, 109, 111, 100, 117, 108, 101, 35, 111, 112, 97, 113, 117, 101, 6, 241, 11, 101, 120, 101, 99, 95, 109, 111, 100, 117, 108, 101, 9, 65, 95, 102, 114, 111, 122, 101, 110, 95, 105, 109, 112, 111, 114, 116, 108, 105, 98, 95, 101, 120, 116, 101, 114, 110, 97, 108, 46, 69, 120, 116, 101, 110, 115, 105, 111, 110, 70, 105, 108, 101, 76, 111, 97, 100, 101, 114, 46, 101, 120, 101, 99, 95, 109, 111, 100, 117, 108, 101, 35, 111, 112, 97, 113, 117, 101, 6, 242, 10, 105, 115, 95, 112, 97, 99, 107, 97, 103, 101, 9, 64, 95, 102, 114, 111, 122, 101, 110, 95, 105, 109, 112, 111, 114, 116, 108, 105, 98, 95, 101, 120, 116, 101, 114, 110, 97, 108, 46, 69, 120, 116, 101, 110, 115, 105, 111, 110, 70, 105, 108, 101, 76, 111, 97, 100, 101, 114, 46, 105, 115, 95, 112, 97, 99, 107, 97, 103, 101, 35, 111, 112, 97, 113, 117, 101, 6, 243, 8, 103, 101, 116, 95, 99, 111, 100, 101, 9, 62, 95, 102, 114, 111, 122, 101, 110, 95, 105, 109, 112, 111, 114, 116, 108, 105, 98, 95, 101, 120, 116, 101, 114, 110, 97, 108, 46, 69, 120, 116, 101, 110, 115, 105, 111, 110, 70, 105, 108, 101, 76, 111, 97, 100, 101, 114, 46, 103, 101, 116, 95, 99, 111, 100, 101, 35, 111, 112, 97, 113, 117, 101, 6, 244, 10, 103, 101, 116, 95, 115, 111, 117, 114, 99, 101, 9, 64, 95, 102, 114, 111, 122, 101, 110, 95, 105, 109, 112, 111, 114, 116, 108, 105, 98, 95, 101, 120, 116, 101, 114, 110, 97, 108, 46, 69, 120, 116, 101, 110, 115, 105, 111, 110, 70, 105, 108, 101, 76, 111, 97, 100, 101, 114, 46, 103, 101, 116, 95, 115, 111, 117, 114, 99, 101, 35, 111, 112, 97, 113, 117, 101, 6, 245, 12, 103, 101, 116, 95, 102, 105, 108, 101, 110, 97, 109, 101, 9, 66, 95, 102, 114, 111, 122, 101, 110, 95, 105, 109, 112, 111, 114, 116, 108, 105, 98, 95, 101, 120, 116, 101, 114, 110, 97, 108, 46, 69, 120, 116, 101, 110, 115, 105, 111, 110, 70, 105, 108, 101, 76, 111, 97, 100, 101, 114, 46, 103, 101, 116, 95, 102, 105, 108, 101, 110, 97, 109, 101, 35, 111, 112, 97, 113, 117, 101, 6, 246, 21, 95, 95, 115, 116, 97, 116, 105, 99, 95, 97, 116, 116, 114, 105, 98, 117, 116, 101, 115, 95, 95, 4, 0, 0, 28]) 0), (.bool true), (.bool true), (.str (s "") 247), (.int (32) 0), (.str (u [6, 268, 10, 95, 95, 109, 111, 100, 117, 108, 101, 95, 95, 6, 258, 17, 95, 102, 114, 111, 122, 101, 110, 95, 105, 109, 112, 111, 114, 116, 108, 105, 98, 6, 269, 15, 95, 95, 102, 105, 114, 115, 116, 108, 105, 110, 101, 110, 111, 95, 95, 4, 259, 0, 562, 6, 270, 7, 95, 95, 100, 111, 99, 95, 95, 9, 47, 95, 102, 114, 111, 122, 101, 110, 95, 105, 109, 112, 111, 114, 116, 108, 105, 98, 46, 77, 111, 100, 117, 108, 101, 83, 112, 101, 99, 46, 95, 95, 100, 111, 99, 95, 95, 58, 115, 116, 114, 35, 111, 112, 97, 113, 117, 101, 6, 271, 8, 95, 95, 105, 110, 105, 116, 95, 95, 9, 44, 95, 102, 114, 111, 122, 101, 110, 95, 105, 109, 112, 111, 114, 116, 108, 105, 98, 46, 77, 111, 100, 117, 108, 101, 83, 112, 101, 99, 46, 95, 95, 105, 110, 105, 116, 95, 95, 35, 111, 112, 97, 113, 117, 101, 6, 272, 8, 95, 95, 114, 101, 112, 114, 95, 95, 9, 44, 95, 102, 114, 111, 122, 101, 110, 95, 105, 109, 112, 111, 114, 116, 108, 105, 98, 46, 77, 111, 100, 117, 108, 101, 83, 112, 101, 99, 46, 95, 95, 114, 101, 112, 114, 95, 95, 35, 111, 112, 97, 113, 117, 101, 6, 273, 6, 95, 95, 101, 113, 95, 95, 9, 42, 95, 102, 114, 111, 122, 101, 110, 95, 105, 109, 112, 111, 114, 116, 108, 105, 98, 46, 77, 111, 100, 117, 108, 101, 83, 112, 101, 99, 46, 95, 95, 101, 113, 95, 95, 35, 111, 112, 97, 113, 117, 101, 6, 274, 6, 99, 97, 99, 104, 101, 100, 9, 42, 95, 102, 114, 111, 122, 101, 110, 95, 105, 109, 112, 111, 114, 116, 108, 105, 98, 46, 77, 111, 100, 117, 108, 101, 83, 112, 101, 99, 46, 99, 97, 99, 104, 101, 100, 35, 111, 112, 97, 113, 117, 101, 6, 275, 6, 112, 97, 114, 101, 110, 116, 9, 42, 95, 102, 114, 111, 122, 101, 110, 95, 105, 109, 112, 111, 114, 116, 108, 105, 98, 46, 77, 111, 100, 117, 108, 101, 83, 112, 101, 99, 46, 112, 97, 114, 101, 110, 116, 35, 111, 112, 97, 113, 117, 101, 6, 276, 12, 104, 97, 115, 95, 108, 111, 99, 97, 116, 105, 111, 110, 9, 48, 95, 102, 114, 111, 122, 101, 110, 95, 105, 109, 112, 111, 114, 116, 108, 105, 98, 46, 77, 111, 100, 117, 108, 101, 83, 112, 101, 99, 46, 104, 97, 115, 95, 108, 111, 99, 97, 116, 105, 111, 110, 35, 111, 112, 97, 113, 117, 101, 6, 277, 21, 95, 95, 115, 116, 97, 116, 105, 99, 95, 97, 116, 116, 114, 105, 98, 117, 116, 101, 115, 95, 95, 4, 0, 0, 34, 6, 279, 8, 95, 95, 100, 105, 99, 116, 95, 95, 4, 0, 0, 35, 6, 281, 11, 95, 95, 119, 101, 97, 107, 114, 101, 102, 95, 95, 4, 0, 0, 36, 6, 282, 8, 95, 95, 104, 97, 115, 104, 95, 95, 0]) 0), (.bool true), (.bool true), (.str (s "") 283)] 3), #[]⟩
noncomputable def o21 (P : Params) : Obj := ⟨(.type "dict"), none, (.dict #[k P "__module__" 213 (.str (s "_frozen_importlib_external") 209), k P "__firstlineno__" 214 (.int (1176) 210), k P "__doc__" 215 (.builtin "_frozen_importlib_external.FileLoader.__doc__:str#opaque"), k P "__init__" 216 (.builtin "_frozen_importlib_external.FileLoader.__init__#opaque"), k P "__eq__" 217 (.builtin "_frozen_importlib_external.FileLoader.__eq__#opaque"), k P "__hash__" 218 (.builtin "_frozen_importlib_external.FileLoader.__hash__#opaque"), k P "load_module" 219 (.builtin "_frozen_importlib_external.FileLoader.load_module#opaque"), k P "get_filename" 220 (.builtin "_frozen_importlib_external.FileLoader.get_filename#opaque"), k P "get_data" 221 (.builtin "_frozen_importlib_external.FileLoader.get_data#opaque"), k P "get_resource_reader" 222 (.builtin "_frozen_importlib_external.FileLoader.get_resource_reader#opaque"), k P "__static_attributes__" 223 (.ref 23), k P "__dict__" 225 (.ref 24), k P "__weakref__" 227 (.ref 25)] 13), #[]⟩
noncomputable def o22 (P : Params) : Obj := ⟨(.type "type"), none, (.cls ⟨(s "FileLoader"), [(.type "object")], [(.ref 22), (.type "object")], 21, (s "FileLoader"), true, [], [(.ref 27)], false, none, false⟩), #[]⟩
noncomputable def o23 (P : Params) : Obj := ⟨(.type "tuple"), none, (.seq #[(.str (s "name") 211), (.str (s "path") 212)] 0), #[]⟩
noncomputable def o24 (P : Params) : Obj := ⟨(.type "getset_descriptor"), none, (.fields #[(.str (s "__dict__") 224), (.ref 22), (.builtin "function.__dict__"), (.builtin "function.__dict__#set")]), #[]⟩
noncomputable def o25 (P : Params) : Obj := ⟨(.type "getset_descriptor"), none, (.fields #[(.str (s "__weakref__") 226), (.ref 22), (.builtin "ExceptionGroup.__weakref__"), .none]), #[]⟩
noncomputable def o26 (P : Params) : Obj := ⟨(.type "dict"), none, (.dict #[k P "__module__" 234 (.str (s "_frozen_importlib_external") 230), k P "__firstlineno__" 235 (.int (1296) 231), k P "__doc__" 236 (.builtin "_frozen_importlib_external.ExtensionFileLoader.__doc__:str#opaque"), k P "__init__" 237 (.builtin "_frozen_importlib_external.ExtensionFileLoader.__init__#opaque"), k P "__eq__" 238 (.builtin "_frozen_importlib_external.ExtensionFileLoader.__eq__#opaque"), k P "__hash__" 239 (.builtin "_frozen_importlib_external.ExtensionFileLoader.__hash__#opaque"), k P "create_module" 240 (.builtin "_frozen_importlib_external.ExtensionFileLoader.create_module#opaque"), k P "exec_module" 241 (.builtin "_frozen_importlib_external.ExtensionFileLoader.exec_module#opaque"), k P "is_package" 242 (.builtin "_frozen_importlib_external.ExtensionFileLoader.is_package#opaque"), k P "get_code" 243 (.builtin "_frozen_importlib_external.ExtensionFileLoader.get_code#opaque"), k P "get_source" 244 (.builtin "_frozen_importlib_external.ExtensionFileLoader.get_source#opaque"), k P "get_filename" 245 (.builtin "_frozen_importlib_external.ExtensionFileLoader.get_filename#opaque"), k P "__static_attributes__" 246 (.ref 28)] 13), #[]⟩
noncomputable def o27 (P : Params) : Obj := ⟨(.type "type"), none, (.cls ⟨(s "ExtensionFileLoader"), [(.ref 22), (.ref 16)], [(.ref 27), (.ref 22), (.ref 16), (.type "object")], 26, (s "ExtensionFileLoader"), true, [], [], false, none, false⟩), #[]⟩
noncomputable def o28 (P : Params) : Obj := ⟨(.type "tuple"), none, (.seq #[(.str (s "name") 232), (.str (s "path") 233)] 0), #[]⟩
noncomputable def o29 (P : Params) : Obj := ⟨(.ref 27), (some 14), .plain, #[]⟩
noncomputable def o30 (P : Params) : Obj := ⟨(.type "list"), none, (.seq #[] 0), #[]⟩
noncomputable def o31 (P : Params) : Obj := ⟨(.type "dict"), none, (.dict #[k P "name" 249 (.str (s "math") 248), k P "loader" 250 (.ref 29), k P "origin" 251 (.str (u [47, 110, 105, 120, 47, 115, 116, 111, 114, 101, 47, 119, 106, 49, 102, 53, 54, 113, 107, 121, 52, 112, 109, 106, 99, 55, 108, 48, 114, 54, 98, 54, 108, 55, 119, 104, 110, 110, 119, 55, 104, 112, 54, 45, 112, 121, 116, 104, 111, 110, 51, 45, 51, 46, 49, 51, 46, 49, 53, 47, 108, 105, 98, 47, 112, 121, 116, 104, 111, 110, 51, 46, 49, 51, 47, 108, 105, 98, 45, 100, 121, 110, 108, 111, 97, 100, 47, 109, 97, 116, 104, 46, 99, 112, 121, 116, 104, 111, 110, 45, 51, 49, 51, 45, 120, 56, 54, 95, 54, 52, 45, 108, 105, 110, 117, 120, 45, 103, 110, 117, 46, 115, 111]) 187), k P "loader_state" 252 .none, k P "submodule_search_locations" 253 .none, k P "_uninitialized_submodules" 254 (.ref 30), k P "_set_fileattr" 255 (.bool true), k P "_cached" 256 .none, k P "_initializing" 284 (.bool false)] 9), #[]⟩
noncomputable def o32 (P : Params) : Obj := ⟨(.type "dict"), none, (.dict #[k P "__module__" 268 (.str (s "_frozen_importlib") 258), k P "__firstlineno__" 269 (.int (562) 259), k P "__doc__" 270 (.builtin "_frozen_importlib.ModuleSpec.__doc__:str#opaque"), k P "__init__" 271 (.builtin "_frozen_importlib.ModuleSpec.__init__#opaque"), k P "__repr__" 272 (.builtin "_frozen_importlib.ModuleSpec.__repr__#opaque"), k P "__eq__" 273 (.builtin "_frozen_importlib.ModuleSpec.__eq__#opaque"), k P "cached" 274 (.builtin "_frozen_importlib.ModuleSpec.cached#opaque"), k P "parent" 275 (.builtin "_frozen_importlib.ModuleSpec.parent#opaque"), k P "has_location" 276 (.builtin "_frozen_importlib.ModuleSpec.has_location#opaque"), k P "__static_attributes__" 277 (.ref 34), k P "__dict__" 279 (.ref 35), k P "__weakref__" 281 (.ref 36), k P "__hash__" 282 .none] 13), #[]⟩
noncomputable def o33 (P : Params) : Obj := ⟨(.type "type"), none, (.cls ⟨(s "ModuleSpec"), [(.type "object")], [(.ref 33), (.type "object")], 32, (s "ModuleSpec"), true, [], [], false, none, false⟩), #[]⟩
noncomputable def o34 (P : Params) : Obj := ⟨(.type "tuple"), none, (.seq #[(.str (s "_cached") 260), (.str (s "_set_fileattr") 261), (.str (s "_uninitialized_submodules") 262), (.str (s "loader") 263), (.str (s "loader_state") 264), (.str (s "name") 265), (.str (s "origin") 266), (.str (s "submodule_search_locations") 267)] 0), #[]⟩
noncomputable def o35 (P : Params) : Obj := ⟨(.type "getset_descriptor"), none, (.fields #[(.str (s "__dict__") 278), (.ref 33), (.builtin "function.__dict__"), (.builtin "function.__dict__#set")]), #[]⟩
noncomputable def o36 (P : Params) : Obj := ⟨(.type "getset_descriptor"), none, (.fields #[(.str (s "__weakref__") 280), (.ref 33), (.builtin "ExceptionGroup.__weakref__"), .none]), #[]⟩
noncomputable def o37 (P : Params) : Obj := ⟨(.ref 33), (some 31), .plain, #[]⟩
noncomputable def o38 (P : Params) : Obj := ⟨.none, none, (.seq #[(.int (12) 0), (.str (u [6, 288, 8, 95, 95, 110, 97, 109, 101, 95, 95, 6, 287, 4, 109, 97, 116, 104, 6, 289, 7, 95, 95, 100, 111, 99, 95, 95, 9, 23, 109, 97, 116, 104, 46, 95, 95, 100, 111, 99, 95, 95, 58, 115, 116, 114, 35, 111, 112, 97, 113, 117, 101, 6, 291, 11, 95, 95, 112, 97, 99, 107, 97, 103, 101, 95, 95, 6, 290, 0, 6, 292, 10, 95, 95, 108, 111, 97, 100, 101, 114, 95, 95, 4, 0, 0, 29, 6, 293, 8, 95, 95, 115, 112, 101, 99, 95, 95, 4, 0, 0, 37, 6, 294, 4, 97, 99, 111, 115, 9, 9, 109, 97, 116, 104, 46, 97, 99, 111, 115, 6, 295, 5, 97, 99, 111, 115, 104, 9, 10, 109, 97, 116, 104, 46, 97, 99, 111, 115, 104, 6, 296, 4, 97, 115, 105, 110, 9, 9, 109, 97, 116, 104, 46, 97, 115, 105, 110, 6, 297, 5, 97, 115, 105, 110, 104, 9, 10, 109, 97, 116, 104, 46, 97, 115, 105, 110, 104, 6, 298, 4, 97, 116, 97, 110, 9, 9, 109, 97, 116, 104, 46, 97, 116, 97, 110, 6, 299, 5, 97, 116, 97, 110, 50, 9, 10, 109, 97, 116, 104, 46, 97, 116, 97, 110, 50, 6, 300, 5, 97, 116, 97, 110, 104, 9, 10, 109, 97, 116, 104, 46, 97, 116, 97, 110, 104, 6, 301, 4, 99, 98, 114, 116, 9, 9, 109, 97, 116, 104, 46, 99, 98, 114, 116, 6, 302, 4, 99, 101, 105, 108, 9, 9, 109, 97, 116, 104, 46, 99, 101, 105, 108, 6, 303, 8, 99, 111, 112, 121, 115, 105, 103, 110, 9, 13, 109, 97, 116, 104, 46, 99, 111, 112, 121, 115, 105, 103, 110, 6, 304, 3, 99, 111, 115, 9, 8, 109, 97, 116, 104, 46, 99, 111, 115, 6, 305, 4, 99, 111, 115, 104, 9, 9, 109, 97, 116, 104, 46, 99, 111, 115, 104, 6, 306, 7, 100, 101, 103, 114, 101, 101, 115, 9, 12, 109, 97, 116, 104, 46, 100, 101, 103, 114, 101, 101, 115, 6, 307, 4, 100, 105, 115, 116, 9, 9, 109, 97, 116, 104, 46, 100, 105, 115, 116, 6, 308, 3, 101, 114, 102, 9, 8, 109, 97, 116, 104, 46, 101, 114, 102, 6, 309, 4, 101, 114, 102, 99, 9, 9, 109, 97, 116, 104, 46, 101, 114, 102, 99, 6, 310, 3, 101, 120, 112, 9, 8, 109, 97, 116, 104, 46, 101, 120, 112, 6, 311, 4, 101, 120, 112, 50, 9, 9, 109, 97, 116, 104, 46, 101, 120, 112, 50, 6, 312, 5, 101, 120, 112, 109, 49, 9, 10, 109, 97, 116, 104, 46, 101, 120, 112, 109, 49, 6, 313, 4, 102, 97, 98, 115, 9, 9, 109, 97, 116, 104, 46, 102, 97, 98, 115, 6, 314, 9, 102, 97, 99, 116, 111, 114, 105, 97, 108, 9, 14, 109, 97, 116, 104, 46, 102, 97, 99, 116, 111, 114, 105, 97, 108, 6, 315, 5, 102, 108, 111, 111, 114, 9, 10, 109, 97, 116, 104, 46, 102, 108, 111, 111, 114, 6, 316, 3, 102, 109, 97, 9, 8, 109, 97, 116, 104, 46, 102, 109, 97, 6, 317, 4, 102, 109, 111, 100, 9, 9, 109, 97, 116, 104, 46, 102, 109, 111, 100, 6, 318, 5, 102, 114, 101, 120, 112, 9, 10, 109, 97, 116, 104, 46, 102, 114, 101, 120, 112, 6, 319, 4, 102, 115, 117, 109, 9, 9, 109, 97, 116, 104, 46, 102, 115, 117, 109, 6, 320, 5, 103, 97, 109, 109, 97, 9, 10, 109, 97, 116, 104, 46, 103, 97, 109, 109, 97, 6, 321, 3, 103, 99, 100, 9, 8, 109, 97, 116, 104, 46, 103, 99, 100, 6, 322, 5, 104, 121, 112, 111, 116, 9, 10, 109, 97, 116, 104, 46, 104, 121, 112, 111, 116, 6, 323, 7, 105, 115, 99, 108, 111, 115, 101, 9, 12, 109, 97, 116, 104, 46, 105, 115, 99, 108, 111, 115, 101, 6, 324, 8, 105, 115, 102, 105, 110, 105, 116, 101, 9, 13, 109, 97, 116, 104, 46, 105, 115, 102, 105, 110, 105, 116, 101, 6, 325, 5, 105, 115, 105, 110, 102, 9, 10, 109, 97, 116, 104, 46, 105, 115, 105, 110, 102, 6, 326, 5, 105, 115, 110, 97, 110, 9, 10, 109, 97, 116, 104, 46, 105, 115, 110, 97, 110, 6, 327, 5, 105, 115, 113, 114, 116, 9, 10, 109, 97, 116, 104, 46, 105, 115, 113, 114, 116, 6, 328, 3, 108, 99, 109, 9, 8, 109, 97, 116, 104, 46, 108, 99, 109, 6, 329, 5, 108, 100, 101, 120, 112, 9, 10, 109, 97, 116, 104, 46, 108, 100, 101, 120, 112, 6, 330, 6, 108, 103, 97, 109, 109, 97, 9, 11, 109, 97, 116, 104, 46, 108, 103, 97, 109, 109, 97, 6, 331, 3, 108, 111, 103, 9, 8, 109, 97, 116, 104, 46, 108, 111, 103, 6, 332, 5, 108, 111, 103, 49, 112, 9, 10, 109, 97, 116, 104, 46, 108, 111, 103, 49, 112, 6, 333, 5, 108, 111, 103, 49, 48, 9, 10, 109, 97, 116, 104, 46, 108, 111, 103, 49, 48, 6, 334, 4, 108, 111, 103, 50, 9, 9, 109, 97, 116, 104, 46, 108, 111, 103, 50, 6, 335, 4, 109, 111, 100, 102, 9, 9, 109, 97, 116, 104, 46, 109, 111, 100, 102, 6, 336, 3, 112, 111, 119, 9, 8, 109, 97, 116, 104, 46, 112, 111, 119, 6, 337, 7, 114, 97, 100, 105, 97, 110, 115, 9, 12, 109, 97, 116, 104, 46, 114, 97, 100, 105, 97, 110, 115, 6, 338, 9, 114, 101, 109, 97, 105, 110, 100, 101, 114, 9, 14, 109, 97, 116, 104, 46, 114, 101, 109, 97, 105, 110, 100, 101, 114, 6, 339, 3, 115, 105, 110, 9, 8, 109, 97, 116, 104, 46, 115, 105, 110, 6, 340, 4, 115, 105, 110, 104, 9, 9, 109, 97, 116, 104, 46, 115, 105, 110, 104, 6, 341, 4, 115, 113, 114, 116, 9, 9, 109, 97, 116, 104, 46, 115, 113, 114, 116, 6, 342, 3, 116, 97, 110, 9, 8, 109, 97, 116, 104, 46, 116, 97, 110, 6, 343, 4, 116, 97, 110, 104, 9, 9, 109, 97, 116, 104, 46, 116, 97, 110, 104, 6, 344, 7, 115, 117, 109, 112, 114, 111, 100, 9, 12, 109, 97, 116, 104, 46, 115, 117, 109, 112, 114, 111, 100, 6, 345, 5, 116, 114, 117, 110, 99, 9, 10, 109, 97, 116, 104, 46, 116, 114, 117, 110, 99, 6, 346, 4, 112, 114, 111, 100, 9, 9, 109, 97, 116, 104, 46, 112, 114, 111, 100, 6, 347, 4, 112, 101, 114, 109, 9, 9, 109, 97, 116, 104, 46, 112, 101, 114, 109, 6, 348, 4, 99, 111, 109, 98, 9, 9, 109, 97, 116, 104, 46, 99, 111, 109, 98, 6, 349, 9, 110, 101, 120, 116, 97, 102, 116, 101, 114, 9, 14, 109, 97, 116, 104, 46, 110, 101, 120, 116, 97, 102, 116, 101, 114, 6, 350, 3, 117, 108, 112, 9, 8, 109, 97, 116, 104, 46, 117, 108, 112, 6, 351, 8, 95, 95, 102, 105, 108, 101, 95, 95, 6, 187, 123, 47, 110, 105, 120, 47, 115, 116, 111, 114, 101, 47, 119, 106, 49, 102, 53, 54, 113, 107, 121, 52, 112, 109, 106, 99, 55, 108, 48, 114, 54, 98, 54, 108, 55, 119, 104, 110, 110, 119, 55, 104, 112, 54, 45, 112, 121, 116, 104, 111, 110, 51, 45, 51, 46, 49, 51, 46, 49, 53, 47, 108, 105, 98, 47, 112, 121, 116, 104, 111, 110, 51, 46, 49, 51, 47, 108, 105, 98, 45, 100, 121, 110, 108, 111, 97, 100, 47, 109, 97, 116, 104, 46, 99, 112, 121, 116, 104, 111, 110, 45, 51, 49, 51, 45, 120, 56, 54, 95, 54, 52, 45, 108, 105, 110, 117, 120, 45, 103, 110, 117, 46, 115, 111, 6, 353, 2, 112, 105, 5, 352, 4614256656552045848, 6, 355, 1, 101, 5, 354, 4613303445314885481, 6, 357, 3, 116, 97, 117, 5, 356, 4618760256179416344, 6, 359, 3, 105, 110, 102, 5, 358, 9218868437227405312, 6, 361, 3, 110, 97, 110, 5, 360, 9221120237041090560]) 0), (.bool true), (.bool false), (.str (s "math") 363)] 0), #[]⟩
noncomputable def ti (P : Params) : BT := (n (o0 P) (n (o1 P) (n (o3 P) (n (o7 P) (n (o15 P) (n (o31 P) z z) z) (n (o23 P) z z)) (n (o11 P) (n (o19 P) (n (o35 P) z z) z) (n (o27 P) z z))) (n (o5 P) (n (o9 P) (n (o17 P) (n (o33 P) z z) z) (n (o25 P) z z)) (n (o13 P) (n (o21 P) (n (o37 P) z z) z) (n (o29 P) z z)))) (n (o2 P) (n (o4 P) (n (o8 P) (n (o16 P) (n (o32 P) z z) z) (n (o24 P) z z)) (n (o12 P) (n (o20 P) (n (o36 P) z z) z) (n (o28 P) z z))) (n (o6 P) (n (o10 P) (n (o18 P) (n (o34 P) z z) z) (n (o26 P) z z)) (n (o14 P) (n (o22 P) (n (o38 P) z z) z) (n (o30 P) z z)))))
noncomputable def Xi (w : World) (os : OsState) : SharedT := ⟨ti w.params, 39, {}, #[], {}, 374, os⟩
noncomputable def li (P : Params) : List Obj := [o0 P, o1 P, o2 P, o3 P, o4 P, o5 P, o6 P, o7 P, o8 P, o9 P, o10 P, o11 P, o12 P, o13 P, o14 P, o15 P, o16 P, o17 P, o18 P, o19 P, o20 P, o21 P, o22 P, o23 P, o24 P, o25 P, o26 P, o27 P, o28 P, o29 P, o30 P, o31 P, o32 P, o33 P, o34 P, o35 P, o36 P, o37 P, o38 P]
noncomputable def Yi (w : World) (os : OsState) : Shared := ⟨⟨⟨li w.params⟩, {}⟩, #[], {}, 374, os⟩
noncomputable def o12_0 (P : Params) : Obj := ⟨(.type "dict"), none, (.dict #[k P "__name__" 288 (.str (s "math") 287), k P "__doc__" 289 (.builtin "off-the-table:math.__doc__:shared#opaque"), k P "__package__" 291 (.str (s "") 290), k P "__loader__" 292 (.builtin "off-the-table:math.__loader__:shared#opaque"), k P "__spec__" 293 (.builtin "off-the-table:math.__spec__:shared#opaque"), k P "acos" 294 (.builtin "off-the-table:math.acos:shared#opaque"), k P "acosh" 295 (.builtin "off-the-table:math.acosh:shared#opaque"), k P "asin" 296 (.builtin "off-the-table:math.asin:shared#opaque"), k P "asinh" 297 (.builtin "off-the-table:math.asinh:shared#opaque"), k P "atan" 298 (.builtin "off-the-table:math.atan:shared#opaque"), k P "atan2" 299 (.builtin "off-the-table:math.atan2:shared#opaque"), k P "atanh" 300 (.builtin "off-the-table:math.atanh:shared#opaque"), k P "cbrt" 301 (.builtin "off-the-table:math.cbrt:shared#opaque"), k P "ceil" 302 (.builtin "math.ceil"), k P "copysign" 303 (.builtin "math.copysign"), k P "cos" 304 (.builtin "off-the-table:math.cos:shared#opaque"), k P "cosh" 305 (.builtin "off-the-table:math.cosh:shared#opaque"), k P "degrees" 306 (.builtin "math.degrees"), k P "dist" 307 (.builtin "math.dist"), k P "erf" 308 (.builtin "off-the-table:math.erf:shared#opaque"), k P "erfc" 309 (.builtin "off-the-table:math.erfc:shared#opaque"), k P "exp" 310 (.builtin "off-the-table:math.exp:shared#opaque"), k P "exp2" 311 (.builtin "off-the-table:math.exp2:shared#opaque"), k P "expm1" 312 (.builtin "off-the-table:math.expm1:shared#opaque"), k P "fabs" 313 (.builtin "math.fabs"), k P "factorial" 314 (.builtin "math.factorial"), k P "floor" 315 (.builtin "math.floor"), k P "fma" 316 (.builtin "math.fma"), k P "fmod" 317 (.builtin "math.fmod"), k P "frexp" 318 (.builtin "math.frexp"), k P "fsum" 319 (.builtin "math.fsum"), k P "gamma" 320 (.builtin "off-the-table:math.gamma:shared#opaque"), k P "gcd" 321 (.builtin "math.gcd"), k P "hypot" 322 (.builtin "math.hypot"), k P "isclose" 323 (.builtin "math.isclose"), k P "isfinite" 324 (.builtin "math.isfinite"), k P "isinf" 325 (.builtin "math.isinf"), k P "isnan" 326 (.builtin "math.isnan"), k P "isqrt" 327 (.builtin "math.isqrt"), k P "lcm" 328 (.builtin "math.lcm"), k P "ldexp" 329 (.builtin "math.ldexp"), k P "lgamma" 330 (.builtin "off-the-table:math.lgamma:shared#opaque"), k P "log" 331 (.builtin "off-the-table:math.log:shared#opaque"), k P "log1p" 332 (.builtin "off-the-table:math.log1p:shared#opaque"), k P "log10" 333 (.builtin "off-the-table:math.log10:shared#opaque"), k P "log2" 334 (.builtin "off-the-table:math.log2:shared#opaque"), k P "modf" 335 (.builtin "math.modf"), k P "pow" 336 (.builtin "off-the-table:math.pow:shared#opaque"), k P "radians" 337 (.builtin "math.radians"), k P "remainder" 338 (.builtin "math.remainder"), k P "sin" 339 (.builtin "off-the-table:math.sin:shared#opaque"), k P "sinh" 340 (.builtin "off-the-table:math.sinh:shared#opaque"), k P "sqrt" 341 (.builtin "math.sqrt"), k P "tan" 342 (.builtin "off-the-table:math.tan:shared#opaque"), k P "tanh" 343 (.builtin "off-the-table:math.tanh:shared#opaque"), k P "sumprod" 344 (.builtin "math.sumprod"), k P "trunc" 345 (.builtin "math.trunc"), k P "prod" 346 (.builtin "math.prod"), k P "perm" 347 (.builtin "math.perm"), k P "comb" 348 (.builtin "math.comb"), k P "nextafter" 349 (.builtin "math.nextafter"), k P "ulp" 350 (.builtin "math.ulp"), k P "__file__" 351 (.str (u [47, 110, 105, 120, 47, 115, 116, 111, 114, 101, 47, 119, 106, 49, 102, 53, 54, 113, 107, 121, 52, 112, 109, 106, 99, 55, 108, 48, 114, 54, 98, 54, 108, 55, 119, 104, 110, 110, 119, 55, 104, 112, 54, 45, 112, 121, 116, 104, 111, 110, 51, 45, 51, 46, 49, 51, 46, 49, 53, 47, 108, 105, 98, 47, 112, 121, 116, 104, 111, 110, 51, 46, 49, 51, 47, 108, 105, 98, 45, 100, 121, 110, 108, 111, 97, 100, 47, 109, 97, 116, 104, 46, 99, 112, 121, 116, 104, 111, 110, 45, 51, 49, 51, 45, 120, 56, 54, 95, 54, 52, 45, 108, 105, 110, 117, 120, 45, 103, 110, 117, 46, 115, 111]) 187), k P "pi" 353 (.float 4614256656552045848 352), k P "e" 355 (.float 4613303445314885481 354), k P "tau" 357 (.float 4618760256179416344 356), k P "inf" 359 (.float 9218868437227405312 358), k P "nan" 361 (.float 9221120237041090560 360)] 68), #[]⟩
noncomputable def t0 (P : Params) : BT := (n (o0 P) (n (o1 P) (n (o3 P) (n (o7 P) (n (o15 P) (n (o31 P) z z) z) (n (o23 P) z z)) (n (o11 P) (n (o19 P) (n (o35 P) z z) z) (n (o27 P) z z))) (n (o5 P) (n (o9 P) (n (o17 P) (n (o33 P) z z) z) (n (o25 P) z z)) (n (o13 P) (n (o21 P) (n (o37 P) z z) z) (n (o29 P) z z)))) (n (o2 P) (n (o4 P) (n (o8 P) (n (o16 P) (n (o32 P) z z) z) (n (o24 P) z z)) (n (o12_0 P) (n (o20 P) (n (o36 P) z z) z) (n (o28 P) z z))) (n (o6 P) (n (o10 P) (n (o18 P) (n (o34 P) z z) z) (n (o26 P) z z)) (n (o14 P) (n (o22 P) (n (o38 P) z z) z) (n (o30 P) z z)))))
noncomputable def X0 (w : World) (os : OsState) : SharedT := ⟨t0 w.params, 39, {}, #[], {}, 374, os⟩
noncomputable def l0 (P : Params) : List Obj := [o0 P, o1 P, o2 P, o3 P, o4 P, o5 P, o6 P, o7 P, o8 P, o9 P, o10 P, o11 P, o12_0 P, o13 P, o14 P, o15 P, o16 P, o17 P, o18 P, o19 P, o20 P, o21 P, o22 P, o23 P, o24 P, o25 P, o26 P, o27 P, o28 P, o29 P, o30 P, o31 P, o32 P, o33 P, o34 P, o35 P, o36 P, o37 P, o38 P]
noncomputable def Y0 (w : World) (os : OsState) : Shared := ⟨⟨⟨l0 w.params⟩, {}⟩, #[], {}, 374, os⟩
noncomputable def o39 (P : Params) : Obj := ⟨(.type "tuple"), none, (.seq #[] 0), #[]⟩
noncomputable def o40 (P : Params) : Obj := ⟨.none, none, (.fields #[]), #[]⟩
noncomputable def o41 (P : Params) : Obj := ⟨(.type "code"), none, (.fields #[(.str (s "<module>") 375), (.str (s "<module>") 376), (.str (s "/claim/cut.py") 377), (.int (1) 0), (.int (0) 0), (.int (0) 0), (.int (0) 0), (.int (0) 0), (.ref 39), (.bool false), (.int (374) 0), (.ref 40), .none, .none, .none, .none, (.int (378) 0), (.int (1) 0), (.str (s "/claim/cut.py") 379)]), #[]⟩
noncomputable def o42 (P : Params) : Obj := ⟨(.type "frame"), none, .plain, #[(some (.ref 41)), (some (.ref 3)), (some (.ref 3)), none, (some (.str (s "__main__") 164)), none, (some (.ref 0))]⟩
noncomputable def ta (P : Params) : BT := (n (o0 P) (n (o1 P) (n (o3 P) (n (o7 P) (n (o15 P) (n (o31 P) z z) z) (n (o23 P) (n (o39 P) z z) z)) (n (o11 P) (n (o19 P) (n (o35 P) z z) z) (n (o27 P) z z))) (n (o5 P) (n (o9 P) (n (o17 P) (n (o33 P) z z) z) (n (o25 P) (n (o41 P) z z) z)) (n (o13 P) (n (o21 P) (n (o37 P) z z) z) (n (o29 P) z z)))) (n (o2 P) (n (o4 P) (n (o8 P) (n (o16 P) (n (o32 P) z z) z) (n (o24 P) (n (o40 P) z z) z)) (n (o12_0 P) (n (o20 P) (n (o36 P) z z) z) (n (o28 P) z z))) (n (o6 P) (n (o10 P) (n (o18 P) (n (o34 P) z z) z) (n (o26 P) (n (o42 P) z z) z)) (n (o14 P) (n (o22 P) (n (o38 P) z z) z) (n (o30 P) z z)))))
noncomputable def Xa (w : World) (os : OsState) : SharedT := ⟨ta w.params, 43, {}, #[], {}, 380, os⟩
noncomputable def tb (P : Params) : BT := (n (o0 P) (n (o1 P) (n (o3 P) (n (o7 P) (n (o15 P) (n (o31 P) z z) z) (n (o23 P) (n (o39 P) z z) z)) (n (o11 P) (n (o19 P) (n (o35 P) z z) z) (n (o27 P) z z))) (n (o5 P) (n (o9 P) (n (o17 P) (n (o33 P) z z) z) (n (o25 P) (n (o41 P) z z) z)) (n (o13 P) (n (o21 P) (n (o37 P) z z) z) (n (o29 P) z z)))) (n (o2 P) (n (o4 P) (n (o8 P) (n (o16 P) (n (o32 P) z z) z) (n (o24 P) (n (o40 P) z z) z)) (n (o12_0 P) (n (o20 P) (n (o36 P) z z) z) (n (o28 P) z z))) (n (o6 P) (n (o10 P) (n (o18 P) (n (o34 P) z z) z) (n (o26 P) (n (o42 P) z z) z)) (n (o14 P) (n (o22 P) (n (o38 P) z z) z) (n (o30 P) z z)))))
noncomputable def Xb (w : World) (os : OsState) : SharedT := ⟨tb w.params, 43, {}, #[], {}, 380, os⟩
noncomputable def o3_1 (P : Params) : Obj := ⟨(.type "dict"), none, (.dict #[k P "__name__" 165 (.str (s "likepanes.errors") 387), k P "__doc__" 166 .none, k P "__package__" 167 .none, k P "__loader__" 168 (.builtin "__main__.__loader__#opaque"), k P "__spec__" 169 .none, k P "__annotations__" 170 (.ref 6), k P "__builtins__" 171 (.ref 4), k P "__file__" 173 (.str (s "/claim/cut.py") 172), k P "__cached__" 174 .none, k P "gcd" 370 (.builtin "math.gcd"), k P "isqrt" 373 (.builtin "math.isqrt"), k P "_wall" 386 (.ref 49), k P "BadValue" 406 (.ref 59), k P "InvalidText" 431 (.ref 79), k P "InvalidFraction" 456 (.ref 98), k P "NotAShape" 481 (.ref 117)] 16), #[]⟩
noncomputable def o40_1 (P : Params) : Obj := ⟨.none, none, (.fields #[(.int (2) 0), (.int (0) 0), (.ref 48), (.int (6) 0), (.int (0) 0), (.ref 55), (.int (8) 0), (.int (0) 0), (.ref 68), (.int (13) 0), (.int (0) 0), (.ref 87), (.int (18) 0), (.int (0) 0), (.ref 106)]), #[]⟩
noncomputable def o43 (P : Params) : Obj := ⟨(.type "tuple"), none, (.seq #[] 0), #[]⟩
noncomputable def o44 (P : Params) : Obj := ⟨.none, none, (.fields #[]), #[]⟩
noncomputable def o45 (P : Params) : Obj := ⟨(.type "tuple"), none, (.seq #[(.str (s "k") 383)] 0), #[]⟩
noncomputable def o46 (P : Params) : Obj := ⟨(.type "tuple"), none, (.seq #[] 0), #[]⟩
noncomputable def o47 (P : Params) : Obj := ⟨.none, none, (.func (fn (hT 1) (s "_wall") (s "_wall") 0 [] .none .none .none .none none .none .none 0)), #[]⟩
noncomputable def o48 (P : Params) : Obj := ⟨(.type "code"), none, (.fields #[(.str (s "_wall") 380), (.str (s "_wall") 381), (.str (s "/claim/cut.py") 382), (.int (2) 0), (.int (1) 0), (.int (0) 0), (.int (0) 0), (.int (3) 0), (.ref 43), (.bool true), (.int (374) 0), (.ref 44), .none, (.ref 45), (.ref 46), (.ref 47), (.int (384) 0), (.int (2) 0), (.str (s "/claim/cut.py") 385)]), #[]⟩
noncomputable def o49 (P : Params) : Obj := ⟨(.type "function"), none, (.func (fn (hT 1) (s "_wall") (s "_wall") 3 [] .none .none .none (.str (s "__main__") 164) none (.ref 48) .none 0)), #[]⟩
noncomputable def o50 (P : Params) : Obj := ⟨(.type "tuple"), none, (.seq #[(.type "ValueError")] 0), #[]⟩
noncomputable def o51 (P : Params) : Obj := ⟨(.type "builtin_function_or_method"), none, (.fields #[(.builtin "type.__prepare__"), (.type "type")]), #[]⟩
noncomputable def o52 (P : Params) : Obj := ⟨(.type "dict"), none, (.dict #[k P "__module__" 396 (.str (s "likepanes.errors") 387), k P "__qualname__" 398 (.str (s "BadValue") 397), k P "__firstlineno__" 400 (.int (6) 399), k P "__static_attributes__" 401 (.ref 57)] 4), #[]⟩
noncomputable def o53 (P : Params) : Obj := ⟨(.type "tuple"), none, (.seq #[] 0), #[]⟩
noncomputable def o54 (P : Params) : Obj := ⟨.none, none, (.fields #[]), #[]⟩
noncomputable def o55 (P : Params) : Obj := ⟨(.type "code"), none, (.fields #[(.str (s "BadValue") 391), (.str (s "BadValue") 392), (.str (s "/claim/cut.py") 393), (.int (6) 0), (.int (0) 0), (.int (0) 0), (.int (0) 0), (.int (0) 0), (.ref 53), (.bool false), (.int (374) 0), (.ref 54), .none, .none, .none, .none, (.int (394) 0), (.int (6) 0), (.str (s "/claim/cut.py") 395)]), #[]⟩
noncomputable def o56 (P : Params) : Obj := ⟨(.type "frame"), none, .plain, #[(some (.ref 55)), (some (.ref 3)), (some (.ref 52)), none, (some (.str (s "likepanes.errors") 387)), none, (some (.ref 0))]⟩
noncomputable def o57 (P : Params) : Obj := ⟨(.type "tuple"), none, (.seq #[] 0), #[]⟩
noncomputable def o58 (P : Params) : Obj := ⟨(.type "dict"), none, (.dict #[k P "__module__" 396 (.str (s "likepanes.errors") 387), k P "__firstlineno__" 400 (.int (6) 399), k P "__static_attributes__" 401 (.ref 57), k P "__weakref__" 403 (.ref 60), k P "__doc__" 404 .none] 3), #[]⟩
noncomputable def o59 (P : Params) : Obj := ⟨(.type "type"), none, (.cls ⟨(s "BadValue"), [(.type "ValueError")], [(.ref 59), (.type "ValueError"), (.type "Exception"), (.type "BaseException"), (.type "object")], 58, (s "BadValue"), true, [], [(.ref 79), (.ref 98), (.ref 117)], false, none, false⟩), #[(some (.ref 50)), none, (some (.str (s "BadValue") 389)), (some (.str (s "BadValue") 397)), (some (.builtin "ValueError.__new__")), (some (.bool true))]⟩
noncomputable def o60 (P : Params) : Obj := ⟨(.type "getset_descriptor"), none, (.fields #[(.str (s "__weakref__") 402), (.ref 59), (.builtin "ExceptionGroup.__weakref__"), .none]), #[]⟩
noncomputable def o61 (P : Params) : Obj := ⟨(.type "super"), none, (.fields #[(.ref 59), (.ref 59), (.ref 59)]), #[]⟩
noncomputable def o62 (P : Params) : Obj := ⟨(.type "builtin_function_or_method"), none, (.fields #[(.builtin "object.__init_subclass__"), (.ref 59)]), #[]⟩
noncomputable def o63 (P : Params) : Obj := ⟨(.type "tuple"), none, (.seq #[(.ref 59)] 0), #[]⟩
noncomputable def o64 (P : Params) : Obj := ⟨(.type "builtin_function_or_method"), none, (.fields #[(.builtin "type.__prepare__"), (.type "type")]), #[]⟩
noncomputable def o65 (P : Params) : Obj := ⟨(.type "dict"), none, (.dict #[k P "__module__" 414 (.str (s "likepanes.errors") 387), k P "__qualname__" 416 (.str (s "InvalidText") 415), k P "__firstlineno__" 418 (.int (8) 417), k P "__init__" 426 (.ref 76), k P "__static_attributes__" 428 (.ref 77)] 5), #[]⟩
noncomputable def o66 (P : Params) : Obj := ⟨(.type "tuple"), none, (.seq #[] 0), #[]⟩
noncomputable def o67 (P : Params) : Obj := ⟨.none, none, (.fields #[(.int (10) 0), (.int (4) 0), (.ref 75)]), #[]⟩
noncomputable def o68 (P : Params) : Obj := ⟨(.type "code"), none, (.fields #[(.str (s "InvalidText") 409), (.str (s "InvalidText") 410), (.str (s "/claim/cut.py") 411), (.int (8) 0), (.int (0) 0), (.int (0) 0), (.int (0) 0), (.int (0) 0), (.ref 66), (.bool false), (.int (374) 0), (.ref 67), .none, .none, .none, .none, (.int (412) 0), (.int (8) 0), (.str (s "/claim/cut.py") 413)]), #[]⟩
noncomputable def o69 (P : Params) : Obj := ⟨(.type "frame"), none, .plain, #[(some (.ref 68)), (some (.ref 3)), (some (.ref 65)), none, (some (.str (s "likepanes.errors") 387)), none, (some (.ref 0))]⟩
noncomputable def o70 (P : Params) : Obj := ⟨(.type "tuple"), none, (.seq #[] 0), #[]⟩
noncomputable def o71 (P : Params) : Obj := ⟨.none, none, (.fields #[]), #[]⟩
noncomputable def o72 (P : Params) : Obj := ⟨(.type "tuple"), none, (.seq #[(.str (s "self") 422), (.str (s "given") 423)] 0), #[]⟩
noncomputable def o73 (P : Params) : Obj := ⟨(.type "tuple"), none, (.seq #[] 0), #[]⟩
noncomputable def o74 (P : Params) : Obj := ⟨.none, none, (.func (fn (L2.inClass (hT 4) 0) (s "__init__") (s "InvalidText.__init__") 0 [] .none .none .none .none none .none .none 0)), #[]⟩
noncomputable def o75 (P : Params) : Obj := ⟨(.type "code"), none, (.fields #[(.str (s "__init__") 419), (.str (s "InvalidText.__init__") 420), (.str (s "/claim/cut.py") 421), (.int (10) 0), (.int (2) 0), (.int (0) 0), (.int (0) 0), (.int (3) 0), (.ref 70), (.bool true), (.int (374) 0), (.ref 71), .none, (.ref 72), (.ref 73), (.ref 74), (.int (424) 0), (.int (10) 0), (.str (s "/claim/cut.py") 425)]), #[]⟩
noncomputable def o76 (P : Params) : Obj := ⟨(.type "function"), none, (.func (fn (L2.inClass (hT 4) 0) (s "__init__") (s "InvalidText.__init__") 3 [] .none .none .none (.str (s "likepanes.errors") 387) none (.ref 75) .none 0)), #[]⟩
noncomputable def o77 (P : Params) : Obj := ⟨(.type "tuple"), none, (.seq #[(.str (s "given") 427)] 0), #[]⟩
noncomputable def o78 (P : Params) : Obj := ⟨(.type "dict"), none, (.dict #[k P "__module__" 414 (.str (s "likepanes.errors") 387), k P "__firstlineno__" 418 (.int (8) 417), k P "__init__" 426 (.ref 76), k P "__static_attributes__" 428 (.ref 77), k P "__doc__" 429 .none] 2), #[]⟩
noncomputable def o79 (P : Params) : Obj := ⟨(.type "type"), none, (.cls ⟨(s "InvalidText"), [(.ref 59)], [(.ref 79), (.ref 59), (.type "ValueError"), (.type "Exception"), (.type "BaseException"), (.type "object")], 78, (s "InvalidText"), true, [], [], false, none, false⟩), #[(some (.ref 63)), none, (some (.str (s "InvalidText") 407)), (some (.str (s "InvalidText") 415)), (some (.builtin "ValueError.__new__")), (some (.bool true))]⟩
noncomputable def o80 (P : Params) : Obj := ⟨(.type "super"), none, (.fields #[(.ref 79), (.ref 79), (.ref 79)]), #[]⟩
noncomputable def o81 (P : Params) : Obj := ⟨(.type "builtin_function_or_method"), none, (.fields #[(.builtin "object.__init_subclass__"), (.ref 79)]), #[]⟩
noncomputable def o82 (P : Params) : Obj := ⟨(.type "tuple"), none, (.seq #[(.ref 59)] 0), #[]⟩
noncomputable def o83 (P : Params) : Obj := ⟨(.type "builtin_function_or_method"), none, (.fields #[(.builtin "type.__prepare__"), (.type "type")]), #[]⟩
noncomputable def o84 (P : Params) : Obj := ⟨(.type "dict"), none, (.dict #[k P "__module__" 439 (.str (s "likepanes.errors") 387), k P "__qualname__" 441 (.str (s "InvalidFraction") 440), k P "__firstlineno__" 443 (.int (13) 442), k P "__init__" 451 (.ref 95), k P "__static_attributes__" 453 (.ref 96)] 5), #[]⟩
noncomputable def o85 (P : Params) : Obj := ⟨(.type "tuple"), none, (.seq #[] 0), #[]⟩
noncomputable def o86 (P : Params) : Obj := ⟨.none, none, (.fields #[(.int (15) 0), (.int (4) 0), (.ref 94)]), #[]⟩
noncomputable def o87 (P : Params) : Obj := ⟨(.type "code"), none, (.fields #[(.str (s "InvalidFraction") 434), (.str (s "InvalidFraction") 435), (.str (s "/claim/cut.py") 436), (.int (13) 0), (.int (0) 0), (.int (0) 0), (.int (0) 0), (.int (0) 0), (.ref 85), (.bool false), (.int (374) 0), (.ref 86), .none, .none, .none, .none, (.int (437) 0), (.int (13) 0), (.str (s "/claim/cut.py") 438)]), #[]⟩
noncomputable def o88 (P : Params) : Obj := ⟨(.type "frame"), none, .plain, #[(some (.ref 87)), (some (.ref 3)), (some (.ref 84)), none, (some (.str (s "likepanes.errors") 387)), none, (some (.ref 0))]⟩
noncomputable def o89 (P : Params) : Obj := ⟨(.type "tuple"), none, (.seq #[] 0), #[]⟩
noncomputable def o90 (P : Params) : Obj := ⟨.none, none, (.fields #[]), #[]⟩
noncomputable def o91 (P : Params) : Obj := ⟨(.type "tuple"), none, (.seq #[(.str (s "self") 447), (.str (s "given") 448)] 0), #[]⟩
noncomputable def o92 (P : Params) : Obj := ⟨(.type "tuple"), none, (.seq #[] 0), #[]⟩
noncomputable def o93 (P : Params) : Obj := ⟨.none, none, (.func (fn (L2.inClass (hT 5) 0) (s "__init__") (s "InvalidFraction.__init__") 0 [] .none .none .none .none none .none .none 0)), #[]⟩
noncomputable def o94 (P : Params) : Obj := ⟨(.type "code"), none, (.fields #[(.str (s "__init__") 444), (.str (s "InvalidFraction.__init__") 445), (.str (s "/claim/cut.py") 446), (.int (15) 0), (.int (2) 0), (.int (0) 0), (.int (0) 0), (.int (3) 0), (.ref 89), (.bool true), (.int (374) 0), (.ref 90), .none, (.ref 91), (.ref 92), (.ref 93), (.int (449) 0), (.int (15) 0), (.str (s "/claim/cut.py") 450)]), #[]⟩
noncomputable def o95 (P : Params) : Obj := ⟨(.type "function"), none, (.func (fn (L2.inClass (hT 5) 0) (s "__init__") (s "InvalidFraction.__init__") 3 [] .none .none .none (.str (s "likepanes.errors") 387) none (.ref 94) .none 0)), #[]⟩
noncomputable def o96 (P : Params) : Obj := ⟨(.type "tuple"), none, (.seq #[(.str (s "given") 452)] 0), #[]⟩
noncomputable def o97 (P : Params) : Obj := ⟨(.type "dict"), none, (.dict #[k P "__module__" 439 (.str (s "likepanes.errors") 387), k P "__firstlineno__" 443 (.int (13) 442), k P "__init__" 451 (.ref 95), k P "__static_attributes__" 453 (.ref 96), k P "__doc__" 454 .none] 2), #[]⟩
noncomputable def o98 (P : Params) : Obj := ⟨(.type "type"), none, (.cls ⟨(s "InvalidFraction"), [(.ref 59)], [(.ref 98), (.ref 59), (.type "ValueError"), (.type "Exception"), (.type "BaseException"), (.type "object")], 97, (s "InvalidFraction"), true, [], [], false, none, false⟩), #[(some (.ref 82)), none, (some (.str (s "InvalidFraction") 432)), (some (.str (s "InvalidFraction") 440)), (some (.builtin "ValueError.__new__")), (some (.bool true))]⟩
noncomputable def o99 (P : Params) : Obj := ⟨(.type "super"), none, (.fields #[(.ref 98), (.ref 98), (.ref 98)]), #[]⟩
noncomputable def o100 (P : Params) : Obj := ⟨(.type "builtin_function_or_method"), none, (.fields #[(.builtin "object.__init_subclass__"), (.ref 98)]), #[]⟩
noncomputable def o101 (P : Params) : Obj := ⟨(.type "tuple"), none, (.seq #[(.ref 59)] 0), #[]⟩
noncomputable def o102 (P : Params) : Obj := ⟨(.type "builtin_function_or_method"), none, (.fields #[(.builtin "type.__prepare__"), (.type "type")]), #[]⟩
noncomputable def o103 (P : Params) : Obj := ⟨(.type "dict"), none, (.dict #[k P "__module__" 464 (.str (s "likepanes.errors") 387), k P "__qualname__" 466 (.str (s "NotAShape") 465), k P "__firstlineno__" 468 (.int (18) 467), k P "__init__" 476 (.ref 114), k P "__static_attributes__" 478 (.ref 115)] 5), #[]⟩
noncomputable def o104 (P : Params) : Obj := ⟨(.type "tuple"), none, (.seq #[] 0), #[]⟩
noncomputable def o105 (P : Params) : Obj := ⟨.none, none, (.fields #[(.int (20) 0), (.int (4) 0), (.ref 113)]), #[]⟩
noncomputable def o106 (P : Params) : Obj := ⟨(.type "code"), none, (.fields #[(.str (s "NotAShape") 459), (.str (s "NotAShape") 460), (.str (s "/claim/cut.py") 461), (.int (18) 0), (.int (0) 0), (.int (0) 0), (.int (0) 0), (.int (0) 0), (.ref 104), (.bool false), (.int (374) 0), (.ref 105), .none, .none, .none, .none, (.int (462) 0), (.int (18) 0), (.str (s "/claim/cut.py") 463)]), #[]⟩
noncomputable def o107 (P : Params) : Obj := ⟨(.type "frame"), none, .plain, #[(some (.ref 106)), (some (.ref 3)), (some (.ref 103)), none, (some (.str (s "likepanes.errors") 387)), none, (some (.ref 0))]⟩
noncomputable def o108 (P : Params) : Obj := ⟨(.type "tuple"), none, (.seq #[] 0), #[]⟩
noncomputable def o109 (P : Params) : Obj := ⟨.none, none, (.fields #[]), #[]⟩
noncomputable def o110 (P : Params) : Obj := ⟨(.type "tuple"), none, (.seq #[(.str (s "self") 472), (.str (s "given") 473)] 0), #[]⟩
noncomputable def o111 (P : Params) : Obj := ⟨(.type "tuple"), none, (.seq #[] 0), #[]⟩
noncomputable def o112 (P : Params) : Obj := ⟨.none, none, (.func (fn (L2.inClass (hT 6) 0) (s "__init__") (s "NotAShape.__init__") 0 [] .none .none .none .none none .none .none 0)), #[]⟩
noncomputable def o113 (P : Params) : Obj := ⟨(.type "code"), none, (.fields #[(.str (s "__init__") 469), (.str (s "NotAShape.__init__") 470), (.str (s "/claim/cut.py") 471), (.int (20) 0), (.int (2) 0), (.int (0) 0), (.int (0) 0), (.int (3) 0), (.ref 108), (.bool true), (.int (374) 0), (.ref 109), .none, (.ref 110), (.ref 111), (.ref 112), (.int (474) 0), (.int (20) 0), (.str (s "/claim/cut.py") 475)]), #[]⟩
noncomputable def o114 (P : Params) : Obj := ⟨(.type "function"), none, (.func (fn (L2.inClass (hT 6) 0) (s "__init__") (s "NotAShape.__init__") 3 [] .none .none .none (.str (s "likepanes.errors") 387) none (.ref 113) .none 0)), #[]⟩
noncomputable def o115 (P : Params) : Obj := ⟨(.type "tuple"), none, (.seq #[(.str (s "given") 477)] 0), #[]⟩
noncomputable def o116 (P : Params) : Obj := ⟨(.type "dict"), none, (.dict #[k P "__module__" 464 (.str (s "likepanes.errors") 387), k P "__firstlineno__" 468 (.int (18) 467), k P "__init__" 476 (.ref 114), k P "__static_attributes__" 478 (.ref 115), k P "__doc__" 479 .none] 2), #[]⟩
noncomputable def o117 (P : Params) : Obj := ⟨(.type "type"), none, (.cls ⟨(s "NotAShape"), [(.ref 59)], [(.ref 117), (.ref 59), (.type "ValueError"), (.type "Exception"), (.type "BaseException"), (.type "object")], 116, (s "NotAShape"), true, [], [], false, none, false⟩), #[(some (.ref 101)), none, (some (.str (s "NotAShape") 457)), (some (.str (s "NotAShape") 465)), (some (.builtin "ValueError.__new__")), (some (.bool true))]⟩
noncomputable def o118 (P : Params) : Obj := ⟨(.type "super"), none, (.fields #[(.ref 117), (.ref 117), (.ref 117)]), #[]⟩
noncomputable def o119 (P : Params) : Obj := ⟨(.type "builtin_function_or_method"), none, (.fields #[(.builtin "object.__init_subclass__"), (.ref 117)]), #[]⟩
noncomputable def t1 (P : Params) : BT := (n (o0 P) (n (o1 P) (n (o3_1 P) (n (o7 P) (n (o15 P) (n (o31 P) (n (o63 P) z z) (n (o95 P) z z)) (n (o47 P) (n (o79 P) z z) (n (o111 P) z z))) (n (o23 P) (n (o39 P) (n (o71 P) z z) (n (o103 P) z z)) (n (o55 P) (n (o87 P) z z) (n (o119 P) z z)))) (n (o11 P) (n (o19 P) (n (o35 P) (n (o67 P) z z) (n (o99 P) z z)) (n (o51 P) (n (o83 P) z z) (n (o115 P) z z))) (n (o27 P) (n (o43 P) (n (o75 P) z z) (n (o107 P) z z)) (n (o59 P) (n (o91 P) z z) z)))) (n (o5 P) (n (o9 P) (n (o17 P) (n (o33 P) (n (o65 P) z z) (n (o97 P) z z)) (n (o49 P) (n (o81 P) z z) (n (o113 P) z z))) (n (o25 P) (n (o41 P) (n (o73 P) z z) (n (o105 P) z z)) (n (o57 P) (n (o89 P) z z) z))) (n (o13 P) (n (o21 P) (n (o37 P) (n (o69 P) z z) (n (o101 P) z z)) (n (o53 P) (n (o85 P) z z) (n (o117 P) z z))) (n (o29 P) (n (o45 P) (n (o77 P) z z) (n (o109 P) z z)) (n (o61 P) (n (o93 P) z z) z))))) (n (o2 P) (n (o4 P) (n (o8 P) (n (o16 P) (n (o32 P) (n (o64 P) z z) (n (o96 P) z z)) (n (o48 P) (n (o80 P) z z) (n (o112 P) z z))) (n (o24 P) (n (o40_1 P) (n (o72 P) z z) (n (o104 P) z z)) (n (o56 P) (n (o88 P) z z) z))) (n (o12_0 P) (n (o20 P) (n (o36 P) (n (o68 P) z z) (n (o100 P) z z)) (n (o52 P) (n (o84 P) z z) (n (o116 P) z z))) (n (o28 P) (n (o44 P) (n (o76 P) z z) (n (o108 P) z z)) (n (o60 P) (n (o92 P) z z) z)))) (n (o6 P) (n (o10 P) (n (o18 P) (n (o34 P) (n (o66 P) z z) (n (o98 P) z z)) (n (o50 P) (n (o82 P) z z) (n (o114 P) z z))) (n (o26 P) (n (o42 P) (n (o74 P) z z) (n (o106 P) z z)) (n (o58 P) (n (o90 P) z z) z))) (n (o14 P) (n (o22 P) (n (o38 P) (n (o70 P) z z) (n (o102 P) z z)) (n (o54 P) (n (o86 P) z z) (n (o118 P) z z))) (n (o30 P) (n (o46 P) (n (o78 P) z z) (n (o110 P) z z)) (n (o62 P) (n (o94 P) z z) z))))))
noncomputable def X1 (w : World) (os : OsState) : SharedT := ⟨t1 w.params, 120, {}, #[], {}, 482, os⟩
noncomputable def o2_2 (P : Params) : Obj := ⟨.none, none, (.dict #[ku P (u [105, 109, 112, 111, 114, 116, 46, 108, 111, 97, 100, 101, 100, 46, 109, 97, 116, 104]) 186 (.bool true), k P "class._frozen_importlib_external._LoaderBasics" 191 (.ref 16), ku P (u [119, 97, 116, 99, 104, 101, 100, 46, 105, 109, 112, 111, 114, 116]) 207 (.ref 20), k P "class._frozen_importlib_external.FileLoader" 208 (.ref 22), k P "class._frozen_importlib_external.ExtensionFileLoader" 229 (.ref 27), k P "class._frozen_importlib.ModuleSpec" 257 (.ref 33), k P "sys.modules.booked-epoch" 286 (.int (3) 0), ku P (u [105, 109, 112, 111, 114, 116, 46, 108, 97, 116, 101, 114, 45, 108, 97, 105, 100, 46, 109, 97, 116, 104]) 362 (.bool true), k P "watched.library" 364 (.ref 38), k P "watched.library-objects" 0 (.str (u [13]) 0), k P "type.__subclasses__.ArithmeticError.0" 523 (.int (148) 0), k P "type.__subclasses__.ArithmeticError.n" 524 (.int (1) 0)] 12), #[]⟩
noncomputable def o3_2 (P : Params) : Obj := ⟨(.type "dict"), none, (.dict #[k P "__name__" 165 (.str (s "likepanes.kinds") 579), k P "__doc__" 166 .none, k P "__package__" 167 .none, k P "__loader__" 168 (.builtin "__main__.__loader__#opaque"), k P "__spec__" 169 .none, k P "__annotations__" 170 (.ref 6), k P "__builtins__" 171 (.ref 4), k P "__file__" 173 (.str (s "/claim/cut.py") 172), k P "__cached__" 174 .none, k P "gcd" 370 (.builtin "math.gcd"), k P "isqrt" 373 (.builtin "math.isqrt"), k P "_wall" 386 (.ref 49), k P "BadValue" 406 (.ref 59), k P "InvalidText" 431 (.ref 79), k P "InvalidFraction" 456 (.ref 98), k P "NotAShape" 481 (.ref 117), k P "InvalidEquation" 506 (.ref 136), k P "NoAnswer" 526 (.ref 148), k P "NoRoot" 549 (.ref 168), k P "TooMany" 574 (.ref 187), k P "MOST_DEGREE" 576 (.int (5) 575), k P "MOST_TERM" 578 (.int (1000) 577), k P "is_integer" 587 (.ref 196)] 23), #[]⟩
noncomputable def o40_2 (P : Params) : Obj := ⟨.none, none, (.fields #[(.int (2) 0), (.int (0) 0), (.ref 48), (.int (6) 0), (.int (0) 0), (.ref 55), (.int (8) 0), (.int (0) 0), (.ref 68), (.int (13) 0), (.int (0) 0), (.ref 87), (.int (18) 0), (.int (0) 0), (.ref 106), (.int (23) 0), (.int (0) 0), (.ref 125), (.int (28) 0), (.int (0) 0), (.ref 144), (.int (30) 0), (.int (0) 0), (.ref 157), (.int (34) 0), (.int (0) 0), (.ref 176), (.int (42) 0), (.int (0) 0), (.ref 195)]), #[]⟩
noncomputable def o59_2 (P : Params) : Obj := ⟨(.type "type"), none, (.cls ⟨(s "BadValue"), [(.type "ValueError")], [(.ref 59), (.type "ValueError"), (.type "Exception"), (.type "BaseException"), (.type "object")], 58, (s "BadValue"), true, [], [(.ref 79), (.ref 98), (.ref 117), (.ref 136)], false, none, false⟩), #[(some (.ref 50)), none, (some (.str (s "BadValue") 389)), (some (.str (s "BadValue") 397)), (some (.builtin "ValueError.__new__")), (some (.bool true))]⟩
noncomputable def o120 (P : Params) : Obj := ⟨(.type "tuple"), none, (.seq #[(.ref 59)] 0), #[]⟩
noncomputable def o121 (P : Params) : Obj := ⟨(.type "builtin_function_or_method"), none, (.fields #[(.builtin "type.__prepare__"), (.type "type")]), #[]⟩
noncomputable def o122 (P : Params) : Obj := ⟨(.type "dict"), none, (.dict #[k P "__module__" 489 (.str (s "likepanes.errors") 387), k P "__qualname__" 491 (.str (s "InvalidEquation") 490), k P "__firstlineno__" 493 (.int (23) 492), k P "__init__" 501 (.ref 133), k P "__static_attributes__" 503 (.ref 134)] 5), #[]⟩
noncomputable def o123 (P : Params) : Obj := ⟨(.type "tuple"), none, (.seq #[] 0), #[]⟩
noncomputable def o124 (P : Params) : Obj := ⟨.none, none, (.fields #[(.int (25) 0), (.int (4) 0), (.ref 132)]), #[]⟩
noncomputable def o125 (P : Params) : Obj := ⟨(.type "code"), none, (.fields #[(.str (s "InvalidEquation") 484), (.str (s "InvalidEquation") 485), (.str (s "/claim/cut.py") 486), (.int (23) 0), (.int (0) 0), (.int (0) 0), (.int (0) 0), (.int (0) 0), (.ref 123), (.bool false), (.int (374) 0), (.ref 124), .none, .none, .none, .none, (.int (487) 0), (.int (23) 0), (.str (s "/claim/cut.py") 488)]), #[]⟩
noncomputable def o126 (P : Params) : Obj := ⟨(.type "frame"), none, .plain, #[(some (.ref 125)), (some (.ref 3)), (some (.ref 122)), none, (some (.str (s "likepanes.errors") 387)), none, (some (.ref 0))]⟩
noncomputable def o127 (P : Params) : Obj := ⟨(.type "tuple"), none, (.seq #[] 0), #[]⟩
noncomputable def o128 (P : Params) : Obj := ⟨.none, none, (.fields #[]), #[]⟩
noncomputable def o129 (P : Params) : Obj := ⟨(.type "tuple"), none, (.seq #[(.str (s "self") 497), (.str (s "index") 498)] 0), #[]⟩
noncomputable def o130 (P : Params) : Obj := ⟨(.type "tuple"), none, (.seq #[] 0), #[]⟩
noncomputable def o131 (P : Params) : Obj := ⟨.none, none, (.func (fn (L2.inClass (hT 7) 0) (s "__init__") (s "InvalidEquation.__init__") 0 [] .none .none .none .none none .none .none 0)), #[]⟩
noncomputable def o132 (P : Params) : Obj := ⟨(.type "code"), none, (.fields #[(.str (s "__init__") 494), (.str (s "InvalidEquation.__init__") 495), (.str (s "/claim/cut.py") 496), (.int (25) 0), (.int (2) 0), (.int (0) 0), (.int (0) 0), (.int (3) 0), (.ref 127), (.bool true), (.int (374) 0), (.ref 128), .none, (.ref 129), (.ref 130), (.ref 131), (.int (499) 0), (.int (25) 0), (.str (s "/claim/cut.py") 500)]), #[]⟩
noncomputable def o133 (P : Params) : Obj := ⟨(.type "function"), none, (.func (fn (L2.inClass (hT 7) 0) (s "__init__") (s "InvalidEquation.__init__") 3 [] .none .none .none (.str (s "likepanes.errors") 387) none (.ref 132) .none 0)), #[]⟩
noncomputable def o134 (P : Params) : Obj := ⟨(.type "tuple"), none, (.seq #[(.str (s "index") 502)] 0), #[]⟩
noncomputable def o135 (P : Params) : Obj := ⟨(.type "dict"), none, (.dict #[k P "__module__" 489 (.str (s "likepanes.errors") 387), k P "__firstlineno__" 493 (.int (23) 492), k P "__init__" 501 (.ref 133), k P "__static_attributes__" 503 (.ref 134), k P "__doc__" 504 .none] 2), #[]⟩
noncomputable def o136 (P : Params) : Obj := ⟨(.type "type"), none, (.cls ⟨(s "InvalidEquation"), [(.ref 59)], [(.ref 136), (.ref 59), (.type "ValueError"), (.type "Exception"), (.type "BaseException"), (.type "object")], 135, (s "InvalidEquation"), true, [], [], false, none, false⟩), #[(some (.ref 120)), none, (some (.str (s "InvalidEquation") 482)), (some (.str (s "InvalidEquation") 490)), (some (.builtin "ValueError.__new__")), (some (.bool true))]⟩
noncomputable def o137 (P : Params) : Obj := ⟨(.type "super"), none, (.fields #[(.ref 136), (.ref 136), (.ref 136)]), #[]⟩
noncomputable def o138 (P : Params) : Obj := ⟨(.type "builtin_function_or_method"), none, (.fields #[(.builtin "object.__init_subclass__"), (.ref 136)]), #[]⟩
noncomputable def o139 (P : Params) : Obj := ⟨(.type "tuple"), none, (.seq #[(.type "ArithmeticError")] 0), #[]⟩
noncomputable def o140 (P : Params) : Obj := ⟨(.type "builtin_function_or_method"), none, (.fields #[(.builtin "type.__prepare__"), (.type "type")]), #[]⟩
noncomputable def o141 (P : Params) : Obj := ⟨(.type "dict"), none, (.dict #[k P "__module__" 514 (.str (s "likepanes.errors") 387), k P "__qualname__" 516 (.str (s "NoAnswer") 515), k P "__firstlineno__" 518 (.int (28) 517), k P "__static_attributes__" 519 (.ref 146)] 4), #[]⟩
noncomputable def o142 (P : Params) : Obj := ⟨(.type "tuple"), none, (.seq #[] 0), #[]⟩
noncomputable def o143 (P : Params) : Obj := ⟨.none, none, (.fields #[]), #[]⟩
noncomputable def o144 (P : Params) : Obj := ⟨(.type "code"), none, (.fields #[(.str (s "NoAnswer") 509), (.str (s "NoAnswer") 510), (.str (s "/claim/cut.py") 511), (.int (28) 0), (.int (0) 0), (.int (0) 0), (.int (0) 0), (.int (0) 0), (.ref 142), (.bool false), (.int (374) 0), (.ref 143), .none, .none, .none, .none, (.int (512) 0), (.int (28) 0), (.str (s "/claim/cut.py") 513)]), #[]⟩
noncomputable def o145 (P : Params) : Obj := ⟨(.type "frame"), none, .plain, #[(some (.ref 144)), (some (.ref 3)), (some (.ref 141)), none, (some (.str (s "likepanes.errors") 387)), none, (some (.ref 0))]⟩
noncomputable def o146 (P : Params) : Obj := ⟨(.type "tuple"), none, (.seq #[] 0), #[]⟩
noncomputable def o147 (P : Params) : Obj := ⟨(.type "dict"), none, (.dict #[k P "__module__" 514 (.str (s "likepanes.errors") 387), k P "__firstlineno__" 518 (.int (28) 517), k P "__static_attributes__" 519 (.ref 146), k P "__weakref__" 521 (.ref 149), k P "__doc__" 522 .none] 3), #[]⟩
noncomputable def o148 (P : Params) : Obj := ⟨(.type "type"), none, (.cls ⟨(s "NoAnswer"), [(.type "ArithmeticError")], [(.ref 148), (.type "ArithmeticError"), (.type "Exception"), (.type "BaseException"), (.type "object")], 147, (s "NoAnswer"), true, [], [(.ref 168), (.ref 187)], false, none, false⟩), #[(some (.ref 139)), none, (some (.str (s "NoAnswer") 507)), (some (.str (s "NoAnswer") 515)), (some (.builtin "ArithmeticError.__new__")), (some (.bool true))]⟩
noncomputable def o149 (P : Params) : Obj := ⟨(.type "getset_descriptor"), none, (.fields #[(.str (s "__weakref__") 520), (.ref 148), (.builtin "ExceptionGroup.__weakref__"), .none]), #[]⟩
noncomputable def o150 (P : Params) : Obj := ⟨(.type "super"), none, (.fields #[(.ref 148), (.ref 148), (.ref 148)]), #[]⟩
noncomputable def o151 (P : Params) : Obj := ⟨(.type "builtin_function_or_method"), none, (.fields #[(.builtin "object.__init_subclass__"), (.ref 148)]), #[]⟩
noncomputable def o152 (P : Params) : Obj := ⟨(.type "tuple"), none, (.seq #[(.ref 148)] 0), #[]⟩
noncomputable def o153 (P : Params) : Obj := ⟨(.type "builtin_function_or_method"), none, (.fields #[(.builtin "type.__prepare__"), (.type "type")]), #[]⟩
noncomputable def o154 (P : Params) : Obj := ⟨(.type "dict"), none, (.dict #[k P "__module__" 534 (.str (s "likepanes.errors") 387), k P "__qualname__" 536 (.str (s "NoRoot") 535), k P "__firstlineno__" 538 (.int (30) 537), k P "__init__" 545 (.ref 165), k P "__static_attributes__" 546 (.ref 166)] 5), #[]⟩
noncomputable def o155 (P : Params) : Obj := ⟨(.type "tuple"), none, (.seq #[] 0), #[]⟩
noncomputable def o156 (P : Params) : Obj := ⟨.none, none, (.fields #[(.int (32) 0), (.int (4) 0), (.ref 164)]), #[]⟩
noncomputable def o157 (P : Params) : Obj := ⟨(.type "code"), none, (.fields #[(.str (s "NoRoot") 529), (.str (s "NoRoot") 530), (.str (s "/claim/cut.py") 531), (.int (30) 0), (.int (0) 0), (.int (0) 0), (.int (0) 0), (.int (0) 0), (.ref 155), (.bool false), (.int (374) 0), (.ref 156), .none, .none, .none, .none, (.int (532) 0), (.int (30) 0), (.str (s "/claim/cut.py") 533)]), #[]⟩
noncomputable def o158 (P : Params) : Obj := ⟨(.type "frame"), none, .plain, #[(some (.ref 157)), (some (.ref 3)), (some (.ref 154)), none, (some (.str (s "likepanes.errors") 387)), none, (some (.ref 0))]⟩
noncomputable def o159 (P : Params) : Obj := ⟨(.type "tuple"), none, (.seq #[] 0), #[]⟩
noncomputable def o160 (P : Params) : Obj := ⟨.none, none, (.fields #[]), #[]⟩
noncomputable def o161 (P : Params) : Obj := ⟨(.type "tuple"), none, (.seq #[(.str (s "self") 542)] 0), #[]⟩
noncomputable def o162 (P : Params) : Obj := ⟨(.type "tuple"), none, (.seq #[] 0), #[]⟩
noncomputable def o163 (P : Params) : Obj := ⟨.none, none, (.func (fn (L2.inClass (hT 9) 0) (s "__init__") (s "NoRoot.__init__") 0 [] .none .none .none .none none .none .none 0)), #[]⟩
noncomputable def o164 (P : Params) : Obj := ⟨(.type "code"), none, (.fields #[(.str (s "__init__") 539), (.str (s "NoRoot.__init__") 540), (.str (s "/claim/cut.py") 541), (.int (32) 0), (.int (1) 0), (.int (0) 0), (.int (0) 0), (.int (3) 0), (.ref 159), (.bool true), (.int (374) 0), (.ref 160), .none, (.ref 161), (.ref 162), (.ref 163), (.int (543) 0), (.int (32) 0), (.str (s "/claim/cut.py") 544)]), #[]⟩
noncomputable def o165 (P : Params) : Obj := ⟨(.type "function"), none, (.func (fn (L2.inClass (hT 9) 0) (s "__init__") (s "NoRoot.__init__") 3 [] .none .none .none (.str (s "likepanes.errors") 387) none (.ref 164) .none 0)), #[]⟩
noncomputable def o166 (P : Params) : Obj := ⟨(.type "tuple"), none, (.seq #[] 0), #[]⟩
noncomputable def o167 (P : Params) : Obj := ⟨(.type "dict"), none, (.dict #[k P "__module__" 534 (.str (s "likepanes.errors") 387), k P "__firstlineno__" 538 (.int (30) 537), k P "__init__" 545 (.ref 165), k P "__static_attributes__" 546 (.ref 166), k P "__doc__" 547 .none] 2), #[]⟩
noncomputable def o168 (P : Params) : Obj := ⟨(.type "type"), none, (.cls ⟨(s "NoRoot"), [(.ref 148)], [(.ref 168), (.ref 148), (.type "ArithmeticError"), (.type "Exception"), (.type "BaseException"), (.type "object")], 167, (s "NoRoot"), true, [], [], false, none, false⟩), #[(some (.ref 152)), none, (some (.str (s "NoRoot") 527)), (some (.str (s "NoRoot") 535)), (some (.builtin "ArithmeticError.__new__")), (some (.bool true))]⟩
noncomputable def o169 (P : Params) : Obj := ⟨(.type "super"), none, (.fields #[(.ref 168), (.ref 168), (.ref 168)]), #[]⟩
noncomputable def o170 (P : Params) : Obj := ⟨(.type "builtin_function_or_method"), none, (.fields #[(.builtin "object.__init_subclass__"), (.ref 168)]), #[]⟩
noncomputable def o171 (P : Params) : Obj := ⟨(.type "tuple"), none, (.seq #[(.ref 148)] 0), #[]⟩
noncomputable def o172 (P : Params) : Obj := ⟨(.type "builtin_function_or_method"), none, (.fields #[(.builtin "type.__prepare__"), (.type "type")]), #[]⟩
noncomputable def o173 (P : Params) : Obj := ⟨(.type "dict"), none, (.dict #[k P "__module__" 557 (.str (s "likepanes.errors") 387), k P "__qualname__" 559 (.str (s "TooMany") 558), k P "__firstlineno__" 561 (.int (34) 560), k P "__init__" 569 (.ref 184), k P "__static_attributes__" 571 (.ref 185)] 5), #[]⟩
noncomputable def o174 (P : Params) : Obj := ⟨(.type "tuple"), none, (.seq #[] 0), #[]⟩
noncomputable def o175 (P : Params) : Obj := ⟨.none, none, (.fields #[(.int (36) 0), (.int (4) 0), (.ref 183)]), #[]⟩
noncomputable def o176 (P : Params) : Obj := ⟨(.type "code"), none, (.fields #[(.str (s "TooMany") 552), (.str (s "TooMany") 553), (.str (s "/claim/cut.py") 554), (.int (34) 0), (.int (0) 0), (.int (0) 0), (.int (0) 0), (.int (0) 0), (.ref 174), (.bool false), (.int (374) 0), (.ref 175), .none, .none, .none, .none, (.int (555) 0), (.int (34) 0), (.str (s "/claim/cut.py") 556)]), #[]⟩
noncomputable def o177 (P : Params) : Obj := ⟨(.type "frame"), none, .plain, #[(some (.ref 176)), (some (.ref 3)), (some (.ref 173)), none, (some (.str (s "likepanes.errors") 387)), none, (some (.ref 0))]⟩
noncomputable def o178 (P : Params) : Obj := ⟨(.type "tuple"), none, (.seq #[] 0), #[]⟩
noncomputable def o179 (P : Params) : Obj := ⟨.none, none, (.fields #[]), #[]⟩
noncomputable def o180 (P : Params) : Obj := ⟨(.type "tuple"), none, (.seq #[(.str (s "self") 565), (.str (s "limit") 566)] 0), #[]⟩
noncomputable def o181 (P : Params) : Obj := ⟨(.type "tuple"), none, (.seq #[] 0), #[]⟩
noncomputable def o182 (P : Params) : Obj := ⟨.none, none, (.func (fn (L2.inClass (hT 10) 0) (s "__init__") (s "TooMany.__init__") 0 [] .none .none .none .none none .none .none 0)), #[]⟩
noncomputable def o183 (P : Params) : Obj := ⟨(.type "code"), none, (.fields #[(.str (s "__init__") 562), (.str (s "TooMany.__init__") 563), (.str (s "/claim/cut.py") 564), (.int (36) 0), (.int (2) 0), (.int (0) 0), (.int (0) 0), (.int (3) 0), (.ref 178), (.bool true), (.int (374) 0), (.ref 179), .none, (.ref 180), (.ref 181), (.ref 182), (.int (567) 0), (.int (36) 0), (.str (s "/claim/cut.py") 568)]), #[]⟩
noncomputable def o184 (P : Params) : Obj := ⟨(.type "function"), none, (.func (fn (L2.inClass (hT 10) 0) (s "__init__") (s "TooMany.__init__") 3 [] .none .none .none (.str (s "likepanes.errors") 387) none (.ref 183) .none 0)), #[]⟩
noncomputable def o185 (P : Params) : Obj := ⟨(.type "tuple"), none, (.seq #[(.str (s "limit") 570)] 0), #[]⟩
noncomputable def o186 (P : Params) : Obj := ⟨(.type "dict"), none, (.dict #[k P "__module__" 557 (.str (s "likepanes.errors") 387), k P "__firstlineno__" 561 (.int (34) 560), k P "__init__" 569 (.ref 184), k P "__static_attributes__" 571 (.ref 185), k P "__doc__" 572 .none] 2), #[]⟩
noncomputable def o187 (P : Params) : Obj := ⟨(.type "type"), none, (.cls ⟨(s "TooMany"), [(.ref 148)], [(.ref 187), (.ref 148), (.type "ArithmeticError"), (.type "Exception"), (.type "BaseException"), (.type "object")], 186, (s "TooMany"), true, [], [], false, none, false⟩), #[(some (.ref 171)), none, (some (.str (s "TooMany") 550)), (some (.str (s "TooMany") 558)), (some (.builtin "ArithmeticError.__new__")), (some (.bool true))]⟩
noncomputable def o188 (P : Params) : Obj := ⟨(.type "super"), none, (.fields #[(.ref 187), (.ref 187), (.ref 187)]), #[]⟩
noncomputable def o189 (P : Params) : Obj := ⟨(.type "builtin_function_or_method"), none, (.fields #[(.builtin "object.__init_subclass__"), (.ref 187)]), #[]⟩
noncomputable def o190 (P : Params) : Obj := ⟨(.type "tuple"), none, (.seq #[] 0), #[]⟩
noncomputable def o191 (P : Params) : Obj := ⟨.none, none, (.fields #[]), #[]⟩
noncomputable def o192 (P : Params) : Obj := ⟨(.type "tuple"), none, (.seq #[(.str (s "value") 584)] 0), #[]⟩
noncomputable def o193 (P : Params) : Obj := ⟨(.type "tuple"), none, (.seq #[] 0), #[]⟩
noncomputable def o194 (P : Params) : Obj := ⟨.none, none, (.func (fn (hT 14) (s "is_integer") (s "is_integer") 0 [] .none .none .none .none none .none .none 0)), #[]⟩
noncomputable def o195 (P : Params) : Obj := ⟨(.type "code"), none, (.fields #[(.str (s "is_integer") 581), (.str (s "is_integer") 582), (.str (s "/claim/cut.py") 583), (.int (42) 0), (.int (1) 0), (.int (0) 0), (.int (0) 0), (.int (3) 0), (.ref 190), (.bool true), (.int (374) 0), (.ref 191), .none, (.ref 192), (.ref 193), (.ref 194), (.int (585) 0), (.int (42) 0), (.str (s "/claim/cut.py") 586)]), #[]⟩
noncomputable def o196 (P : Params) : Obj := ⟨(.type "function"), none, (.func (fn (hT 14) (s "is_integer") (s "is_integer") 3 [] .none .none .none (.str (s "likepanes.kinds") 579) none (.ref 195) .none 0)), #[]⟩
noncomputable def t2 (P : Params) : BT := (n (o0 P) (n (o1 P) (n (o3_2 P) (n (o7 P) (n (o15 P) (n (o31 P) (n (o63 P) (n (o127 P) z z) (n (o191 P) z z)) (n (o95 P) (n (o159 P) z z) z)) (n (o47 P) (n (o79 P) (n (o143 P) z z) z) (n (o111 P) (n (o175 P) z z) z))) (n (o23 P) (n (o39 P) (n (o71 P) (n (o135 P) z z) z) (n (o103 P) (n (o167 P) z z) z)) (n (o55 P) (n (o87 P) (n (o151 P) z z) z) (n (o119 P) (n (o183 P) z z) z)))) (n (o11 P) (n (o19 P) (n (o35 P) (n (o67 P) (n (o131 P) z z) (n (o195 P) z z)) (n (o99 P) (n (o163 P) z z) z)) (n (o51 P) (n (o83 P) (n (o147 P) z z) z) (n (o115 P) (n (o179 P) z z) z))) (n (o27 P) (n (o43 P) (n (o75 P) (n (o139 P) z z) z) (n (o107 P) (n (o171 P) z z) z)) (n (o59_2 P) (n (o91 P) (n (o155 P) z z) z) (n (o123 P) (n (o187 P) z z) z))))) (n (o5 P) (n (o9 P) (n (o17 P) (n (o33 P) (n (o65 P) (n (o129 P) z z) (n (o193 P) z z)) (n (o97 P) (n (o161 P) z z) z)) (n (o49 P) (n (o81 P) (n (o145 P) z z) z) (n (o113 P) (n (o177 P) z z) z))) (n (o25 P) (n (o41 P) (n (o73 P) (n (o137 P) z z) z) (n (o105 P) (n (o169 P) z z) z)) (n (o57 P) (n (o89 P) (n (o153 P) z z) z) (n (o121 P) (n (o185 P) z z) z)))) (n (o13 P) (n (o21 P) (n (o37 P) (n (o69 P) (n (o133 P) z z) z) (n (o101 P) (n (o165 P) z z) z)) (n (o53 P) (n (o85 P) (n (o149 P) z z) z) (n (o117 P) (n (o181 P) z z) z))) (n (o29 P) (n (o45 P) (n (o77 P) (n (o141 P) z z) z) (n (o109 P) (n (o173 P) z z) z)) (n (o61 P) (n (o93 P) (n (o157 P) z z) z) (n (o125 P) (n (o189 P) z z) z)))))) (n (o2_2 P) (n (o4 P) (n (o8 P) (n (o16 P) (n (o32 P) (n (o64 P) (n (o128 P) z z) (n (o192 P) z z)) (n (o96 P) (n (o160 P) z z) z)) (n (o48 P) (n (o80 P) (n (o144 P) z z) z) (n (o112 P) (n (o176 P) z z) z))) (n (o24 P) (n (o40_2 P) (n (o72 P) (n (o136 P) z z) z) (n (o104 P) (n (o168 P) z z) z)) (n (o56 P) (n (o88 P) (n (o152 P) z z) z) (n (o120 P) (n (o184 P) z z) z)))) (n (o12_0 P) (n (o20 P) (n (o36 P) (n (o68 P) (n (o132 P) z z) (n (o196 P) z z)) (n (o100 P) (n (o164 P) z z) z)) (n (o52 P) (n (o84 P) (n (o148 P) z z) z) (n (o116 P) (n (o180 P) z z) z))) (n (o28 P) (n (o44 P) (n (o76 P) (n (o140 P) z z) z) (n (o108 P) (n (o172 P) z z) z)) (n (o60 P) (n (o92 P) (n (o156 P) z z) z) (n (o124 P) (n (o188 P) z z) z))))) (n (o6 P) (n (o10 P) (n (o18 P) (n (o34 P) (n (o66 P) (n (o130 P) z z) (n (o194 P) z z)) (n (o98 P) (n (o162 P) z z) z)) (n (o50 P) (n (o82 P) (n (o146 P) z z) z) (n (o114 P) (n (o178 P) z z) z))) (n (o26 P) (n (o42 P) (n (o74 P) (n (o138 P) z z) z) (n (o106 P) (n (o170 P) z z) z)) (n (o58 P) (n (o90 P) (n (o154 P) z z) z) (n (o122 P) (n (o186 P) z z) z)))) (n (o14 P) (n (o22 P) (n (o38 P) (n (o70 P) (n (o134 P) z z) z) (n (o102 P) (n (o166 P) z z) z)) (n (o54 P) (n (o86 P) (n (o150 P) z z) z) (n (o118 P) (n (o182 P) z z) z))) (n (o30 P) (n (o46 P) (n (o78 P) (n (o142 P) z z) z) (n (o110 P) (n (o174 P) z z) z)) (n (o62 P) (n (o94 P) (n (o158 P) z z) z) (n (o126 P) (n (o190 P) z z) z)))))))
noncomputable def X2 (w : World) (os : OsState) : SharedT := ⟨t2 w.params, 197, {}, #[], {}, 588, os⟩
noncomputable def o3_3 (P : Params) : Obj := ⟨(.type "dict"), none, (.dict #[k P "__name__" 165 (.str (s "likepanes.factors") 827), k P "__doc__" 166 .none, k P "__package__" 167 .none, k P "__loader__" 168 (.builtin "__main__.__loader__#opaque"), k P "__spec__" 169 .none, k P "__annotations__" 170 (.ref 6), k P "__builtins__" 171 (.ref 4), k P "__file__" 173 (.str (s "/claim/cut.py") 172), k P "__cached__" 174 .none, k P "gcd" 370 (.builtin "math.gcd"), k P "isqrt" 373 (.builtin "math.isqrt"), k P "_wall" 386 (.ref 49), k P "BadValue" 406 (.ref 59), k P "InvalidText" 431 (.ref 79), k P "InvalidFraction" 456 (.ref 98), k P "NotAShape" 481 (.ref 117), k P "InvalidEquation" 506 (.ref 136), k P "NoAnswer" 526 (.ref 148), k P "NoRoot" 549 (.ref 168), k P "TooMany" 574 (.ref 187), k P "MOST_DEGREE" 576 (.int (5) 575), k P "MOST_TERM" 578 (.int (1000) 577), k P "is_integer" 587 (.ref 196), k P "are_integers" 593 (.ref 201), k P "is_fraction" 602 (.ref 208), k P "is_below" 610 (.ref 215), k P "is_term" 617 (.ref 222), k P "wrong_term" 627 (.ref 229), k P "trimmed" 637 (.ref 236), k P "common_divisor" 646 (.ref 243), k P "primitive" 652 (.ref 248), k P "negative" 658 (.ref 253), k P "derivative" 664 (.ref 258), k P "value_at" 676 (.ref 265), k P "combined" 690 (.ref 272), k P "remainder" 700 (.ref 279), k P "divided" 715 (.ref 286), k P "FIRST_BITS" 719 (.int (64) 718), k P "sturm_chain" 727 (.ref 293), k P "changes" 733 (.ref 298), k P "reach" 739 (.ref 303), k P "roots_up_to" 748 (.ref 310), k P "roots_in_all" 755 (.ref 317), k P "roots_within" 766 (.ref 324), k P "rank_of_last" 774 (.ref 331), k P "stretch_of" 785 (.ref 338), k P "lonely_stretch" 798 (.ref 345), k P "refined" 810 (.ref 352), k P "guessed" 826 (.ref 359), k P "is_least" 835 (.ref 366), k P "factors_of" 845 (.ref 373), k P "least_factor" 853 (.ref 380), k P "divisors" 859 (.ref 385), k P "linear_factor" 870 (.ref 392), k P "quadratic_factor" 883 (.ref 399)] 55), #[]⟩
noncomputable def o40_3 (P : Params) : Obj := ⟨.none, none, (.fields #[(.int (2) 0), (.int (0) 0), (.ref 48), (.int (6) 0), (.int (0) 0), (.ref 55), (.int (8) 0), (.int (0) 0), (.ref 68), (.int (13) 0), (.int (0) 0), (.ref 87), (.int (18) 0), (.int (0) 0), (.ref 106), (.int (23) 0), (.int (0) 0), (.ref 125), (.int (28) 0), (.int (0) 0), (.ref 144), (.int (30) 0), (.int (0) 0), (.ref 157), (.int (34) 0), (.int (0) 0), (.ref 176), (.int (42) 0), (.int (0) 0), (.ref 195), (.int (44) 0), (.int (0) 0), (.ref 200), (.int (46) 0), (.int (0) 0), (.ref 207), (.int (51) 0), (.int (0) 0), (.ref 214), (.int (53) 0), (.int (0) 0), (.ref 221), (.int (55) 0), (.int (0) 0), (.ref 228), (.int (62) 0), (.int (0) 0), (.ref 235), (.int (67) 0), (.int (0) 0), (.ref 242), (.int (72) 0), (.int (0) 0), (.ref 247), (.int (75) 0), (.int (0) 0), (.ref 252), (.int (77) 0), (.int (0) 0), (.ref 257), (.int (79) 0), (.int (0) 0), (.ref 264), (.int (85) 0), (.int (0) 0), (.ref 271), (.int (92) 0), (.int (0) 0), (.ref 278), (.int (98) 0), (.int (0) 0), (.ref 285), (.int (114) 0), (.int (0) 0), (.ref 292), (.int (120) 0), (.int (0) 0), (.ref 297), (.int (124) 0), (.int (0) 0), (.ref 302), (.int (126) 0), (.int (0) 0), (.ref 309), (.int (128) 0), (.int (0) 0), (.ref 316), (.int (130) 0), (.int (0) 0), (.ref 323), (.int (136) 0), (.int (0) 0), (.ref 330), (.int (138) 0), (.int (0) 0), (.ref 337), (.int (142) 0), (.int (0) 0), (.ref 344), (.int (154) 0), (.int (0) 0), (.ref 351), (.int (166) 0), (.int (0) 0), (.ref 358), (.int (179) 0), (.int (0) 0), (.ref 365), (.int (183) 0), (.int (0) 0), (.ref 372), (.int (194) 0), (.int (0) 0), (.ref 379), (.int (201) 0), (.int (0) 0), (.ref 384), (.int (203) 0), (.int (0) 0), (.ref 391), (.int (215) 0), (.int (0) 0), (.ref 398)]), #[]⟩
noncomputable def o197 (P : Params) : Obj := ⟨(.type "tuple"), none, (.seq #[] 0), #[]⟩
noncomputable def o198 (P : Params) : Obj := ⟨.none, none, (.fields #[]), #[]⟩
noncomputable def o199 (P : Params) : Obj := ⟨.none, none, (.func (fn (hT 15) (s "are_integers") (s "are_integers") 0 [] .none .none .none .none none .none .none 0)), #[]⟩
noncomputable def o200 (P : Params) : Obj := ⟨(.type "code"), none, (.fields #[(.str (s "are_integers") 588), (.str (s "are_integers") 589), (.str (s "/claim/cut.py") 590), (.int (44) 0), (.int (1) 0), (.int (0) 0), (.int (0) 0), (.int (3) 0), (.ref 197), (.bool true), (.int (374) 0), (.ref 198), .none, .none, .none, (.ref 199), (.int (591) 0), (.int (44) 0), (.str (s "/claim/cut.py") 592)]), #[]⟩
noncomputable def o201 (P : Params) : Obj := ⟨(.type "function"), none, (.func (fn (hT 15) (s "are_integers") (s "are_integers") 3 [] .none .none .none (.str (s "likepanes.kinds") 579) none (.ref 200) .none 0)), #[]⟩
noncomputable def o202 (P : Params) : Obj := ⟨(.type "tuple"), none, (.seq #[] 0), #[]⟩
noncomputable def o203 (P : Params) : Obj := ⟨.none, none, (.fields #[]), #[]⟩
noncomputable def o204 (P : Params) : Obj := ⟨(.type "tuple"), none, (.seq #[(.str (s "value") 597), (.str (s "top") 598), (.str (s "bottom") 599)] 0), #[]⟩
noncomputable def o205 (P : Params) : Obj := ⟨(.type "tuple"), none, (.seq #[] 0), #[]⟩
noncomputable def o206 (P : Params) : Obj := ⟨.none, none, (.func (fn (hT 16) (s "is_fraction") (s "is_fraction") 0 [] .none .none .none .none none .none .none 0)), #[]⟩
noncomputable def o207 (P : Params) : Obj := ⟨(.type "code"), none, (.fields #[(.str (s "is_fraction") 594), (.str (s "is_fraction") 595), (.str (s "/claim/cut.py") 596), (.int (46) 0), (.int (1) 0), (.int (0) 0), (.int (0) 0), (.int (3) 0), (.ref 202), (.bool true), (.int (374) 0), (.ref 203), .none, (.ref 204), (.ref 205), (.ref 206), (.int (600) 0), (.int (46) 0), (.str (s "/claim/cut.py") 601)]), #[]⟩
noncomputable def o208 (P : Params) : Obj := ⟨(.type "function"), none, (.func (fn (hT 16) (s "is_fraction") (s "is_fraction") 3 [] .none .none .none (.str (s "likepanes.kinds") 579) none (.ref 207) .none 0)), #[]⟩
noncomputable def o209 (P : Params) : Obj := ⟨(.type "tuple"), none, (.seq #[] 0), #[]⟩
noncomputable def o210 (P : Params) : Obj := ⟨.none, none, (.fields #[]), #[]⟩
noncomputable def o211 (P : Params) : Obj := ⟨(.type "tuple"), none, (.seq #[(.str (s "one") 606), (.str (s "other") 607)] 0), #[]⟩
noncomputable def o212 (P : Params) : Obj := ⟨(.type "tuple"), none, (.seq #[] 0), #[]⟩
noncomputable def o213 (P : Params) : Obj := ⟨.none, none, (.func (fn (hT 17) (s "is_below") (s "is_below") 0 [] .none .none .none .none none .none .none 0)), #[]⟩
noncomputable def o214 (P : Params) : Obj := ⟨(.type "code"), none, (.fields #[(.str (s "is_below") 603), (.str (s "is_below") 604), (.str (s "/claim/cut.py") 605), (.int (51) 0), (.int (2) 0), (.int (0) 0), (.int (0) 0), (.int (3) 0), (.ref 209), (.bool true), (.int (374) 0), (.ref 210), .none, (.ref 211), (.ref 212), (.ref 213), (.int (608) 0), (.int (51) 0), (.str (s "/claim/cut.py") 609)]), #[]⟩
noncomputable def o215 (P : Params) : Obj := ⟨(.type "function"), none, (.func (fn (hT 17) (s "is_below") (s "is_below") 3 [] .none .none .none (.str (s "likepanes.kinds") 579) none (.ref 214) .none 0)), #[]⟩
noncomputable def o216 (P : Params) : Obj := ⟨(.type "tuple"), none, (.seq #[] 0), #[]⟩
noncomputable def o217 (P : Params) : Obj := ⟨.none, none, (.fields #[]), #[]⟩
noncomputable def o218 (P : Params) : Obj := ⟨(.type "tuple"), none, (.seq #[(.str (s "value") 614)] 0), #[]⟩
noncomputable def o219 (P : Params) : Obj := ⟨(.type "tuple"), none, (.seq #[] 0), #[]⟩
noncomputable def o220 (P : Params) : Obj := ⟨.none, none, (.func (fn (hT 18) (s "is_term") (s "is_term") 0 [] .none .none .none .none none .none .none 0)), #[]⟩
noncomputable def o221 (P : Params) : Obj := ⟨(.type "code"), none, (.fields #[(.str (s "is_term") 611), (.str (s "is_term") 612), (.str (s "/claim/cut.py") 613), (.int (53) 0), (.int (1) 0), (.int (0) 0), (.int (0) 0), (.int (3) 0), (.ref 216), (.bool true), (.int (374) 0), (.ref 217), .none, (.ref 218), (.ref 219), (.ref 220), (.int (615) 0), (.int (53) 0), (.str (s "/claim/cut.py") 616)]), #[]⟩
noncomputable def o222 (P : Params) : Obj := ⟨(.type "function"), none, (.func (fn (hT 18) (s "is_term") (s "is_term") 3 [] .none .none .none (.str (s "likepanes.kinds") 579) none (.ref 221) .none 0)), #[]⟩
noncomputable def o223 (P : Params) : Obj := ⟨(.type "tuple"), none, (.seq #[] 0), #[]⟩
noncomputable def o224 (P : Params) : Obj := ⟨.none, none, (.fields #[]), #[]⟩
noncomputable def o225 (P : Params) : Obj := ⟨(.type "tuple"), none, (.seq #[(.str (s "equation") 621), (.str (s "at") 622), (.str (s "term") 623), (.str (s "last") 624)] 0), #[]⟩
noncomputable def o226 (P : Params) : Obj := ⟨(.type "tuple"), none, (.seq #[] 0), #[]⟩
noncomputable def o227 (P : Params) : Obj := ⟨.none, none, (.func (fn (hT 19) (s "wrong_term") (s "wrong_term") 0 [] .none .none .none .none none .none .none 0)), #[]⟩
noncomputable def o228 (P : Params) : Obj := ⟨(.type "code"), none, (.fields #[(.str (s "wrong_term") 618), (.str (s "wrong_term") 619), (.str (s "/claim/cut.py") 620), (.int (55) 0), (.int (1) 0), (.int (0) 0), (.int (0) 0), (.int (3) 0), (.ref 223), (.bool true), (.int (374) 0), (.ref 224), .none, (.ref 225), (.ref 226), (.ref 227), (.int (625) 0), (.int (55) 0), (.str (s "/claim/cut.py") 626)]), #[]⟩
noncomputable def o229 (P : Params) : Obj := ⟨(.type "function"), none, (.func (fn (hT 19) (s "wrong_term") (s "wrong_term") 3 [] .none .none .none (.str (s "likepanes.kinds") 579) none (.ref 228) .none 0)), #[]⟩
noncomputable def o230 (P : Params) : Obj := ⟨(.type "tuple"), none, (.seq #[] 0), #[]⟩
noncomputable def o231 (P : Params) : Obj := ⟨.none, none, (.fields #[]), #[]⟩
noncomputable def o232 (P : Params) : Obj := ⟨(.type "tuple"), none, (.seq #[(.str (s "terms") 633), (.str (s "many") 634)] 0), #[]⟩
noncomputable def o233 (P : Params) : Obj := ⟨(.type "tuple"), none, (.seq #[] 0), #[]⟩
noncomputable def o234 (P : Params) : Obj := ⟨.none, none, (.func (fn (hT 21) (s "trimmed") (s "trimmed") 0 [] .none .none .none .none none .none .none 0)), #[]⟩
noncomputable def o235 (P : Params) : Obj := ⟨(.type "code"), none, (.fields #[(.str (s "trimmed") 630), (.str (s "trimmed") 631), (.str (s "/claim/cut.py") 632), (.int (62) 0), (.int (1) 0), (.int (0) 0), (.int (0) 0), (.int (3) 0), (.ref 230), (.bool true), (.int (374) 0), (.ref 231), .none, (.ref 232), (.ref 233), (.ref 234), (.int (635) 0), (.int (62) 0), (.str (s "/claim/cut.py") 636)]), #[]⟩
noncomputable def o236 (P : Params) : Obj := ⟨(.type "function"), none, (.func (fn (hT 21) (s "trimmed") (s "trimmed") 3 [] .none .none .none (.str (s "likepanes.terms") 628) none (.ref 235) .none 0)), #[]⟩
noncomputable def o237 (P : Params) : Obj := ⟨(.type "tuple"), none, (.seq #[] 0), #[]⟩
noncomputable def o238 (P : Params) : Obj := ⟨.none, none, (.fields #[]), #[]⟩
noncomputable def o239 (P : Params) : Obj := ⟨(.type "tuple"), none, (.seq #[(.str (s "terms") 641), (.str (s "common") 642), (.str (s "term") 643)] 0), #[]⟩
noncomputable def o240 (P : Params) : Obj := ⟨(.type "tuple"), none, (.seq #[] 0), #[]⟩
noncomputable def o241 (P : Params) : Obj := ⟨.none, none, (.func (fn (hT 22) (s "common_divisor") (s "common_divisor") 0 [] .none .none .none .none none .none .none 0)), #[]⟩
noncomputable def o242 (P : Params) : Obj := ⟨(.type "code"), none, (.fields #[(.str (s "common_divisor") 638), (.str (s "common_divisor") 639), (.str (s "/claim/cut.py") 640), (.int (67) 0), (.int (1) 0), (.int (0) 0), (.int (0) 0), (.int (3) 0), (.ref 237), (.bool true), (.int (374) 0), (.ref 238), .none, (.ref 239), (.ref 240), (.ref 241), (.int (644) 0), (.int (67) 0), (.str (s "/claim/cut.py") 645)]), #[]⟩
noncomputable def o243 (P : Params) : Obj := ⟨(.type "function"), none, (.func (fn (hT 22) (s "common_divisor") (s "common_divisor") 3 [] .none .none .none (.str (s "likepanes.terms") 628) none (.ref 242) .none 0)), #[]⟩
noncomputable def o244 (P : Params) : Obj := ⟨(.type "tuple"), none, (.seq #[] 0), #[]⟩
noncomputable def o245 (P : Params) : Obj := ⟨.none, none, (.fields #[]), #[]⟩
noncomputable def o246 (P : Params) : Obj := ⟨.none, none, (.func (fn (hT 23) (s "primitive") (s "primitive") 0 [] .none .none .none .none none .none .none 0)), #[]⟩
noncomputable def o247 (P : Params) : Obj := ⟨(.type "code"), none, (.fields #[(.str (s "primitive") 647), (.str (s "primitive") 648), (.str (s "/claim/cut.py") 649), (.int (72) 0), (.int (1) 0), (.int (0) 0), (.int (0) 0), (.int (3) 0), (.ref 244), (.bool true), (.int (374) 0), (.ref 245), .none, .none, .none, (.ref 246), (.int (650) 0), (.int (72) 0), (.str (s "/claim/cut.py") 651)]), #[]⟩
noncomputable def o248 (P : Params) : Obj := ⟨(.type "function"), none, (.func (fn (hT 23) (s "primitive") (s "primitive") 3 [] .none .none .none (.str (s "likepanes.terms") 628) none (.ref 247) .none 0)), #[]⟩
noncomputable def o249 (P : Params) : Obj := ⟨(.type "tuple"), none, (.seq #[] 0), #[]⟩
noncomputable def o250 (P : Params) : Obj := ⟨.none, none, (.fields #[]), #[]⟩
noncomputable def o251 (P : Params) : Obj := ⟨.none, none, (.func (fn (hT 24) (s "negative") (s "negative") 0 [] .none .none .none .none none .none .none 0)), #[]⟩
noncomputable def o252 (P : Params) : Obj := ⟨(.type "code"), none, (.fields #[(.str (s "negative") 653), (.str (s "negative") 654), (.str (s "/claim/cut.py") 655), (.int (75) 0), (.int (1) 0), (.int (0) 0), (.int (0) 0), (.int (3) 0), (.ref 249), (.bool true), (.int (374) 0), (.ref 250), .none, .none, .none, (.ref 251), (.int (656) 0), (.int (75) 0), (.str (s "/claim/cut.py") 657)]), #[]⟩
noncomputable def o253 (P : Params) : Obj := ⟨(.type "function"), none, (.func (fn (hT 24) (s "negative") (s "negative") 3 [] .none .none .none (.str (s "likepanes.terms") 628) none (.ref 252) .none 0)), #[]⟩
noncomputable def o254 (P : Params) : Obj := ⟨(.type "tuple"), none, (.seq #[] 0), #[]⟩
noncomputable def o255 (P : Params) : Obj := ⟨.none, none, (.fields #[]), #[]⟩
noncomputable def o256 (P : Params) : Obj := ⟨.none, none, (.func (fn (hT 25) (s "derivative") (s "derivative") 0 [] .none .none .none .none none .none .none 0)), #[]⟩
noncomputable def o257 (P : Params) : Obj := ⟨(.type "code"), none, (.fields #[(.str (s "derivative") 659), (.str (s "derivative") 660), (.str (s "/claim/cut.py") 661), (.int (77) 0), (.int (1) 0), (.int (0) 0), (.int (0) 0), (.int (3) 0), (.ref 254), (.bool true), (.int (374) 0), (.ref 255), .none, .none, .none, (.ref 256), (.int (662) 0), (.int (77) 0), (.str (s "/claim/cut.py") 663)]), #[]⟩
noncomputable def o258 (P : Params) : Obj := ⟨(.type "function"), none, (.func (fn (hT 25) (s "derivative") (s "derivative") 3 [] .none .none .none (.str (s "likepanes.terms") 628) none (.ref 257) .none 0)), #[]⟩
noncomputable def o259 (P : Params) : Obj := ⟨(.type "tuple"), none, (.seq #[] 0), #[]⟩
noncomputable def o260 (P : Params) : Obj := ⟨.none, none, (.fields #[]), #[]⟩
noncomputable def o261 (P : Params) : Obj := ⟨(.type "tuple"), none, (.seq #[(.str (s "terms") 668), (.str (s "top") 669), (.str (s "bottom") 670), (.str (s "value") 671), (.str (s "scale") 672), (.str (s "term") 673)] 0), #[]⟩
noncomputable def o262 (P : Params) : Obj := ⟨(.type "tuple"), none, (.seq #[] 0), #[]⟩
noncomputable def o263 (P : Params) : Obj := ⟨.none, none, (.func (fn (hT 26) (s "value_at") (s "value_at") 0 [] .none .none .none .none none .none .none 0)), #[]⟩
noncomputable def o264 (P : Params) : Obj := ⟨(.type "code"), none, (.fields #[(.str (s "value_at") 665), (.str (s "value_at") 666), (.str (s "/claim/cut.py") 667), (.int (79) 0), (.int (3) 0), (.int (0) 0), (.int (0) 0), (.int (3) 0), (.ref 259), (.bool true), (.int (374) 0), (.ref 260), .none, (.ref 261), (.ref 262), (.ref 263), (.int (674) 0), (.int (79) 0), (.str (s "/claim/cut.py") 675)]), #[]⟩
noncomputable def o265 (P : Params) : Obj := ⟨(.type "function"), none, (.func (fn (hT 26) (s "value_at") (s "value_at") 3 [] .none .none .none (.str (s "likepanes.terms") 628) none (.ref 264) .none 0)), #[]⟩
noncomputable def o266 (P : Params) : Obj := ⟨(.type "tuple"), none, (.seq #[] 0), #[]⟩
noncomputable def o267 (P : Params) : Obj := ⟨.none, none, (.fields #[]), #[]⟩
noncomputable def o268 (P : Params) : Obj := ⟨(.type "tuple"), none, (.seq #[(.str (s "factor") 680), (.str (s "one") 681), (.str (s "weight") 682), (.str (s "other") 683), (.str (s "shift") 684), (.str (s "result") 685), (.str (s "at") 686), (.str (s "term") 687)] 0), #[]⟩
noncomputable def o269 (P : Params) : Obj := ⟨(.type "tuple"), none, (.seq #[] 0), #[]⟩
noncomputable def o270 (P : Params) : Obj := ⟨.none, none, (.func (fn (hT 27) (s "combined") (s "combined") 0 [] .none .none .none .none none .none .none 0)), #[]⟩
noncomputable def o271 (P : Params) : Obj := ⟨(.type "code"), none, (.fields #[(.str (s "combined") 677), (.str (s "combined") 678), (.str (s "/claim/cut.py") 679), (.int (85) 0), (.int (5) 0), (.int (0) 0), (.int (0) 0), (.int (3) 0), (.ref 266), (.bool true), (.int (374) 0), (.ref 267), .none, (.ref 268), (.ref 269), (.ref 270), (.int (688) 0), (.int (85) 0), (.str (s "/claim/cut.py") 689)]), #[]⟩
noncomputable def o272 (P : Params) : Obj := ⟨(.type "function"), none, (.func (fn (hT 27) (s "combined") (s "combined") 3 [] .none .none .none (.str (s "likepanes.terms") 628) none (.ref 271) .none 0)), #[]⟩
noncomputable def o273 (P : Params) : Obj := ⟨(.type "tuple"), none, (.seq #[] 0), #[]⟩
noncomputable def o274 (P : Params) : Obj := ⟨.none, none, (.fields #[]), #[]⟩
noncomputable def o275 (P : Params) : Obj := ⟨(.type "tuple"), none, (.seq #[(.str (s "one") 694), (.str (s "other") 695), (.str (s "factor") 696), (.str (s "weight") 697)] 0), #[]⟩
noncomputable def o276 (P : Params) : Obj := ⟨(.type "tuple"), none, (.seq #[] 0), #[]⟩
noncomputable def o277 (P : Params) : Obj := ⟨.none, none, (.func (fn (hT 28) (s "remainder") (s "remainder") 0 [] .none .none .none .none none .none .none 0)), #[]⟩
noncomputable def o278 (P : Params) : Obj := ⟨(.type "code"), none, (.fields #[(.str (s "remainder") 691), (.str (s "remainder") 692), (.str (s "/claim/cut.py") 693), (.int (92) 0), (.int (2) 0), (.int (0) 0), (.int (0) 0), (.int (3) 0), (.ref 273), (.bool true), (.int (374) 0), (.ref 274), .none, (.ref 275), (.ref 276), (.ref 277), (.int (698) 0), (.int (92) 0), (.str (s "/claim/cut.py") 699)]), #[]⟩
noncomputable def o279 (P : Params) : Obj := ⟨(.type "function"), none, (.func (fn (hT 28) (s "remainder") (s "remainder") 3 [] .none .none .none (.str (s "likepanes.terms") 628) none (.ref 278) .none 0)), #[]⟩
noncomputable def o280 (P : Params) : Obj := ⟨(.type "tuple"), none, (.seq #[] 0), #[]⟩
noncomputable def o281 (P : Params) : Obj := ⟨.none, none, (.fields #[]), #[]⟩
noncomputable def o282 (P : Params) : Obj := ⟨(.type "tuple"), none, (.seq #[(.str (s "one") 704), (.str (s "other") 705), (.str (s "rest") 706), (.str (s "found") 707), (.str (s "factor") 708), (.str (s "left") 709), (.str (s "shift") 710), (.str (s "at") 711), (.str (s "term") 712)] 0), #[]⟩
noncomputable def o283 (P : Params) : Obj := ⟨(.type "tuple"), none, (.seq #[] 0), #[]⟩
noncomputable def o284 (P : Params) : Obj := ⟨.none, none, (.func (fn (hT 29) (s "divided") (s "divided") 0 [] .none .none .none .none none .none .none 0)), #[]⟩
noncomputable def o285 (P : Params) : Obj := ⟨(.type "code"), none, (.fields #[(.str (s "divided") 701), (.str (s "divided") 702), (.str (s "/claim/cut.py") 703), (.int (98) 0), (.int (2) 0), (.int (0) 0), (.int (0) 0), (.int (3) 0), (.ref 280), (.bool true), (.int (374) 0), (.ref 281), .none, (.ref 282), (.ref 283), (.ref 284), (.int (713) 0), (.int (98) 0), (.str (s "/claim/cut.py") 714)]), #[]⟩
noncomputable def o286 (P : Params) : Obj := ⟨(.type "function"), none, (.func (fn (hT 29) (s "divided") (s "divided") 3 [] .none .none .none (.str (s "likepanes.terms") 628) none (.ref 285) .none 0)), #[]⟩
noncomputable def o287 (P : Params) : Obj := ⟨(.type "tuple"), none, (.seq #[] 0), #[]⟩
noncomputable def o288 (P : Params) : Obj := ⟨.none, none, (.fields #[]), #[]⟩
noncomputable def o289 (P : Params) : Obj := ⟨(.type "tuple"), none, (.seq #[(.str (s "terms") 723), (.str (s "chain") 724)] 0), #[]⟩
noncomputable def o290 (P : Params) : Obj := ⟨(.type "tuple"), none, (.seq #[] 0), #[]⟩
noncomputable def o291 (P : Params) : Obj := ⟨.none, none, (.func (fn (hT 32) (s "sturm_chain") (s "sturm_chain") 0 [] .none .none .none .none none .none .none 0)), #[]⟩
noncomputable def o292 (P : Params) : Obj := ⟨(.type "code"), none, (.fields #[(.str (s "sturm_chain") 720), (.str (s "sturm_chain") 721), (.str (s "/claim/cut.py") 722), (.int (114) 0), (.int (1) 0), (.int (0) 0), (.int (0) 0), (.int (3) 0), (.ref 287), (.bool true), (.int (374) 0), (.ref 288), .none, (.ref 289), (.ref 290), (.ref 291), (.int (725) 0), (.int (114) 0), (.str (s "/claim/cut.py") 726)]), #[]⟩
noncomputable def o293 (P : Params) : Obj := ⟨(.type "function"), none, (.func (fn (hT 32) (s "sturm_chain") (s "sturm_chain") 3 [] .none .none .none (.str (s "likepanes.roots") 716) none (.ref 292) .none 0)), #[]⟩
noncomputable def o294 (P : Params) : Obj := ⟨(.type "tuple"), none, (.seq #[] 0), #[]⟩
noncomputable def o295 (P : Params) : Obj := ⟨.none, none, (.fields #[]), #[]⟩
noncomputable def o296 (P : Params) : Obj := ⟨.none, none, (.func (fn (hT 33) (s "changes") (s "changes") 0 [] .none .none .none .none none .none .none 0)), #[]⟩
noncomputable def o297 (P : Params) : Obj := ⟨(.type "code"), none, (.fields #[(.str (s "changes") 728), (.str (s "changes") 729), (.str (s "/claim/cut.py") 730), (.int (120) 0), (.int (3) 0), (.int (0) 0), (.int (0) 0), (.int (3) 0), (.ref 294), (.bool true), (.int (374) 0), (.ref 295), .none, .none, .none, (.ref 296), (.int (731) 0), (.int (120) 0), (.str (s "/claim/cut.py") 732)]), #[]⟩
noncomputable def o298 (P : Params) : Obj := ⟨(.type "function"), none, (.func (fn (hT 33) (s "changes") (s "changes") 3 [] .none .none .none (.str (s "likepanes.roots") 716) none (.ref 297) .none 0)), #[]⟩
noncomputable def o299 (P : Params) : Obj := ⟨(.type "tuple"), none, (.seq #[] 0), #[]⟩
noncomputable def o300 (P : Params) : Obj := ⟨.none, none, (.fields #[]), #[]⟩
noncomputable def o301 (P : Params) : Obj := ⟨.none, none, (.func (fn (hT 34) (s "reach") (s "reach") 0 [] .none .none .none .none none .none .none 0)), #[]⟩
noncomputable def o302 (P : Params) : Obj := ⟨(.type "code"), none, (.fields #[(.str (s "reach") 734), (.str (s "reach") 735), (.str (s "/claim/cut.py") 736), (.int (124) 0), (.int (1) 0), (.int (0) 0), (.int (0) 0), (.int (3) 0), (.ref 299), (.bool true), (.int (374) 0), (.ref 300), .none, .none, .none, (.ref 301), (.int (737) 0), (.int (124) 0), (.str (s "/claim/cut.py") 738)]), #[]⟩
noncomputable def o303 (P : Params) : Obj := ⟨(.type "function"), none, (.func (fn (hT 34) (s "reach") (s "reach") 3 [] .none .none .none (.str (s "likepanes.roots") 716) none (.ref 302) .none 0)), #[]⟩
noncomputable def o304 (P : Params) : Obj := ⟨(.type "tuple"), none, (.seq #[] 0), #[]⟩
noncomputable def o305 (P : Params) : Obj := ⟨.none, none, (.fields #[]), #[]⟩
noncomputable def o306 (P : Params) : Obj := ⟨(.type "tuple"), none, (.seq #[(.str (s "chain") 743), (.str (s "top") 744), (.str (s "bottom") 745)] 0), #[]⟩
noncomputable def o307 (P : Params) : Obj := ⟨(.type "tuple"), none, (.seq #[] 0), #[]⟩
noncomputable def o308 (P : Params) : Obj := ⟨.none, none, (.func (fn (hT 35) (s "roots_up_to") (s "roots_up_to") 0 [] .none .none .none .none none .none .none 0)), #[]⟩
noncomputable def o309 (P : Params) : Obj := ⟨(.type "code"), none, (.fields #[(.str (s "roots_up_to") 740), (.str (s "roots_up_to") 741), (.str (s "/claim/cut.py") 742), (.int (126) 0), (.int (3) 0), (.int (0) 0), (.int (0) 0), (.int (3) 0), (.ref 304), (.bool true), (.int (374) 0), (.ref 305), .none, (.ref 306), (.ref 307), (.ref 308), (.int (746) 0), (.int (126) 0), (.str (s "/claim/cut.py") 747)]), #[]⟩
noncomputable def o310 (P : Params) : Obj := ⟨(.type "function"), none, (.func (fn (hT 35) (s "roots_up_to") (s "roots_up_to") 3 [] .none .none .none (.str (s "likepanes.roots") 716) none (.ref 309) .none 0)), #[]⟩
noncomputable def o311 (P : Params) : Obj := ⟨(.type "tuple"), none, (.seq #[] 0), #[]⟩
noncomputable def o312 (P : Params) : Obj := ⟨.none, none, (.fields #[]), #[]⟩
noncomputable def o313 (P : Params) : Obj := ⟨(.type "tuple"), none, (.seq #[(.str (s "chain") 752)] 0), #[]⟩
noncomputable def o314 (P : Params) : Obj := ⟨(.type "tuple"), none, (.seq #[] 0), #[]⟩
noncomputable def o315 (P : Params) : Obj := ⟨.none, none, (.func (fn (hT 36) (s "roots_in_all") (s "roots_in_all") 0 [] .none .none .none .none none .none .none 0)), #[]⟩
noncomputable def o316 (P : Params) : Obj := ⟨(.type "code"), none, (.fields #[(.str (s "roots_in_all") 749), (.str (s "roots_in_all") 750), (.str (s "/claim/cut.py") 751), (.int (128) 0), (.int (1) 0), (.int (0) 0), (.int (0) 0), (.int (3) 0), (.ref 311), (.bool true), (.int (374) 0), (.ref 312), .none, (.ref 313), (.ref 314), (.ref 315), (.int (753) 0), (.int (128) 0), (.str (s "/claim/cut.py") 754)]), #[]⟩
noncomputable def o317 (P : Params) : Obj := ⟨(.type "function"), none, (.func (fn (hT 36) (s "roots_in_all") (s "roots_in_all") 3 [] .none .none .none (.str (s "likepanes.roots") 716) none (.ref 316) .none 0)), #[]⟩
noncomputable def o318 (P : Params) : Obj := ⟨(.type "tuple"), none, (.seq #[] 0), #[]⟩
noncomputable def o319 (P : Params) : Obj := ⟨.none, none, (.fields #[]), #[]⟩
noncomputable def o320 (P : Params) : Obj := ⟨(.type "tuple"), none, (.seq #[(.str (s "terms") 759), (.str (s "low") 760), (.str (s "high") 761), (.str (s "chain") 762), (.str (s "many") 763)] 0), #[]⟩
noncomputable def o321 (P : Params) : Obj := ⟨(.type "tuple"), none, (.seq #[] 0), #[]⟩
noncomputable def o322 (P : Params) : Obj := ⟨.none, none, (.func (fn (hT 37) (s "roots_within") (s "roots_within") 0 [] .none .none .none .none none .none .none 0)), #[]⟩
noncomputable def o323 (P : Params) : Obj := ⟨(.type "code"), none, (.fields #[(.str (s "roots_within") 756), (.str (s "roots_within") 757), (.str (s "/claim/cut.py") 758), (.int (130) 0), (.int (3) 0), (.int (0) 0), (.int (0) 0), (.int (3) 0), (.ref 318), (.bool true), (.int (374) 0), (.ref 319), .none, (.ref 320), (.ref 321), (.ref 322), (.int (764) 0), (.int (130) 0), (.str (s "/claim/cut.py") 765)]), #[]⟩
noncomputable def o324 (P : Params) : Obj := ⟨(.type "function"), none, (.func (fn (hT 37) (s "roots_within") (s "roots_within") 3 [] .none .none .none (.str (s "likepanes.roots") 716) none (.ref 323) .none 0)), #[]⟩
noncomputable def o325 (P : Params) : Obj := ⟨(.type "tuple"), none, (.seq #[] 0), #[]⟩
noncomputable def o326 (P : Params) : Obj := ⟨.none, none, (.fields #[]), #[]⟩
noncomputable def o327 (P : Params) : Obj := ⟨(.type "tuple"), none, (.seq #[(.str (s "terms") 770), (.str (s "high") 771)] 0), #[]⟩
noncomputable def o328 (P : Params) : Obj := ⟨(.type "tuple"), none, (.seq #[] 0), #[]⟩
noncomputable def o329 (P : Params) : Obj := ⟨.none, none, (.func (fn (hT 38) (s "rank_of_last") (s "rank_of_last") 0 [] .none .none .none .none none .none .none 0)), #[]⟩
noncomputable def o330 (P : Params) : Obj := ⟨(.type "code"), none, (.fields #[(.str (s "rank_of_last") 767), (.str (s "rank_of_last") 768), (.str (s "/claim/cut.py") 769), (.int (136) 0), (.int (2) 0), (.int (0) 0), (.int (0) 0), (.int (3) 0), (.ref 325), (.bool true), (.int (374) 0), (.ref 326), .none, (.ref 327), (.ref 328), (.ref 329), (.int (772) 0), (.int (136) 0), (.str (s "/claim/cut.py") 773)]), #[]⟩
noncomputable def o331 (P : Params) : Obj := ⟨(.type "function"), none, (.func (fn (hT 38) (s "rank_of_last") (s "rank_of_last") 3 [] .none .none .none (.str (s "likepanes.roots") 716) none (.ref 330) .none 0)), #[]⟩
noncomputable def o332 (P : Params) : Obj := ⟨(.type "tuple"), none, (.seq #[] 0), #[]⟩
noncomputable def o333 (P : Params) : Obj := ⟨.none, none, (.fields #[]), #[]⟩
noncomputable def o334 (P : Params) : Obj := ⟨(.type "tuple"), none, (.seq #[(.str (s "equation") 778), (.str (s "rank") 779), (.str (s "near") 780), (.str (s "bits") 781), (.str (s "wanted") 782)] 0), #[]⟩
noncomputable def o335 (P : Params) : Obj := ⟨(.type "tuple"), none, (.seq #[] 0), #[]⟩
noncomputable def o336 (P : Params) : Obj := ⟨.none, none, (.func (fn (hT 39) (s "stretch_of") (s "stretch_of") 0 [] .none .none .none .none none .none .none 0)), #[]⟩
noncomputable def o337 (P : Params) : Obj := ⟨(.type "code"), none, (.fields #[(.str (s "stretch_of") 775), (.str (s "stretch_of") 776), (.str (s "/claim/cut.py") 777), (.int (138) 0), (.int (2) 0), (.int (0) 0), (.int (0) 0), (.int (3) 0), (.ref 332), (.bool true), (.int (374) 0), (.ref 333), .none, (.ref 334), (.ref 335), (.ref 336), (.int (783) 0), (.int (138) 0), (.str (s "/claim/cut.py") 784)]), #[]⟩
noncomputable def o338 (P : Params) : Obj := ⟨(.type "function"), none, (.func (fn (hT 39) (s "stretch_of") (s "stretch_of") 3 [] .none .none .none (.str (s "likepanes.roots") 716) none (.ref 337) .none 0)), #[]⟩
noncomputable def o339 (P : Params) : Obj := ⟨(.type "tuple"), none, (.seq #[] 0), #[]⟩
noncomputable def o340 (P : Params) : Obj := ⟨.none, none, (.fields #[]), #[]⟩
noncomputable def o341 (P : Params) : Obj := ⟨(.type "tuple"), none, (.seq #[(.str (s "equation") 789), (.str (s "rank") 790), (.str (s "chain") 791), (.str (s "low") 792), (.str (s "high") 793), (.str (s "bits") 794), (.str (s "middle") 795)] 0), #[]⟩
noncomputable def o342 (P : Params) : Obj := ⟨(.type "tuple"), none, (.seq #[] 0), #[]⟩
noncomputable def o343 (P : Params) : Obj := ⟨.none, none, (.func (fn (hT 40) (s "lonely_stretch") (s "lonely_stretch") 0 [] .none .none .none .none none .none .none 0)), #[]⟩
noncomputable def o344 (P : Params) : Obj := ⟨(.type "code"), none, (.fields #[(.str (s "lonely_stretch") 786), (.str (s "lonely_stretch") 787), (.str (s "/claim/cut.py") 788), (.int (142) 0), (.int (2) 0), (.int (0) 0), (.int (0) 0), (.int (3) 0), (.ref 339), (.bool true), (.int (374) 0), (.ref 340), .none, (.ref 341), (.ref 342), (.ref 343), (.int (796) 0), (.int (142) 0), (.str (s "/claim/cut.py") 797)]), #[]⟩
noncomputable def o345 (P : Params) : Obj := ⟨(.type "function"), none, (.func (fn (hT 40) (s "lonely_stretch") (s "lonely_stretch") 3 [] .none .none .none (.str (s "likepanes.roots") 716) none (.ref 344) .none 0)), #[]⟩
noncomputable def o346 (P : Params) : Obj := ⟨(.type "tuple"), none, (.seq #[] 0), #[]⟩
noncomputable def o347 (P : Params) : Obj := ⟨.none, none, (.fields #[]), #[]⟩
noncomputable def o348 (P : Params) : Obj := ⟨(.type "tuple"), none, (.seq #[(.str (s "equation") 802), (.str (s "near") 803), (.str (s "bits") 804), (.str (s "wanted") 805), (.str (s "step") 806), (.str (s "closer") 807)] 0), #[]⟩
noncomputable def o349 (P : Params) : Obj := ⟨(.type "tuple"), none, (.seq #[] 0), #[]⟩
noncomputable def o350 (P : Params) : Obj := ⟨.none, none, (.func (fn (hT 41) (s "refined") (s "refined") 0 [] .none .none .none .none none .none .none 0)), #[]⟩
noncomputable def o351 (P : Params) : Obj := ⟨(.type "code"), none, (.fields #[(.str (s "refined") 799), (.str (s "refined") 800), (.str (s "/claim/cut.py") 801), (.int (154) 0), (.int (4) 0), (.int (0) 0), (.int (0) 0), (.int (3) 0), (.ref 346), (.bool true), (.int (374) 0), (.ref 347), .none, (.ref 348), (.ref 349), (.ref 350), (.int (808) 0), (.int (154) 0), (.str (s "/claim/cut.py") 809)]), #[]⟩
noncomputable def o352 (P : Params) : Obj := ⟨(.type "function"), none, (.func (fn (hT 41) (s "refined") (s "refined") 3 [] .none .none .none (.str (s "likepanes.roots") 716) none (.ref 351) .none 0)), #[]⟩
noncomputable def o353 (P : Params) : Obj := ⟨(.type "tuple"), none, (.seq #[] 0), #[]⟩
noncomputable def o354 (P : Params) : Obj := ⟨.none, none, (.fields #[]), #[]⟩
noncomputable def o355 (P : Params) : Obj := ⟨(.type "tuple"), none, (.seq #[(.str (s "equation") 814), (.str (s "near") 815), (.str (s "bits") 816), (.str (s "step") 817), (.str (s "low") 818), (.str (s "high") 819), (.str (s "bottom") 820), (.str (s "place") 821), (.str (s "starts") 822), (.str (s "ends") 823)] 0), #[]⟩
noncomputable def o356 (P : Params) : Obj := ⟨(.type "tuple"), none, (.seq #[] 0), #[]⟩
noncomputable def o357 (P : Params) : Obj := ⟨.none, none, (.func (fn (hT 42) (s "guessed") (s "guessed") 0 [] .none .none .none .none none .none .none 0)), #[]⟩
noncomputable def o358 (P : Params) : Obj := ⟨(.type "code"), none, (.fields #[(.str (s "guessed") 811), (.str (s "guessed") 812), (.str (s "/claim/cut.py") 813), (.int (166) 0), (.int (4) 0), (.int (0) 0), (.int (0) 0), (.int (3) 0), (.ref 353), (.bool true), (.int (374) 0), (.ref 354), .none, (.ref 355), (.ref 356), (.ref 357), (.int (824) 0), (.int (166) 0), (.str (s "/claim/cut.py") 825)]), #[]⟩
noncomputable def o359 (P : Params) : Obj := ⟨(.type "function"), none, (.func (fn (hT 42) (s "guessed") (s "guessed") 3 [] .none .none .none (.str (s "likepanes.roots") 716) none (.ref 358) .none 0)), #[]⟩
noncomputable def o360 (P : Params) : Obj := ⟨(.type "tuple"), none, (.seq #[] 0), #[]⟩
noncomputable def o361 (P : Params) : Obj := ⟨.none, none, (.fields #[]), #[]⟩
noncomputable def o362 (P : Params) : Obj := ⟨(.type "tuple"), none, (.seq #[(.str (s "equation") 832)] 0), #[]⟩
noncomputable def o363 (P : Params) : Obj := ⟨(.type "tuple"), none, (.seq #[] 0), #[]⟩
noncomputable def o364 (P : Params) : Obj := ⟨.none, none, (.func (fn (hT 44) (s "is_least") (s "is_least") 0 [] .none .none .none .none none .none .none 0)), #[]⟩
noncomputable def o365 (P : Params) : Obj := ⟨(.type "code"), none, (.fields #[(.str (s "is_least") 829), (.str (s "is_least") 830), (.str (s "/claim/cut.py") 831), (.int (179) 0), (.int (1) 0), (.int (0) 0), (.int (0) 0), (.int (3) 0), (.ref 360), (.bool true), (.int (374) 0), (.ref 361), .none, (.ref 362), (.ref 363), (.ref 364), (.int (833) 0), (.int (179) 0), (.str (s "/claim/cut.py") 834)]), #[]⟩
noncomputable def o366 (P : Params) : Obj := ⟨(.type "function"), none, (.func (fn (hT 44) (s "is_least") (s "is_least") 3 [] .none .none .none (.str (s "likepanes.factors") 827) none (.ref 365) .none 0)), #[]⟩
noncomputable def o367 (P : Params) : Obj := ⟨(.type "tuple"), none, (.seq #[] 0), #[]⟩
noncomputable def o368 (P : Params) : Obj := ⟨.none, none, (.fields #[]), #[]⟩
noncomputable def o369 (P : Params) : Obj := ⟨(.type "tuple"), none, (.seq #[(.str (s "equation") 839), (.str (s "rest") 840), (.str (s "found") 841), (.str (s "factor") 842)] 0), #[]⟩
noncomputable def o370 (P : Params) : Obj := ⟨(.type "tuple"), none, (.seq #[] 0), #[]⟩
noncomputable def o371 (P : Params) : Obj := ⟨.none, none, (.func (fn (hT 45) (s "factors_of") (s "factors_of") 0 [] .none .none .none .none none .none .none 0)), #[]⟩
noncomputable def o372 (P : Params) : Obj := ⟨(.type "code"), none, (.fields #[(.str (s "factors_of") 836), (.str (s "factors_of") 837), (.str (s "/claim/cut.py") 838), (.int (183) 0), (.int (1) 0), (.int (0) 0), (.int (0) 0), (.int (3) 0), (.ref 367), (.bool true), (.int (374) 0), (.ref 368), .none, (.ref 369), (.ref 370), (.ref 371), (.int (843) 0), (.int (183) 0), (.str (s "/claim/cut.py") 844)]), #[]⟩
noncomputable def o373 (P : Params) : Obj := ⟨(.type "function"), none, (.func (fn (hT 45) (s "factors_of") (s "factors_of") 3 [] .none .none .none (.str (s "likepanes.factors") 827) none (.ref 372) .none 0)), #[]⟩
noncomputable def o374 (P : Params) : Obj := ⟨(.type "tuple"), none, (.seq #[] 0), #[]⟩
noncomputable def o375 (P : Params) : Obj := ⟨.none, none, (.fields #[]), #[]⟩
noncomputable def o376 (P : Params) : Obj := ⟨(.type "tuple"), none, (.seq #[(.str (s "terms") 849), (.str (s "found") 850)] 0), #[]⟩
noncomputable def o377 (P : Params) : Obj := ⟨(.type "tuple"), none, (.seq #[] 0), #[]⟩
noncomputable def o378 (P : Params) : Obj := ⟨.none, none, (.func (fn (hT 46) (s "least_factor") (s "least_factor") 0 [] .none .none .none .none none .none .none 0)), #[]⟩
noncomputable def o379 (P : Params) : Obj := ⟨(.type "code"), none, (.fields #[(.str (s "least_factor") 846), (.str (s "least_factor") 847), (.str (s "/claim/cut.py") 848), (.int (194) 0), (.int (1) 0), (.int (0) 0), (.int (0) 0), (.int (3) 0), (.ref 374), (.bool true), (.int (374) 0), (.ref 375), .none, (.ref 376), (.ref 377), (.ref 378), (.int (851) 0), (.int (194) 0), (.str (s "/claim/cut.py") 852)]), #[]⟩
noncomputable def o380 (P : Params) : Obj := ⟨(.type "function"), none, (.func (fn (hT 46) (s "least_factor") (s "least_factor") 3 [] .none .none .none (.str (s "likepanes.factors") 827) none (.ref 379) .none 0)), #[]⟩
noncomputable def o381 (P : Params) : Obj := ⟨(.type "tuple"), none, (.seq #[] 0), #[]⟩
noncomputable def o382 (P : Params) : Obj := ⟨.none, none, (.fields #[]), #[]⟩
noncomputable def o383 (P : Params) : Obj := ⟨.none, none, (.func (fn (hT 47) (s "divisors") (s "divisors") 0 [] .none .none .none .none none .none .none 0)), #[]⟩
noncomputable def o384 (P : Params) : Obj := ⟨(.type "code"), none, (.fields #[(.str (s "divisors") 854), (.str (s "divisors") 855), (.str (s "/claim/cut.py") 856), (.int (201) 0), (.int (1) 0), (.int (0) 0), (.int (0) 0), (.int (3) 0), (.ref 381), (.bool true), (.int (374) 0), (.ref 382), .none, .none, .none, (.ref 383), (.int (857) 0), (.int (201) 0), (.str (s "/claim/cut.py") 858)]), #[]⟩
noncomputable def o385 (P : Params) : Obj := ⟨(.type "function"), none, (.func (fn (hT 47) (s "divisors") (s "divisors") 3 [] .none .none .none (.str (s "likepanes.factors") 827) none (.ref 384) .none 0)), #[]⟩
noncomputable def o386 (P : Params) : Obj := ⟨(.type "tuple"), none, (.seq #[] 0), #[]⟩
noncomputable def o387 (P : Params) : Obj := ⟨.none, none, (.fields #[]), #[]⟩
noncomputable def o388 (P : Params) : Obj := ⟨(.type "tuple"), none, (.seq #[(.str (s "terms") 863), (.str (s "bottoms") 864), (.str (s "top") 865), (.str (s "bottom") 866), (.str (s "side") 867)] 0), #[]⟩
noncomputable def o389 (P : Params) : Obj := ⟨(.type "tuple"), none, (.seq #[] 0), #[]⟩
noncomputable def o390 (P : Params) : Obj := ⟨.none, none, (.func (fn (hT 48) (s "linear_factor") (s "linear_factor") 0 [] .none .none .none .none none .none .none 0)), #[]⟩
noncomputable def o391 (P : Params) : Obj := ⟨(.type "code"), none, (.fields #[(.str (s "linear_factor") 860), (.str (s "linear_factor") 861), (.str (s "/claim/cut.py") 862), (.int (203) 0), (.int (1) 0), (.int (0) 0), (.int (0) 0), (.int (3) 0), (.ref 386), (.bool true), (.int (374) 0), (.ref 387), .none, (.ref 388), (.ref 389), (.ref 390), (.int (868) 0), (.int (203) 0), (.str (s "/claim/cut.py") 869)]), #[]⟩
noncomputable def o392 (P : Params) : Obj := ⟨(.type "function"), none, (.func (fn (hT 48) (s "linear_factor") (s "linear_factor") 3 [] .none .none .none (.str (s "likepanes.factors") 827) none (.ref 391) .none 0)), #[]⟩
noncomputable def o393 (P : Params) : Obj := ⟨(.type "tuple"), none, (.seq #[] 0), #[]⟩
noncomputable def o394 (P : Params) : Obj := ⟨.none, none, (.fields #[]), #[]⟩
noncomputable def o395 (P : Params) : Obj := ⟨(.type "tuple"), none, (.seq #[(.str (s "terms") 874), (.str (s "lasts") 875), (.str (s "size") 876), (.str (s "last") 877), (.str (s "first") 878), (.str (s "middle") 879), (.str (s "factor") 880)] 0), #[]⟩
noncomputable def o396 (P : Params) : Obj := ⟨(.type "tuple"), none, (.seq #[] 0), #[]⟩
noncomputable def o397 (P : Params) : Obj := ⟨.none, none, (.func (fn (hT 49) (s "quadratic_factor") (s "quadratic_factor") 0 [] .none .none .none .none none .none .none 0)), #[]⟩
noncomputable def o398 (P : Params) : Obj := ⟨(.type "code"), none, (.fields #[(.str (s "quadratic_factor") 871), (.str (s "quadratic_factor") 872), (.str (s "/claim/cut.py") 873), (.int (215) 0), (.int (1) 0), (.int (0) 0), (.int (0) 0), (.int (3) 0), (.ref 393), (.bool true), (.int (374) 0), (.ref 394), .none, (.ref 395), (.ref 396), (.ref 397), (.int (881) 0), (.int (215) 0), (.str (s "/claim/cut.py") 882)]), #[]⟩
noncomputable def o399 (P : Params) : Obj := ⟨(.type "function"), none, (.func (fn (hT 49) (s "quadratic_factor") (s "quadratic_factor") 3 [] .none .none .none (.str (s "likepanes.factors") 827) none (.ref 398) .none 0)), #[]⟩
noncomputable def t3 (P : Params) : BT := (n (o0 P) (n (o1 P) (n (o3_3 P) (n (o7 P) (n (o15 P) (n (o31 P) (n (o63 P) (n (o127 P) (n (o255 P) z z) (n (o383 P) z z)) (n (o191 P) (n (o319 P) z z) z)) (n (o95 P) (n (o159 P) (n (o287 P) z z) z) (n (o223 P) (n (o351 P) z z) z))) (n (o47 P) (n (o79 P) (n (o143 P) (n (o271 P) z z) (n (o399 P) z z)) (n (o207 P) (n (o335 P) z z) z)) (n (o111 P) (n (o175 P) (n (o303 P) z z) z) (n (o239 P) (n (o367 P) z z) z)))) (n (o23 P) (n (o39 P) (n (o71 P) (n (o135 P) (n (o263 P) z z) (n (o391 P) z z)) (n (o199 P) (n (o327 P) z z) z)) (n (o103 P) (n (o167 P) (n (o295 P) z z) z) (n (o231 P) (n (o359 P) z z) z))) (n (o55 P) (n (o87 P) (n (o151 P) (n (o279 P) z z) z) (n (o215 P) (n (o343 P) z z) z)) (n (o119 P) (n (o183 P) (n (o311 P) z z) z) (n (o247 P) (n (o375 P) z z) z))))) (n (o11 P) (n (o19 P) (n (o35 P) (n (o67 P) (n (o131 P) (n (o259 P) z z) (n (o387 P) z z)) (n (o195 P) (n (o323 P) z z) z)) (n (o99 P) (n (o163 P) (n (o291 P) z z) z) (n (o227 P) (n (o355 P) z z) z))) (n (o51 P) (n (o83 P) (n (o147 P) (n (o275 P) z z) z) (n (o211 P) (n (o339 P) z z) z)) (n (o115 P) (n (o179 P) (n (o307 P) z z) z) (n (o243 P) (n (o371 P) z z) z)))) (n (o27 P) (n (o43 P) (n (o75 P) (n (o139 P) (n (o267 P) z z) (n (o395 P) z z)) (n (o203 P) (n (o331 P) z z) z)) (n (o107 P) (n (o171 P) (n (o299 P) z z) z) (n (o235 P) (n (o363 P) z z) z))) (n (o59_2 P) (n (o91 P) (n (o155 P) (n (o283 P) z z) z) (n (o219 P) (n (o347 P) z z) z)) (n (o123 P) (n (o187 P) (n (o315 P) z z) z) (n (o251 P) (n (o379 P) z z) z)))))) (n (o5 P) (n (o9 P) (n (o17 P) (n (o33 P) (n (o65 P) (n (o129 P) (n (o257 P) z z) (n (o385 P) z z)) (n (o193 P) (n (o321 P) z z) z)) (n (o97 P) (n (o161 P) (n (o289 P) z z) z) (n (o225 P) (n (o353 P) z z) z))) (n (o49 P) (n (o81 P) (n (o145 P) (n (o273 P) z z) z) (n (o209 P) (n (o337 P) z z) z)) (n (o113 P) (n (o177 P) (n (o305 P) z z) z) (n (o241 P) (n (o369 P) z z) z)))) (n (o25 P) (n (o41 P) (n (o73 P) (n (o137 P) (n (o265 P) z z) (n (o393 P) z z)) (n (o201 P) (n (o329 P) z z) z)) (n (o105 P) (n (o169 P) (n (o297 P) z z) z) (n (o233 P) (n (o361 P) z z) z))) (n (o57 P) (n (o89 P) (n (o153 P) (n (o281 P) z z) z) (n (o217 P) (n (o345 P) z z) z)) (n (o121 P) (n (o185 P) (n (o313 P) z z) z) (n (o249 P) (n (o377 P) z z) z))))) (n (o13 P) (n (o21 P) (n (o37 P) (n (o69 P) (n (o133 P) (n (o261 P) z z) (n (o389 P) z z)) (n (o197 P) (n (o325 P) z z) z)) (n (o101 P) (n (o165 P) (n (o293 P) z z) z) (n (o229 P) (n (o357 P) z z) z))) (n (o53 P) (n (o85 P) (n (o149 P) (n (o277 P) z z) z) (n (o213 P) (n (o341 P) z z) z)) (n (o117 P) (n (o181 P) (n (o309 P) z z) z) (n (o245 P) (n (o373 P) z z) z)))) (n (o29 P) (n (o45 P) (n (o77 P) (n (o141 P) (n (o269 P) z z) (n (o397 P) z z)) (n (o205 P) (n (o333 P) z z) z)) (n (o109 P) (n (o173 P) (n (o301 P) z z) z) (n (o237 P) (n (o365 P) z z) z))) (n (o61 P) (n (o93 P) (n (o157 P) (n (o285 P) z z) z) (n (o221 P) (n (o349 P) z z) z)) (n (o125 P) (n (o189 P) (n (o317 P) z z) z) (n (o253 P) (n (o381 P) z z) z))))))) (n (o2_2 P) (n (o4 P) (n (o8 P) (n (o16 P) (n (o32 P) (n (o64 P) (n (o128 P) (n (o256 P) z z) (n (o384 P) z z)) (n (o192 P) (n (o320 P) z z) z)) (n (o96 P) (n (o160 P) (n (o288 P) z z) z) (n (o224 P) (n (o352 P) z z) z))) (n (o48 P) (n (o80 P) (n (o144 P) (n (o272 P) z z) z) (n (o208 P) (n (o336 P) z z) z)) (n (o112 P) (n (o176 P) (n (o304 P) z z) z) (n (o240 P) (n (o368 P) z z) z)))) (n (o24 P) (n (o40_3 P) (n (o72 P) (n (o136 P) (n (o264 P) z z) (n (o392 P) z z)) (n (o200 P) (n (o328 P) z z) z)) (n (o104 P) (n (o168 P) (n (o296 P) z z) z) (n (o232 P) (n (o360 P) z z) z))) (n (o56 P) (n (o88 P) (n (o152 P) (n (o280 P) z z) z) (n (o216 P) (n (o344 P) z z) z)) (n (o120 P) (n (o184 P) (n (o312 P) z z) z) (n (o248 P) (n (o376 P) z z) z))))) (n (o12_0 P) (n (o20 P) (n (o36 P) (n (o68 P) (n (o132 P) (n (o260 P) z z) (n (o388 P) z z)) (n (o196 P) (n (o324 P) z z) z)) (n (o100 P) (n (o164 P) (n (o292 P) z z) z) (n (o228 P) (n (o356 P) z z) z))) (n (o52 P) (n (o84 P) (n (o148 P) (n (o276 P) z z) z) (n (o212 P) (n (o340 P) z z) z)) (n (o116 P) (n (o180 P) (n (o308 P) z z) z) (n (o244 P) (n (o372 P) z z) z)))) (n (o28 P) (n (o44 P) (n (o76 P) (n (o140 P) (n (o268 P) z z) (n (o396 P) z z)) (n (o204 P) (n (o332 P) z z) z)) (n (o108 P) (n (o172 P) (n (o300 P) z z) z) (n (o236 P) (n (o364 P) z z) z))) (n (o60 P) (n (o92 P) (n (o156 P) (n (o284 P) z z) z) (n (o220 P) (n (o348 P) z z) z)) (n (o124 P) (n (o188 P) (n (o316 P) z z) z) (n (o252 P) (n (o380 P) z z) z)))))) (n (o6 P) (n (o10 P) (n (o18 P) (n (o34 P) (n (o66 P) (n (o130 P) (n (o258 P) z z) (n (o386 P) z z)) (n (o194 P) (n (o322 P) z z) z)) (n (o98 P) (n (o162 P) (n (o290 P) z z) z) (n (o226 P) (n (o354 P) z z) z))) (n (o50 P) (n (o82 P) (n (o146 P) (n (o274 P) z z) z) (n (o210 P) (n (o338 P) z z) z)) (n (o114 P) (n (o178 P) (n (o306 P) z z) z) (n (o242 P) (n (o370 P) z z) z)))) (n (o26 P) (n (o42 P) (n (o74 P) (n (o138 P) (n (o266 P) z z) (n (o394 P) z z)) (n (o202 P) (n (o330 P) z z) z)) (n (o106 P) (n (o170 P) (n (o298 P) z z) z) (n (o234 P) (n (o362 P) z z) z))) (n (o58 P) (n (o90 P) (n (o154 P) (n (o282 P) z z) z) (n (o218 P) (n (o346 P) z z) z)) (n (o122 P) (n (o186 P) (n (o314 P) z z) z) (n (o250 P) (n (o378 P) z z) z))))) (n (o14 P) (n (o22 P) (n (o38 P) (n (o70 P) (n (o134 P) (n (o262 P) z z) (n (o390 P) z z)) (n (o198 P) (n (o326 P) z z) z)) (n (o102 P) (n (o166 P) (n (o294 P) z z) z) (n (o230 P) (n (o358 P) z z) z))) (n (o54 P) (n (o86 P) (n (o150 P) (n (o278 P) z z) z) (n (o214 P) (n (o342 P) z z) z)) (n (o118 P) (n (o182 P) (n (o310 P) z z) z) (n (o246 P) (n (o374 P) z z) z)))) (n (o30 P) (n (o46 P) (n (o78 P) (n (o142 P) (n (o270 P) z z) (n (o398 P) z z)) (n (o206 P) (n (o334 P) z z) z)) (n (o110 P) (n (o174 P) (n (o302 P) z z) z) (n (o238 P) (n (o366 P) z z) z))) (n (o62 P) (n (o94 P) (n (o158 P) (n (o286 P) z z) z) (n (o222 P) (n (o350 P) z z) z)) (n (o126 P) (n (o190 P) (n (o318 P) z z) z) (n (o254 P) (n (o382 P) z z) z))))))))
noncomputable def X3 (w : World) (os : OsState) : SharedT := ⟨t3 w.params, 400, {}, #[], {}, 884, os⟩
noncomputable def o3_4 (P : Params) : Obj := ⟨(.type "dict"), none, (.dict #[k P "__name__" 165 (.str (s "likepanes.shapes") 902), k P "__doc__" 166 .none, k P "__package__" 167 .none, k P "__loader__" 168 (.builtin "__main__.__loader__#opaque"), k P "__spec__" 169 .none, k P "__annotations__" 170 (.ref 6), k P "__builtins__" 171 (.ref 4), k P "__file__" 173 (.str (s "/claim/cut.py") 172), k P "__cached__" 174 .none, k P "gcd" 370 (.builtin "math.gcd"), k P "isqrt" 373 (.builtin "math.isqrt"), k P "_wall" 386 (.ref 49), k P "BadValue" 406 (.ref 59), k P "InvalidText" 431 (.ref 79), k P "InvalidFraction" 456 (.ref 98), k P "NotAShape" 481 (.ref 117), k P "InvalidEquation" 506 (.ref 136), k P "NoAnswer" 526 (.ref 148), k P "NoRoot" 549 (.ref 168), k P "TooMany" 574 (.ref 187), k P "MOST_DEGREE" 576 (.int (5) 575), k P "MOST_TERM" 578 (.int (1000) 577), k P "is_integer" 587 (.ref 196), k P "are_integers" 593 (.ref 201), k P "is_fraction" 602 (.ref 208), k P "is_below" 610 (.ref 215), k P "is_term" 617 (.ref 222), k P "wrong_term" 627 (.ref 229), k P "trimmed" 637 (.ref 236), k P "common_divisor" 646 (.ref 243), k P "primitive" 652 (.ref 248), k P "negative" 658 (.ref 253), k P "derivative" 664 (.ref 258), k P "value_at" 676 (.ref 265), k P "combined" 690 (.ref 272), k P "remainder" 700 (.ref 279), k P "divided" 715 (.ref 286), k P "FIRST_BITS" 719 (.int (64) 718), k P "sturm_chain" 727 (.ref 293), k P "changes" 733 (.ref 298), k P "reach" 739 (.ref 303), k P "roots_up_to" 748 (.ref 310), k P "roots_in_all" 755 (.ref 317), k P "roots_within" 766 (.ref 324), k P "rank_of_last" 774 (.ref 331), k P "stretch_of" 785 (.ref 338), k P "lonely_stretch" 798 (.ref 345), k P "refined" 810 (.ref 352), k P "guessed" 826 (.ref 359), k P "is_least" 835 (.ref 366), k P "factors_of" 845 (.ref 373), k P "least_factor" 853 (.ref 380), k P "divisors" 859 (.ref 385), k P "linear_factor" 870 (.ref 392), k P "quadratic_factor" 883 (.ref 399), k P "middles" 895 (.ref 406), k P "whole_roots" 901 (.ref 411), k P "Shape" 1011 (.ref 489), k P "check_shape" 1018 (.ref 500), k P "check_equation" 1026 (.ref 507)] 60), #[]⟩
noncomputable def o40_4 (P : Params) : Obj := ⟨.none, none, (.fields #[(.int (2) 0), (.int (0) 0), (.ref 48), (.int (6) 0), (.int (0) 0), (.ref 55), (.int (8) 0), (.int (0) 0), (.ref 68), (.int (13) 0), (.int (0) 0), (.ref 87), (.int (18) 0), (.int (0) 0), (.ref 106), (.int (23) 0), (.int (0) 0), (.ref 125), (.int (28) 0), (.int (0) 0), (.ref 144), (.int (30) 0), (.int (0) 0), (.ref 157), (.int (34) 0), (.int (0) 0), (.ref 176), (.int (42) 0), (.int (0) 0), (.ref 195), (.int (44) 0), (.int (0) 0), (.ref 200), (.int (46) 0), (.int (0) 0), (.ref 207), (.int (51) 0), (.int (0) 0), (.ref 214), (.int (53) 0), (.int (0) 0), (.ref 221), (.int (55) 0), (.int (0) 0), (.ref 228), (.int (62) 0), (.int (0) 0), (.ref 235), (.int (67) 0), (.int (0) 0), (.ref 242), (.int (72) 0), (.int (0) 0), (.ref 247), (.int (75) 0), (.int (0) 0), (.ref 252), (.int (77) 0), (.int (0) 0), (.ref 257), (.int (79) 0), (.int (0) 0), (.ref 264), (.int (85) 0), (.int (0) 0), (.ref 271), (.int (92) 0), (.int (0) 0), (.ref 278), (.int (98) 0), (.int (0) 0), (.ref 285), (.int (114) 0), (.int (0) 0), (.ref 292), (.int (120) 0), (.int (0) 0), (.ref 297), (.int (124) 0), (.int (0) 0), (.ref 302), (.int (126) 0), (.int (0) 0), (.ref 309), (.int (128) 0), (.int (0) 0), (.ref 316), (.int (130) 0), (.int (0) 0), (.ref 323), (.int (136) 0), (.int (0) 0), (.ref 330), (.int (138) 0), (.int (0) 0), (.ref 337), (.int (142) 0), (.int (0) 0), (.ref 344), (.int (154) 0), (.int (0) 0), (.ref 351), (.int (166) 0), (.int (0) 0), (.ref 358), (.int (179) 0), (.int (0) 0), (.ref 365), (.int (183) 0), (.int (0) 0), (.ref 372), (.int (194) 0), (.int (0) 0), (.ref 379), (.int (201) 0), (.int (0) 0), (.ref 384), (.int (203) 0), (.int (0) 0), (.ref 391), (.int (215) 0), (.int (0) 0), (.ref 398), (.int (225) 0), (.int (0) 0), (.ref 405), (.int (232) 0), (.int (0) 0), (.ref 410), (.int (242) 0), (.int (0) 0), (.ref 417), (.int (287) 0), (.int (0) 0), (.ref 499), (.int (290) 0), (.int (0) 0), (.ref 506)]), #[]⟩
noncomputable def o400 (P : Params) : Obj := ⟨(.type "tuple"), none, (.seq #[] 0), #[]⟩
noncomputable def o401 (P : Params) : Obj := ⟨.none, none, (.fields #[]), #[]⟩
noncomputable def o402 (P : Params) : Obj := ⟨(.type "tuple"), none, (.seq #[(.str (s "terms") 887), (.str (s "first") 888), (.str (s "last") 889), (.str (s "lowest") 890), (.str (s "highest") 891), (.str (s "constant") 892)] 0), #[]⟩
noncomputable def o403 (P : Params) : Obj := ⟨(.type "tuple"), none, (.seq #[] 0), #[]⟩
noncomputable def o404 (P : Params) : Obj := ⟨.none, none, (.func (fn (hT 50) (s "middles") (s "middles") 0 [] .none .none .none .none none .none .none 0)), #[]⟩
noncomputable def o405 (P : Params) : Obj := ⟨(.type "code"), none, (.fields #[(.str (s "middles") 884), (.str (s "middles") 885), (.str (s "/claim/cut.py") 886), (.int (225) 0), (.int (3) 0), (.int (0) 0), (.int (0) 0), (.int (3) 0), (.ref 400), (.bool true), (.int (374) 0), (.ref 401), .none, (.ref 402), (.ref 403), (.ref 404), (.int (893) 0), (.int (225) 0), (.str (s "/claim/cut.py") 894)]), #[]⟩
noncomputable def o406 (P : Params) : Obj := ⟨(.type "function"), none, (.func (fn (hT 50) (s "middles") (s "middles") 3 [] .none .none .none (.str (s "likepanes.factors") 827) none (.ref 405) .none 0)), #[]⟩
noncomputable def o407 (P : Params) : Obj := ⟨(.type "tuple"), none, (.seq #[] 0), #[]⟩
noncomputable def o408 (P : Params) : Obj := ⟨.none, none, (.fields #[]), #[]⟩
noncomputable def o409 (P : Params) : Obj := ⟨.none, none, (.func (fn (hT 51) (s "whole_roots") (s "whole_roots") 0 [] .none .none .none .none none .none .none 0)), #[]⟩
noncomputable def o410 (P : Params) : Obj := ⟨(.type "code"), none, (.fields #[(.str (s "whole_roots") 896), (.str (s "whole_roots") 897), (.str (s "/claim/cut.py") 898), (.int (232) 0), (.int (3) 0), (.int (0) 0), (.int (0) 0), (.int (3) 0), (.ref 407), (.bool true), (.int (374) 0), (.ref 408), .none, .none, .none, (.ref 409), (.int (899) 0), (.int (232) 0), (.str (s "/claim/cut.py") 900)]), #[]⟩
noncomputable def o411 (P : Params) : Obj := ⟨(.type "function"), none, (.func (fn (hT 51) (s "whole_roots") (s "whole_roots") 3 [] .none .none .none (.str (s "likepanes.factors") 827) none (.ref 410) .none 0)), #[]⟩
noncomputable def o412 (P : Params) : Obj := ⟨(.type "tuple"), none, (.seq #[] 0), #[]⟩
noncomputable def o413 (P : Params) : Obj := ⟨(.type "builtin_function_or_method"), none, (.fields #[(.builtin "type.__prepare__"), (.type "type")]), #[]⟩
noncomputable def o414 (P : Params) : Obj := ⟨(.type "dict"), none, (.dict #[k P "__module__" 911 (.str (s "likepanes.shapes") 902), k P "__qualname__" 913 (.str (s "Shape") 912), k P "__firstlineno__" 915 (.int (242) 914), k P "__init__" 924 (.ref 425), k P "of" 942 (.ref 432), k P "text" 950 (.ref 441), k P "equation" 958 (.ref 449), k P "degree" 966 (.ref 457), k P "rank" 974 (.ref 465), k P "floor_at" 982 (.ref 472), k P "__eq__" 990 (.ref 479), k P "__str__" 997 (.ref 486), k P "__static_attributes__" 1003 (.ref 487)] 13), #[]⟩
noncomputable def o415 (P : Params) : Obj := ⟨(.type "tuple"), none, (.seq #[] 0), #[]⟩
noncomputable def o416 (P : Params) : Obj := ⟨.none, none, (.fields #[(.int (244) 0), (.int (4) 0), (.ref 424), (.int (253) 0), (.int (4) 0), (.ref 429), (.int (264) 0), (.int (4) 0), (.ref 439), (.int (268) 0), (.int (4) 0), (.ref 447), (.int (272) 0), (.int (4) 0), (.ref 455), (.int (276) 0), (.int (4) 0), (.ref 463), (.int (279) 0), (.int (4) 0), (.ref 471), (.int (282) 0), (.int (4) 0), (.ref 478), (.int (285) 0), (.int (4) 0), (.ref 485)]), #[]⟩
noncomputable def o417 (P : Params) : Obj := ⟨(.type "code"), none, (.fields #[(.str (s "Shape") 906), (.str (s "Shape") 907), (.str (s "/claim/cut.py") 908), (.int (242) 0), (.int (0) 0), (.int (0) 0), (.int (0) 0), (.int (0) 0), (.ref 415), (.bool false), (.int (374) 0), (.ref 416), .none, .none, .none, .none, (.int (909) 0), (.int (242) 0), (.str (s "/claim/cut.py") 910)]), #[]⟩
noncomputable def o418 (P : Params) : Obj := ⟨(.type "frame"), none, .plain, #[(some (.ref 417)), (some (.ref 3)), (some (.ref 414)), none, (some (.str (s "likepanes.shapes") 902)), none, (some (.ref 0))]⟩
noncomputable def o419 (P : Params) : Obj := ⟨(.type "tuple"), none, (.seq #[] 0), #[]⟩
noncomputable def o420 (P : Params) : Obj := ⟨.none, none, (.fields #[]), #[]⟩
noncomputable def o421 (P : Params) : Obj := ⟨(.type "tuple"), none, (.seq #[(.str (s "self") 919), (.str (s "text") 920), (.str (s "told") 921)] 0), #[]⟩
noncomputable def o422 (P : Params) : Obj := ⟨(.type "tuple"), none, (.seq #[] 0), #[]⟩
noncomputable def o423 (P : Params) : Obj := ⟨.none, none, (.func (fn (L2.inClass (hT 53) 0) (s "__init__") (s "Shape.__init__") 0 [] .none .none .none .none none .none .none 0)), #[]⟩
noncomputable def o424 (P : Params) : Obj := ⟨(.type "code"), none, (.fields #[(.str (s "__init__") 916), (.str (s "Shape.__init__") 917), (.str (s "/claim/cut.py") 918), (.int (244) 0), (.int (2) 0), (.int (0) 0), (.int (0) 0), (.int (3) 0), (.ref 419), (.bool true), (.int (374) 0), (.ref 420), .none, (.ref 421), (.ref 422), (.ref 423), (.int (922) 0), (.int (244) 0), (.str (s "/claim/cut.py") 923)]), #[]⟩
noncomputable def o425 (P : Params) : Obj := ⟨(.type "function"), none, (.func (fn (L2.inClass (hT 53) 0) (s "__init__") (s "Shape.__init__") 3 [] .none .none .none (.str (s "likepanes.shapes") 902) none (.ref 424) .none 0)), #[]⟩
noncomputable def o426 (P : Params) : Obj := ⟨(.type "tuple"), none, (.seq #[] 0), #[]⟩
noncomputable def o427 (P : Params) : Obj := ⟨.none, none, (.fields #[]), #[]⟩
noncomputable def o428 (P : Params) : Obj := ⟨.none, none, (.func (fn (L2.inClass (hT 53) 1) (s "of") (s "Shape.of") 0 [] .none .none .none .none none .none .none 0)), #[]⟩
noncomputable def o429 (P : Params) : Obj := ⟨(.type "code"), none, (.fields #[(.str (s "of") 925), (.str (s "Shape.of") 926), (.str (s "/claim/cut.py") 927), (.int (252) 0), (.int (3) 0), (.int (0) 0), (.int (0) 0), (.int (3) 0), (.ref 426), (.bool true), (.int (374) 0), (.ref 427), .none, .none, .none, (.ref 428), (.int (928) 0), (.int (252) 0), (.str (s "/claim/cut.py") 929)]), #[]⟩
noncomputable def o430 (P : Params) : Obj := ⟨(.type "function"), none, (.func (fn (L2.inClass (hT 53) 1) (s "of") (s "Shape.of") 3 [] .none .none .none (.str (s "likepanes.shapes") 902) (some 433) (.ref 429) .none 0)), #[]⟩
noncomputable def o431 (P : Params) : Obj := ⟨(.type "dict"), none, (.dict #[k P "__module__" 931 (.str (s "likepanes.shapes") 902), k P "__name__" 934 (.str (s "of") 933), k P "__qualname__" 937 (.str (s "Shape.of") 936), k P "__doc__" 939 .none, k P "__annotations__" 941 (.ref 433)] 5), #[]⟩
noncomputable def o432 (P : Params) : Obj := ⟨(.type "staticmethod"), (some 431), (.fields #[(.ref 430), (.bool false)]), #[]⟩
noncomputable def o433 (P : Params) : Obj := ⟨(.type "dict"), none, (.dict #[] 0), #[]⟩
noncomputable def o434 (P : Params) : Obj := ⟨(.type "tuple"), none, (.seq #[] 0), #[]⟩
noncomputable def o435 (P : Params) : Obj := ⟨.none, none, (.fields #[]), #[]⟩
noncomputable def o436 (P : Params) : Obj := ⟨(.type "tuple"), none, (.seq #[(.str (s "self") 946)] 0), #[]⟩
noncomputable def o437 (P : Params) : Obj := ⟨(.type "tuple"), none, (.seq #[] 0), #[]⟩
noncomputable def o438 (P : Params) : Obj := ⟨.none, none, (.func (fn (L2.inClass (hT 53) 2) (s "text") (s "Shape.text") 0 [] .none .none .none .none none .none .none 0)), #[]⟩
noncomputable def o439 (P : Params) : Obj := ⟨(.type "code"), none, (.fields #[(.str (s "text") 943), (.str (s "Shape.text") 944), (.str (s "/claim/cut.py") 945), (.int (263) 0), (.int (1) 0), (.int (0) 0), (.int (0) 0), (.int (3) 0), (.ref 434), (.bool true), (.int (374) 0), (.ref 435), .none, (.ref 436), (.ref 437), (.ref 438), (.int (947) 0), (.int (263) 0), (.str (s "/claim/cut.py") 948)]), #[]⟩
noncomputable def o440 (P : Params) : Obj := ⟨(.type "function"), none, (.func (fn (L2.inClass (hT 53) 2) (s "text") (s "Shape.text") 3 [] .none .none .none (.str (s "likepanes.shapes") 902) none (.ref 439) .none 0)), #[]⟩
noncomputable def o441 (P : Params) : Obj := ⟨(.type "property"), none, (.fields #[(.ref 440), .none, .none, .none, (.str (s "text") 950), (.bool false)]), #[]⟩
noncomputable def o442 (P : Params) : Obj := ⟨(.type "tuple"), none, (.seq #[] 0), #[]⟩
noncomputable def o443 (P : Params) : Obj := ⟨.none, none, (.fields #[]), #[]⟩
noncomputable def o444 (P : Params) : Obj := ⟨(.type "tuple"), none, (.seq #[(.str (s "self") 954)] 0), #[]⟩
noncomputable def o445 (P : Params) : Obj := ⟨(.type "tuple"), none, (.seq #[] 0), #[]⟩
noncomputable def o446 (P : Params) : Obj := ⟨.none, none, (.func (fn (L2.inClass (hT 53) 3) (s "equation") (s "Shape.equation") 0 [] .none .none .none .none none .none .none 0)), #[]⟩
noncomputable def o447 (P : Params) : Obj := ⟨(.type "code"), none, (.fields #[(.str (s "equation") 951), (.str (s "Shape.equation") 952), (.str (s "/claim/cut.py") 953), (.int (267) 0), (.int (1) 0), (.int (0) 0), (.int (0) 0), (.int (3) 0), (.ref 442), (.bool true), (.int (374) 0), (.ref 443), .none, (.ref 444), (.ref 445), (.ref 446), (.int (955) 0), (.int (267) 0), (.str (s "/claim/cut.py") 956)]), #[]⟩
noncomputable def o448 (P : Params) : Obj := ⟨(.type "function"), none, (.func (fn (L2.inClass (hT 53) 3) (s "equation") (s "Shape.equation") 3 [] .none .none .none (.str (s "likepanes.shapes") 902) none (.ref 447) .none 0)), #[]⟩
noncomputable def o449 (P : Params) : Obj := ⟨(.type "property"), none, (.fields #[(.ref 448), .none, .none, .none, (.str (s "equation") 958), (.bool false)]), #[]⟩
noncomputable def o450 (P : Params) : Obj := ⟨(.type "tuple"), none, (.seq #[] 0), #[]⟩
noncomputable def o451 (P : Params) : Obj := ⟨.none, none, (.fields #[]), #[]⟩
noncomputable def o452 (P : Params) : Obj := ⟨(.type "tuple"), none, (.seq #[(.str (s "self") 962)] 0), #[]⟩
noncomputable def o453 (P : Params) : Obj := ⟨(.type "tuple"), none, (.seq #[] 0), #[]⟩
noncomputable def o454 (P : Params) : Obj := ⟨.none, none, (.func (fn (L2.inClass (hT 53) 4) (s "degree") (s "Shape.degree") 0 [] .none .none .none .none none .none .none 0)), #[]⟩
noncomputable def o455 (P : Params) : Obj := ⟨(.type "code"), none, (.fields #[(.str (s "degree") 959), (.str (s "Shape.degree") 960), (.str (s "/claim/cut.py") 961), (.int (271) 0), (.int (1) 0), (.int (0) 0), (.int (0) 0), (.int (3) 0), (.ref 450), (.bool true), (.int (374) 0), (.ref 451), .none, (.ref 452), (.ref 453), (.ref 454), (.int (963) 0), (.int (271) 0), (.str (s "/claim/cut.py") 964)]), #[]⟩
noncomputable def o456 (P : Params) : Obj := ⟨(.type "function"), none, (.func (fn (L2.inClass (hT 53) 4) (s "degree") (s "Shape.degree") 3 [] .none .none .none (.str (s "likepanes.shapes") 902) none (.ref 455) .none 0)), #[]⟩
noncomputable def o457 (P : Params) : Obj := ⟨(.type "property"), none, (.fields #[(.ref 456), .none, .none, .none, (.str (s "degree") 966), (.bool false)]), #[]⟩
noncomputable def o458 (P : Params) : Obj := ⟨(.type "tuple"), none, (.seq #[] 0), #[]⟩
noncomputable def o459 (P : Params) : Obj := ⟨.none, none, (.fields #[]), #[]⟩
noncomputable def o460 (P : Params) : Obj := ⟨(.type "tuple"), none, (.seq #[(.str (s "self") 970)] 0), #[]⟩
noncomputable def o461 (P : Params) : Obj := ⟨(.type "tuple"), none, (.seq #[] 0), #[]⟩
noncomputable def o462 (P : Params) : Obj := ⟨.none, none, (.func (fn (L2.inClass (hT 53) 5) (s "rank") (s "Shape.rank") 0 [] .none .none .none .none none .none .none 0)), #[]⟩
noncomputable def o463 (P : Params) : Obj := ⟨(.type "code"), none, (.fields #[(.str (s "rank") 967), (.str (s "Shape.rank") 968), (.str (s "/claim/cut.py") 969), (.int (275) 0), (.int (1) 0), (.int (0) 0), (.int (0) 0), (.int (3) 0), (.ref 458), (.bool true), (.int (374) 0), (.ref 459), .none, (.ref 460), (.ref 461), (.ref 462), (.int (971) 0), (.int (275) 0), (.str (s "/claim/cut.py") 972)]), #[]⟩
noncomputable def o464 (P : Params) : Obj := ⟨(.type "function"), none, (.func (fn (L2.inClass (hT 53) 5) (s "rank") (s "Shape.rank") 3 [] .none .none .none (.str (s "likepanes.shapes") 902) none (.ref 463) .none 0)), #[]⟩
noncomputable def o465 (P : Params) : Obj := ⟨(.type "property"), none, (.fields #[(.ref 464), .none, .none, .none, (.str (s "rank") 974), (.bool false)]), #[]⟩
noncomputable def o466 (P : Params) : Obj := ⟨(.type "tuple"), none, (.seq #[] 0), #[]⟩
noncomputable def o467 (P : Params) : Obj := ⟨.none, none, (.fields #[]), #[]⟩
noncomputable def o468 (P : Params) : Obj := ⟨(.type "tuple"), none, (.seq #[(.str (s "self") 978), (.str (s "bits") 979)] 0), #[]⟩
noncomputable def o469 (P : Params) : Obj := ⟨(.type "tuple"), none, (.seq #[] 0), #[]⟩
noncomputable def o470 (P : Params) : Obj := ⟨.none, none, (.func (fn (L2.inClass (hT 53) 6) (s "floor_at") (s "Shape.floor_at") 0 [] .none .none .none .none none .none .none 0)), #[]⟩
noncomputable def o471 (P : Params) : Obj := ⟨(.type "code"), none, (.fields #[(.str (s "floor_at") 975), (.str (s "Shape.floor_at") 976), (.str (s "/claim/cut.py") 977), (.int (279) 0), (.int (2) 0), (.int (0) 0), (.int (0) 0), (.int (3) 0), (.ref 466), (.bool true), (.int (374) 0), (.ref 467), .none, (.ref 468), (.ref 469), (.ref 470), (.int (980) 0), (.int (279) 0), (.str (s "/claim/cut.py") 981)]), #[]⟩
noncomputable def o472 (P : Params) : Obj := ⟨(.type "function"), none, (.func (fn (L2.inClass (hT 53) 6) (s "floor_at") (s "Shape.floor_at") 3 [] .none .none .none (.str (s "likepanes.shapes") 902) none (.ref 471) .none 0)), #[]⟩
noncomputable def o473 (P : Params) : Obj := ⟨(.type "tuple"), none, (.seq #[] 0), #[]⟩
noncomputable def o474 (P : Params) : Obj := ⟨.none, none, (.fields #[]), #[]⟩
noncomputable def o475 (P : Params) : Obj := ⟨(.type "tuple"), none, (.seq #[(.str (s "self") 986), (.str (s "other") 987)] 0), #[]⟩
noncomputable def o476 (P : Params) : Obj := ⟨(.type "tuple"), none, (.seq #[] 0), #[]⟩
noncomputable def o477 (P : Params) : Obj := ⟨.none, none, (.func (fn (L2.inClass (hT 53) 7) (s "__eq__") (s "Shape.__eq__") 0 [] .none .none .none .none none .none .none 0)), #[]⟩
noncomputable def o478 (P : Params) : Obj := ⟨(.type "code"), none, (.fields #[(.str (s "__eq__") 983), (.str (s "Shape.__eq__") 984), (.str (s "/claim/cut.py") 985), (.int (282) 0), (.int (2) 0), (.int (0) 0), (.int (0) 0), (.int (3) 0), (.ref 473), (.bool true), (.int (374) 0), (.ref 474), .none, (.ref 475), (.ref 476), (.ref 477), (.int (988) 0), (.int (282) 0), (.str (s "/claim/cut.py") 989)]), #[]⟩
noncomputable def o479 (P : Params) : Obj := ⟨(.type "function"), none, (.func (fn (L2.inClass (hT 53) 7) (s "__eq__") (s "Shape.__eq__") 3 [] .none .none .none (.str (s "likepanes.shapes") 902) none (.ref 478) .none 0)), #[]⟩
noncomputable def o480 (P : Params) : Obj := ⟨(.type "tuple"), none, (.seq #[] 0), #[]⟩
noncomputable def o481 (P : Params) : Obj := ⟨.none, none, (.fields #[]), #[]⟩
noncomputable def o482 (P : Params) : Obj := ⟨(.type "tuple"), none, (.seq #[(.str (s "self") 994)] 0), #[]⟩
noncomputable def o483 (P : Params) : Obj := ⟨(.type "tuple"), none, (.seq #[] 0), #[]⟩
noncomputable def o484 (P : Params) : Obj := ⟨.none, none, (.func (fn (L2.inClass (hT 53) 8) (s "__str__") (s "Shape.__str__") 0 [] .none .none .none .none none .none .none 0)), #[]⟩
noncomputable def o485 (P : Params) : Obj := ⟨(.type "code"), none, (.fields #[(.str (s "__str__") 991), (.str (s "Shape.__str__") 992), (.str (s "/claim/cut.py") 993), (.int (285) 0), (.int (1) 0), (.int (0) 0), (.int (0) 0), (.int (3) 0), (.ref 480), (.bool true), (.int (374) 0), (.ref 481), .none, (.ref 482), (.ref 483), (.ref 484), (.int (995) 0), (.int (285) 0), (.str (s "/claim/cut.py") 996)]), #[]⟩
noncomputable def o486 (P : Params) : Obj := ⟨(.type "function"), none, (.func (fn (L2.inClass (hT 53) 8) (s "__str__") (s "Shape.__str__") 3 [] .none .none .none (.str (s "likepanes.shapes") 902) none (.ref 485) .none 0)), #[]⟩
noncomputable def o487 (P : Params) : Obj := ⟨(.type "tuple"), none, (.seq #[(.str (s "_bits") 998), (.str (s "_equation") 999), (.str (s "_near") 1000), (.str (s "_rank") 1001), (.str (s "_text") 1002)] 0), #[]⟩
noncomputable def o488 (P : Params) : Obj := ⟨(.type "dict"), none, (.dict #[k P "__module__" 911 (.str (s "likepanes.shapes") 902), k P "__firstlineno__" 915 (.int (242) 914), k P "__init__" 924 (.ref 425), k P "of" 942 (.ref 432), k P "text" 950 (.ref 441), k P "equation" 958 (.ref 449), k P "degree" 966 (.ref 457), k P "rank" 974 (.ref 465), k P "floor_at" 982 (.ref 472), k P "__eq__" 990 (.ref 479), k P "__str__" 997 (.ref 486), k P "__static_attributes__" 1003 (.ref 487), k P "__dict__" 1005 (.ref 490), k P "__weakref__" 1007 (.ref 491), k P "__doc__" 1008 .none, k P "__hash__" 1009 .none] 5), #[]⟩
noncomputable def o489 (P : Params) : Obj := ⟨(.type "type"), none, (.cls ⟨(s "Shape"), [(.type "object")], [(.ref 489), (.type "object")], 488, (s "Shape"), true, [], [], false, none, false⟩), #[none, none, (some (.str (s "Shape") 904)), (some (.str (s "Shape") 912)), (some (.builtin "object.__new__")), (some (.bool true))]⟩
noncomputable def o490 (P : Params) : Obj := ⟨(.type "getset_descriptor"), none, (.fields #[(.str (s "__dict__") 1004), (.ref 489), (.builtin "function.__dict__"), (.builtin "function.__dict__#set")]), #[]⟩
noncomputable def o491 (P : Params) : Obj := ⟨(.type "getset_descriptor"), none, (.fields #[(.str (s "__weakref__") 1006), (.ref 489), (.builtin "ExceptionGroup.__weakref__"), .none]), #[]⟩
noncomputable def o492 (P : Params) : Obj := ⟨(.type "super"), none, (.fields #[(.ref 489), (.ref 489), (.ref 489)]), #[]⟩
noncomputable def o493 (P : Params) : Obj := ⟨(.type "builtin_function_or_method"), none, (.fields #[(.builtin "object.__init_subclass__"), (.ref 489)]), #[]⟩
noncomputable def o494 (P : Params) : Obj := ⟨(.type "tuple"), none, (.seq #[] 0), #[]⟩
noncomputable def o495 (P : Params) : Obj := ⟨.none, none, (.fields #[]), #[]⟩
noncomputable def o496 (P : Params) : Obj := ⟨(.type "tuple"), none, (.seq #[(.str (s "value") 1015)] 0), #[]⟩
noncomputable def o497 (P : Params) : Obj := ⟨(.type "tuple"), none, (.seq #[] 0), #[]⟩
noncomputable def o498 (P : Params) : Obj := ⟨.none, none, (.func (fn (hT 54) (s "check_shape") (s "check_shape") 0 [] .none .none .none .none none .none .none 0)), #[]⟩
noncomputable def o499 (P : Params) : Obj := ⟨(.type "code"), none, (.fields #[(.str (s "check_shape") 1012), (.str (s "check_shape") 1013), (.str (s "/claim/cut.py") 1014), (.int (287) 0), (.int (1) 0), (.int (0) 0), (.int (0) 0), (.int (3) 0), (.ref 494), (.bool true), (.int (374) 0), (.ref 495), .none, (.ref 496), (.ref 497), (.ref 498), (.int (1016) 0), (.int (287) 0), (.str (s "/claim/cut.py") 1017)]), #[]⟩
noncomputable def o500 (P : Params) : Obj := ⟨(.type "function"), none, (.func (fn (hT 54) (s "check_shape") (s "check_shape") 3 [] .none .none .none (.str (s "likepanes.shapes") 902) none (.ref 499) .none 0)), #[]⟩
noncomputable def o501 (P : Params) : Obj := ⟨(.type "tuple"), none, (.seq #[] 0), #[]⟩
noncomputable def o502 (P : Params) : Obj := ⟨.none, none, (.fields #[]), #[]⟩
noncomputable def o503 (P : Params) : Obj := ⟨(.type "tuple"), none, (.seq #[(.str (s "value") 1022), (.str (s "wrong") 1023)] 0), #[]⟩
noncomputable def o504 (P : Params) : Obj := ⟨(.type "tuple"), none, (.seq #[] 0), #[]⟩
noncomputable def o505 (P : Params) : Obj := ⟨.none, none, (.func (fn (hT 55) (s "check_equation") (s "check_equation") 0 [] .none .none .none .none none .none .none 0)), #[]⟩
noncomputable def o506 (P : Params) : Obj := ⟨(.type "code"), none, (.fields #[(.str (s "check_equation") 1019), (.str (s "check_equation") 1020), (.str (s "/claim/cut.py") 1021), (.int (290) 0), (.int (1) 0), (.int (0) 0), (.int (0) 0), (.int (3) 0), (.ref 501), (.bool true), (.int (374) 0), (.ref 502), .none, (.ref 503), (.ref 504), (.ref 505), (.int (1024) 0), (.int (290) 0), (.str (s "/claim/cut.py") 1025)]), #[]⟩
noncomputable def o507 (P : Params) : Obj := ⟨(.type "function"), none, (.func (fn (hT 55) (s "check_equation") (s "check_equation") 3 [] .none .none .none (.str (s "likepanes.shapes") 902) none (.ref 506) .none 0)), #[]⟩
noncomputable def t4 (P : Params) : BT := (n (o0 P) (n (o1 P) (n (o3_4 P) (n (o7 P) (n (o15 P) (n (o31 P) (n (o63 P) (n (o127 P) (n (o255 P) z z) (n (o383 P) z z)) (n (o191 P) (n (o319 P) z z) (n (o447 P) z z))) (n (o95 P) (n (o159 P) (n (o287 P) z z) (n (o415 P) z z)) (n (o223 P) (n (o351 P) z z) (n (o479 P) z z)))) (n (o47 P) (n (o79 P) (n (o143 P) (n (o271 P) z z) (n (o399 P) z z)) (n (o207 P) (n (o335 P) z z) (n (o463 P) z z))) (n (o111 P) (n (o175 P) (n (o303 P) z z) (n (o431 P) z z)) (n (o239 P) (n (o367 P) z z) (n (o495 P) z z))))) (n (o23 P) (n (o39 P) (n (o71 P) (n (o135 P) (n (o263 P) z z) (n (o391 P) z z)) (n (o199 P) (n (o327 P) z z) (n (o455 P) z z))) (n (o103 P) (n (o167 P) (n (o295 P) z z) (n (o423 P) z z)) (n (o231 P) (n (o359 P) z z) (n (o487 P) z z)))) (n (o55 P) (n (o87 P) (n (o151 P) (n (o279 P) z z) (n (o407 P) z z)) (n (o215 P) (n (o343 P) z z) (n (o471 P) z z))) (n (o119 P) (n (o183 P) (n (o311 P) z z) (n (o439 P) z z)) (n (o247 P) (n (o375 P) z z) (n (o503 P) z z)))))) (n (o11 P) (n (o19 P) (n (o35 P) (n (o67 P) (n (o131 P) (n (o259 P) z z) (n (o387 P) z z)) (n (o195 P) (n (o323 P) z z) (n (o451 P) z z))) (n (o99 P) (n (o163 P) (n (o291 P) z z) (n (o419 P) z z)) (n (o227 P) (n (o355 P) z z) (n (o483 P) z z)))) (n (o51 P) (n (o83 P) (n (o147 P) (n (o275 P) z z) (n (o403 P) z z)) (n (o211 P) (n (o339 P) z z) (n (o467 P) z z))) (n (o115 P) (n (o179 P) (n (o307 P) z z) (n (o435 P) z z)) (n (o243 P) (n (o371 P) z z) (n (o499 P) z z))))) (n (o27 P) (n (o43 P) (n (o75 P) (n (o139 P) (n (o267 P) z z) (n (o395 P) z z)) (n (o203 P) (n (o331 P) z z) (n (o459 P) z z))) (n (o107 P) (n (o171 P) (n (o299 P) z z) (n (o427 P) z z)) (n (o235 P) (n (o363 P) z z) (n (o491 P) z z)))) (n (o59_2 P) (n (o91 P) (n (o155 P) (n (o283 P) z z) (n (o411 P) z z)) (n (o219 P) (n (o347 P) z z) (n (o475 P) z z))) (n (o123 P) (n (o187 P) (n (o315 P) z z) (n (o443 P) z z)) (n (o251 P) (n (o379 P) z z) (n (o507 P) z z))))))) (n (o5 P) (n (o9 P) (n (o17 P) (n (o33 P) (n (o65 P) (n (o129 P) (n (o257 P) z z) (n (o385 P) z z)) (n (o193 P) (n (o321 P) z z) (n (o449 P) z z))) (n (o97 P) (n (o161 P) (n (o289 P) z z) (n (o417 P) z z)) (n (o225 P) (n (o353 P) z z) (n (o481 P) z z)))) (n (o49 P) (n (o81 P) (n (o145 P) (n (o273 P) z z) (n (o401 P) z z)) (n (o209 P) (n (o337 P) z z) (n (o465 P) z z))) (n (o113 P) (n (o177 P) (n (o305 P) z z) (n (o433 P) z z)) (n (o241 P) (n (o369 P) z z) (n (o497 P) z z))))) (n (o25 P) (n (o41 P) (n (o73 P) (n (o137 P) (n (o265 P) z z) (n (o393 P) z z)) (n (o201 P) (n (o329 P) z z) (n (o457 P) z z))) (n (o105 P) (n (o169 P) (n (o297 P) z z) (n (o425 P) z z)) (n (o233 P) (n (o361 P) z z) (n (o489 P) z z)))) (n (o57 P) (n (o89 P) (n (o153 P) (n (o281 P) z z) (n (o409 P) z z)) (n (o217 P) (n (o345 P) z z) (n (o473 P) z z))) (n (o121 P) (n (o185 P) (n (o313 P) z z) (n (o441 P) z z)) (n (o249 P) (n (o377 P) z z) (n (o505 P) z z)))))) (n (o13 P) (n (o21 P) (n (o37 P) (n (o69 P) (n (o133 P) (n (o261 P) z z) (n (o389 P) z z)) (n (o197 P) (n (o325 P) z z) (n (o453 P) z z))) (n (o101 P) (n (o165 P) (n (o293 P) z z) (n (o421 P) z z)) (n (o229 P) (n (o357 P) z z) (n (o485 P) z z)))) (n (o53 P) (n (o85 P) (n (o149 P) (n (o277 P) z z) (n (o405 P) z z)) (n (o213 P) (n (o341 P) z z) (n (o469 P) z z))) (n (o117 P) (n (o181 P) (n (o309 P) z z) (n (o437 P) z z)) (n (o245 P) (n (o373 P) z z) (n (o501 P) z z))))) (n (o29 P) (n (o45 P) (n (o77 P) (n (o141 P) (n (o269 P) z z) (n (o397 P) z z)) (n (o205 P) (n (o333 P) z z) (n (o461 P) z z))) (n (o109 P) (n (o173 P) (n (o301 P) z z) (n (o429 P) z z)) (n (o237 P) (n (o365 P) z z) (n (o493 P) z z)))) (n (o61 P) (n (o93 P) (n (o157 P) (n (o285 P) z z) (n (o413 P) z z)) (n (o221 P) (n (o349 P) z z) (n (o477 P) z z))) (n (o125 P) (n (o189 P) (n (o317 P) z z) (n (o445 P) z z)) (n (o253 P) (n (o381 P) z z) z))))))) (n (o2_2 P) (n (o4 P) (n (o8 P) (n (o16 P) (n (o32 P) (n (o64 P) (n (o128 P) (n (o256 P) z z) (n (o384 P) z z)) (n (o192 P) (n (o320 P) z z) (n (o448 P) z z))) (n (o96 P) (n (o160 P) (n (o288 P) z z) (n (o416 P) z z)) (n (o224 P) (n (o352 P) z z) (n (o480 P) z z)))) (n (o48 P) (n (o80 P) (n (o144 P) (n (o272 P) z z) (n (o400 P) z z)) (n (o208 P) (n (o336 P) z z) (n (o464 P) z z))) (n (o112 P) (n (o176 P) (n (o304 P) z z) (n (o432 P) z z)) (n (o240 P) (n (o368 P) z z) (n (o496 P) z z))))) (n (o24 P) (n (o40_4 P) (n (o72 P) (n (o136 P) (n (o264 P) z z) (n (o392 P) z z)) (n (o200 P) (n (o328 P) z z) (n (o456 P) z z))) (n (o104 P) (n (o168 P) (n (o296 P) z z) (n (o424 P) z z)) (n (o232 P) (n (o360 P) z z) (n (o488 P) z z)))) (n (o56 P) (n (o88 P) (n (o152 P) (n (o280 P) z z) (n (o408 P) z z)) (n (o216 P) (n (o344 P) z z) (n (o472 P) z z))) (n (o120 P) (n (o184 P) (n (o312 P) z z) (n (o440 P) z z)) (n (o248 P) (n (o376 P) z z) (n (o504 P) z z)))))) (n (o12_0 P) (n (o20 P) (n (o36 P) (n (o68 P) (n (o132 P) (n (o260 P) z z) (n (o388 P) z z)) (n (o196 P) (n (o324 P) z z) (n (o452 P) z z))) (n (o100 P) (n (o164 P) (n (o292 P) z z) (n (o420 P) z z)) (n (o228 P) (n (o356 P) z z) (n (o484 P) z z)))) (n (o52 P) (n (o84 P) (n (o148 P) (n (o276 P) z z) (n (o404 P) z z)) (n (o212 P) (n (o340 P) z z) (n (o468 P) z z))) (n (o116 P) (n (o180 P) (n (o308 P) z z) (n (o436 P) z z)) (n (o244 P) (n (o372 P) z z) (n (o500 P) z z))))) (n (o28 P) (n (o44 P) (n (o76 P) (n (o140 P) (n (o268 P) z z) (n (o396 P) z z)) (n (o204 P) (n (o332 P) z z) (n (o460 P) z z))) (n (o108 P) (n (o172 P) (n (o300 P) z z) (n (o428 P) z z)) (n (o236 P) (n (o364 P) z z) (n (o492 P) z z)))) (n (o60 P) (n (o92 P) (n (o156 P) (n (o284 P) z z) (n (o412 P) z z)) (n (o220 P) (n (o348 P) z z) (n (o476 P) z z))) (n (o124 P) (n (o188 P) (n (o316 P) z z) (n (o444 P) z z)) (n (o252 P) (n (o380 P) z z) z)))))) (n (o6 P) (n (o10 P) (n (o18 P) (n (o34 P) (n (o66 P) (n (o130 P) (n (o258 P) z z) (n (o386 P) z z)) (n (o194 P) (n (o322 P) z z) (n (o450 P) z z))) (n (o98 P) (n (o162 P) (n (o290 P) z z) (n (o418 P) z z)) (n (o226 P) (n (o354 P) z z) (n (o482 P) z z)))) (n (o50 P) (n (o82 P) (n (o146 P) (n (o274 P) z z) (n (o402 P) z z)) (n (o210 P) (n (o338 P) z z) (n (o466 P) z z))) (n (o114 P) (n (o178 P) (n (o306 P) z z) (n (o434 P) z z)) (n (o242 P) (n (o370 P) z z) (n (o498 P) z z))))) (n (o26 P) (n (o42 P) (n (o74 P) (n (o138 P) (n (o266 P) z z) (n (o394 P) z z)) (n (o202 P) (n (o330 P) z z) (n (o458 P) z z))) (n (o106 P) (n (o170 P) (n (o298 P) z z) (n (o426 P) z z)) (n (o234 P) (n (o362 P) z z) (n (o490 P) z z)))) (n (o58 P) (n (o90 P) (n (o154 P) (n (o282 P) z z) (n (o410 P) z z)) (n (o218 P) (n (o346 P) z z) (n (o474 P) z z))) (n (o122 P) (n (o186 P) (n (o314 P) z z) (n (o442 P) z z)) (n (o250 P) (n (o378 P) z z) (n (o506 P) z z)))))) (n (o14 P) (n (o22 P) (n (o38 P) (n (o70 P) (n (o134 P) (n (o262 P) z z) (n (o390 P) z z)) (n (o198 P) (n (o326 P) z z) (n (o454 P) z z))) (n (o102 P) (n (o166 P) (n (o294 P) z z) (n (o422 P) z z)) (n (o230 P) (n (o358 P) z z) (n (o486 P) z z)))) (n (o54 P) (n (o86 P) (n (o150 P) (n (o278 P) z z) (n (o406 P) z z)) (n (o214 P) (n (o342 P) z z) (n (o470 P) z z))) (n (o118 P) (n (o182 P) (n (o310 P) z z) (n (o438 P) z z)) (n (o246 P) (n (o374 P) z z) (n (o502 P) z z))))) (n (o30 P) (n (o46 P) (n (o78 P) (n (o142 P) (n (o270 P) z z) (n (o398 P) z z)) (n (o206 P) (n (o334 P) z z) (n (o462 P) z z))) (n (o110 P) (n (o174 P) (n (o302 P) z z) (n (o430 P) z z)) (n (o238 P) (n (o366 P) z z) (n (o494 P) z z)))) (n (o62 P) (n (o94 P) (n (o158 P) (n (o286 P) z z) (n (o414 P) z z)) (n (o222 P) (n (o350 P) z z) (n (o478 P) z z))) (n (o126 P) (n (o190 P) (n (o318 P) z z) (n (o446 P) z z)) (n (o254 P) (n (o382 P) z z) z))))))))
noncomputable def X4 (w : World) (os : OsState) : SharedT := ⟨t4 w.params, 508, {}, #[], {}, 1027, os⟩
noncomputable def o3_5 (P : Params) : Obj := ⟨(.type "dict"), none, (.dict #[k P "__name__" 165 (.str (s "law_likepanes_k39_known_writings") 1105), k P "__doc__" 166 .none, k P "__package__" 167 .none, k P "__loader__" 168 (.builtin "__main__.__loader__#opaque"), k P "__spec__" 169 .none, k P "__annotations__" 170 (.ref 6), k P "__builtins__" 171 (.ref 4), k P "__file__" 173 (.str (s "/claim/cut.py") 172), k P "__cached__" 174 .none, k P "gcd" 370 (.builtin "math.gcd"), k P "isqrt" 373 (.builtin "math.isqrt"), k P "_wall" 386 (.ref 49), k P "BadValue" 406 (.ref 59), k P "InvalidText" 431 (.ref 79), k P "InvalidFraction" 456 (.ref 98), k P "NotAShape" 481 (.ref 117), k P "InvalidEquation" 506 (.ref 136), k P "NoAnswer" 526 (.ref 148), k P "NoRoot" 549 (.ref 168), k P "TooMany" 574 (.ref 187), k P "MOST_DEGREE" 576 (.int (5) 575), k P "MOST_TERM" 578 (.int (1000) 577), k P "is_integer" 587 (.ref 196), k P "are_integers" 593 (.ref 201), k P "is_fraction" 602 (.ref 208), k P "is_below" 610 (.ref 215), k P "is_term" 617 (.ref 222), k P "wrong_term" 627 (.ref 229), k P "trimmed" 637 (.ref 236), k P "common_divisor" 646 (.ref 243), k P "primitive" 652 (.ref 248), k P "negative" 658 (.ref 253), k P "derivative" 664 (.ref 258), k P "value_at" 676 (.ref 265), k P "combined" 690 (.ref 272), k P "remainder" 700 (.ref 279), k P "divided" 715 (.ref 286), k P "FIRST_BITS" 719 (.int (64) 718), k P "sturm_chain" 727 (.ref 293), k P "changes" 733 (.ref 298), k P "reach" 739 (.ref 303), k P "roots_up_to" 748 (.ref 310), k P "roots_in_all" 755 (.ref 317), k P "roots_within" 766 (.ref 324), k P "rank_of_last" 774 (.ref 331), k P "stretch_of" 785 (.ref 338), k P "lonely_stretch" 798 (.ref 345), k P "refined" 810 (.ref 352), k P "guessed" 826 (.ref 359), k P "is_least" 835 (.ref 366), k P "factors_of" 845 (.ref 373), k P "least_factor" 853 (.ref 380), k P "divisors" 859 (.ref 385), k P "linear_factor" 870 (.ref 392), k P "quadratic_factor" 883 (.ref 399), k P "middles" 895 (.ref 406), k P "whole_roots" 901 (.ref 411), k P "Shape" 1011 (.ref 489), k P "check_shape" 1018 (.ref 500), k P "check_equation" 1026 (.ref 507), k P "check_stretch" 1034 (.ref 514), k P "factor_within" 1047 (.ref 521), k P "told_by" 1053 (.ref 526), k P "integer_of" 1061 (.ref 533), k P "text_of" 1067 (.ref 538), k P "written" 1077 (.ref 545), k P "fills" 1084 (.ref 552), k P "steps" 1090 (.ref 557), k P "halves" 1096 (.ref 562), k P "can_go" 1104 (.ref 569), k P "_law_tub" 1117 (.ref 576), k P "_law_tap" 1126 (.ref 583), k P "_law_gcd" 1134 (.ref 590), k P "_law_prime_terms" 1140 (.ref 595), k P "_law_goes_in" 1146 (.ref 600), k P "_law_whole_parts" 1155 (.ref 607), k P "_law_splits" 1165 (.ref 614), k P "_law_fraction" 1173 (.ref 621), k P "_law_text" 1179 (.ref 626), k P "_law_root_down" 1187 (.ref 633), k P "_law_right" 1209 (.ref 640), k P "law" 1215 (.ref 645)] 82), #[]⟩
noncomputable def o40_5 (P : Params) : Obj := ⟨.none, none, (.fields #[(.int (2) 0), (.int (0) 0), (.ref 48), (.int (6) 0), (.int (0) 0), (.ref 55), (.int (8) 0), (.int (0) 0), (.ref 68), (.int (13) 0), (.int (0) 0), (.ref 87), (.int (18) 0), (.int (0) 0), (.ref 106), (.int (23) 0), (.int (0) 0), (.ref 125), (.int (28) 0), (.int (0) 0), (.ref 144), (.int (30) 0), (.int (0) 0), (.ref 157), (.int (34) 0), (.int (0) 0), (.ref 176), (.int (42) 0), (.int (0) 0), (.ref 195), (.int (44) 0), (.int (0) 0), (.ref 200), (.int (46) 0), (.int (0) 0), (.ref 207), (.int (51) 0), (.int (0) 0), (.ref 214), (.int (53) 0), (.int (0) 0), (.ref 221), (.int (55) 0), (.int (0) 0), (.ref 228), (.int (62) 0), (.int (0) 0), (.ref 235), (.int (67) 0), (.int (0) 0), (.ref 242), (.int (72) 0), (.int (0) 0), (.ref 247), (.int (75) 0), (.int (0) 0), (.ref 252), (.int (77) 0), (.int (0) 0), (.ref 257), (.int (79) 0), (.int (0) 0), (.ref 264), (.int (85) 0), (.int (0) 0), (.ref 271), (.int (92) 0), (.int (0) 0), (.ref 278), (.int (98) 0), (.int (0) 0), (.ref 285), (.int (114) 0), (.int (0) 0), (.ref 292), (.int (120) 0), (.int (0) 0), (.ref 297), (.int (124) 0), (.int (0) 0), (.ref 302), (.int (126) 0), (.int (0) 0), (.ref 309), (.int (128) 0), (.int (0) 0), (.ref 316), (.int (130) 0), (.int (0) 0), (.ref 323), (.int (136) 0), (.int (0) 0), (.ref 330), (.int (138) 0), (.int (0) 0), (.ref 337), (.int (142) 0), (.int (0) 0), (.ref 344), (.int (154) 0), (.int (0) 0), (.ref 351), (.int (166) 0), (.int (0) 0), (.ref 358), (.int (179) 0), (.int (0) 0), (.ref 365), (.int (183) 0), (.int (0) 0), (.ref 372), (.int (194) 0), (.int (0) 0), (.ref 379), (.int (201) 0), (.int (0) 0), (.ref 384), (.int (203) 0), (.int (0) 0), (.ref 391), (.int (215) 0), (.int (0) 0), (.ref 398), (.int (225) 0), (.int (0) 0), (.ref 405), (.int (232) 0), (.int (0) 0), (.ref 410), (.int (242) 0), (.int (0) 0), (.ref 417), (.int (287) 0), (.int (0) 0), (.ref 499), (.int (290) 0), (.int (0) 0), (.ref 506), (.int (296) 0), (.int (0) 0), (.ref 513), (.int (301) 0), (.int (0) 0), (.ref 520), (.int (308) 0), (.int (0) 0), (.ref 525), (.int (319) 0), (.int (0) 0), (.ref 532), (.int (324) 0), (.int (0) 0), (.ref 537), (.int (328) 0), (.int (0) 0), (.ref 544), (.int (331) 0), (.int (0) 0), (.ref 551), (.int (333) 0), (.int (0) 0), (.ref 556), (.int (343) 0), (.int (0) 0), (.ref 561), (.int (348) 0), (.int (0) 0), (.ref 568), (.int (351) 0), (.int (0) 0), (.ref 575), (.int (357) 0), (.int (0) 0), (.ref 582), (.int (363) 0), (.int (0) 0), (.ref 589), (.int (368) 0), (.int (0) 0), (.ref 594), (.int (373) 0), (.int (0) 0), (.ref 599), (.int (383) 0), (.int (0) 0), (.ref 606), (.int (389) 0), (.int (0) 0), (.ref 613), (.int (398) 0), (.int (0) 0), (.ref 620), (.int (401) 0), (.int (0) 0), (.ref 625), (.int (403) 0), (.int (0) 0), (.ref 632), (.int (408) 0), (.int (0) 0), (.ref 639), (.int (435) 0), (.int (0) 0), (.ref 644)]), #[]⟩
noncomputable def o508 (P : Params) : Obj := ⟨(.type "tuple"), none, (.seq #[] 0), #[]⟩
noncomputable def o509 (P : Params) : Obj := ⟨.none, none, (.fields #[]), #[]⟩
noncomputable def o510 (P : Params) : Obj := ⟨(.type "tuple"), none, (.seq #[(.str (s "low") 1030), (.str (s "high") 1031)] 0), #[]⟩
noncomputable def o511 (P : Params) : Obj := ⟨(.type "tuple"), none, (.seq #[] 0), #[]⟩
noncomputable def o512 (P : Params) : Obj := ⟨.none, none, (.func (fn (hT 56) (s "check_stretch") (s "check_stretch") 0 [] .none .none .none .none none .none .none 0)), #[]⟩
noncomputable def o513 (P : Params) : Obj := ⟨(.type "code"), none, (.fields #[(.str (s "check_stretch") 1027), (.str (s "check_stretch") 1028), (.str (s "/claim/cut.py") 1029), (.int (296) 0), (.int (2) 0), (.int (0) 0), (.int (0) 0), (.int (3) 0), (.ref 508), (.bool true), (.int (374) 0), (.ref 509), .none, (.ref 510), (.ref 511), (.ref 512), (.int (1032) 0), (.int (296) 0), (.str (s "/claim/cut.py") 1033)]), #[]⟩
noncomputable def o514 (P : Params) : Obj := ⟨(.type "function"), none, (.func (fn (hT 56) (s "check_stretch") (s "check_stretch") 3 [] .none .none .none (.str (s "likepanes.shapes") 902) none (.ref 513) .none 0)), #[]⟩
noncomputable def o515 (P : Params) : Obj := ⟨(.type "tuple"), none, (.seq #[] 0), #[]⟩
noncomputable def o516 (P : Params) : Obj := ⟨.none, none, (.fields #[]), #[]⟩
noncomputable def o517 (P : Params) : Obj := ⟨(.type "tuple"), none, (.seq #[(.str (s "equation") 1038), (.str (s "low") 1039), (.str (s "high") 1040), (.str (s "found") 1041), (.str (s "many") 1042), (.str (s "terms") 1043), (.str (s "here") 1044)] 0), #[]⟩
noncomputable def o518 (P : Params) : Obj := ⟨(.type "tuple"), none, (.seq #[] 0), #[]⟩
noncomputable def o519 (P : Params) : Obj := ⟨.none, none, (.func (fn (hT 57) (s "factor_within") (s "factor_within") 0 [] .none .none .none .none none .none .none 0)), #[]⟩
noncomputable def o520 (P : Params) : Obj := ⟨(.type "code"), none, (.fields #[(.str (s "factor_within") 1035), (.str (s "factor_within") 1036), (.str (s "/claim/cut.py") 1037), (.int (301) 0), (.int (3) 0), (.int (0) 0), (.int (0) 0), (.int (3) 0), (.ref 515), (.bool true), (.int (374) 0), (.ref 516), .none, (.ref 517), (.ref 518), (.ref 519), (.int (1045) 0), (.int (301) 0), (.str (s "/claim/cut.py") 1046)]), #[]⟩
noncomputable def o521 (P : Params) : Obj := ⟨(.type "function"), none, (.func (fn (hT 57) (s "factor_within") (s "factor_within") 3 [] .none .none .none (.str (s "likepanes.shapes") 902) none (.ref 520) .none 0)), #[]⟩
noncomputable def o522 (P : Params) : Obj := ⟨(.type "tuple"), none, (.seq #[] 0), #[]⟩
noncomputable def o523 (P : Params) : Obj := ⟨.none, none, (.fields #[]), #[]⟩
noncomputable def o524 (P : Params) : Obj := ⟨.none, none, (.func (fn (hT 58) (s "told_by") (s "told_by") 0 [] .none .none .none .none none .none .none 0)), #[]⟩
noncomputable def o525 (P : Params) : Obj := ⟨(.type "code"), none, (.fields #[(.str (s "told_by") 1048), (.str (s "told_by") 1049), (.str (s "/claim/cut.py") 1050), (.int (308) 0), (.int (1) 0), (.int (0) 0), (.int (0) 0), (.int (3) 0), (.ref 522), (.bool true), (.int (374) 0), (.ref 523), .none, .none, .none, (.ref 524), (.int (1051) 0), (.int (308) 0), (.str (s "/claim/cut.py") 1052)]), #[]⟩
noncomputable def o526 (P : Params) : Obj := ⟨(.type "function"), none, (.func (fn (hT 58) (s "told_by") (s "told_by") 3 [] .none .none .none (.str (s "likepanes.shapes") 902) none (.ref 525) .none 0)), #[]⟩
noncomputable def o527 (P : Params) : Obj := ⟨(.type "tuple"), none, (.seq #[] 0), #[]⟩
noncomputable def o528 (P : Params) : Obj := ⟨.none, none, (.fields #[]), #[]⟩
noncomputable def o529 (P : Params) : Obj := ⟨(.type "tuple"), none, (.seq #[(.str (s "word") 1057), (.str (s "digits") 1058)] 0), #[]⟩
noncomputable def o530 (P : Params) : Obj := ⟨(.type "tuple"), none, (.seq #[] 0), #[]⟩
noncomputable def o531 (P : Params) : Obj := ⟨.none, none, (.func (fn (hT 59) (s "integer_of") (s "integer_of") 0 [] .none .none .none .none none .none .none 0)), #[]⟩
noncomputable def o532 (P : Params) : Obj := ⟨(.type "code"), none, (.fields #[(.str (s "integer_of") 1054), (.str (s "integer_of") 1055), (.str (s "/claim/cut.py") 1056), (.int (319) 0), (.int (1) 0), (.int (0) 0), (.int (0) 0), (.int (3) 0), (.ref 527), (.bool true), (.int (374) 0), (.ref 528), .none, (.ref 529), (.ref 530), (.ref 531), (.int (1059) 0), (.int (319) 0), (.str (s "/claim/cut.py") 1060)]), #[]⟩
noncomputable def o533 (P : Params) : Obj := ⟨(.type "function"), none, (.func (fn (hT 59) (s "integer_of") (s "integer_of") 3 [] .none .none .none (.str (s "likepanes.shapes") 902) none (.ref 532) .none 0)), #[]⟩
noncomputable def o534 (P : Params) : Obj := ⟨(.type "tuple"), none, (.seq #[] 0), #[]⟩
noncomputable def o535 (P : Params) : Obj := ⟨.none, none, (.fields #[]), #[]⟩
noncomputable def o536 (P : Params) : Obj := ⟨.none, none, (.func (fn (hT 60) (s "text_of") (s "text_of") 0 [] .none .none .none .none none .none .none 0)), #[]⟩
noncomputable def o537 (P : Params) : Obj := ⟨(.type "code"), none, (.fields #[(.str (s "text_of") 1062), (.str (s "text_of") 1063), (.str (s "/claim/cut.py") 1064), (.int (324) 0), (.int (2) 0), (.int (0) 0), (.int (0) 0), (.int (3) 0), (.ref 534), (.bool true), (.int (374) 0), (.ref 535), .none, .none, .none, (.ref 536), (.int (1065) 0), (.int (324) 0), (.str (s "/claim/cut.py") 1066)]), #[]⟩
noncomputable def o538 (P : Params) : Obj := ⟨(.type "function"), none, (.func (fn (hT 60) (s "text_of") (s "text_of") 3 [] .none .none .none (.str (s "likepanes.shapes") 902) none (.ref 537) .none 0)), #[]⟩
noncomputable def o539 (P : Params) : Obj := ⟨(.type "tuple"), none, (.seq #[] 0), #[]⟩
noncomputable def o540 (P : Params) : Obj := ⟨.none, none, (.fields #[]), #[]⟩
noncomputable def o541 (P : Params) : Obj := ⟨(.type "tuple"), none, (.seq #[(.str (s "shape") 1073), (.str (s "found") 1074)] 0), #[]⟩
noncomputable def o542 (P : Params) : Obj := ⟨(.type "tuple"), none, (.seq #[] 0), #[]⟩
noncomputable def o543 (P : Params) : Obj := ⟨.none, none, (.func (fn (hT 62) (s "written") (s "written") 0 [] .none .none .none .none none .none .none 0)), #[]⟩
noncomputable def o544 (P : Params) : Obj := ⟨(.type "code"), none, (.fields #[(.str (s "written") 1070), (.str (s "written") 1071), (.str (s "/claim/cut.py") 1072), (.int (328) 0), (.int (1) 0), (.int (0) 0), (.int (0) 0), (.int (3) 0), (.ref 539), (.bool true), (.int (374) 0), (.ref 540), .none, (.ref 541), (.ref 542), (.ref 543), (.int (1075) 0), (.int (328) 0), (.str (s "/claim/cut.py") 1076)]), #[]⟩
noncomputable def o545 (P : Params) : Obj := ⟨(.type "function"), none, (.func (fn (hT 62) (s "written") (s "written") 3 [] .none .none .none (.str (s "likepanes.writing") 1068) none (.ref 544) .none 0)), #[]⟩
noncomputable def o546 (P : Params) : Obj := ⟨(.type "tuple"), none, (.seq #[] 0), #[]⟩
noncomputable def o547 (P : Params) : Obj := ⟨.none, none, (.fields #[]), #[]⟩
noncomputable def o548 (P : Params) : Obj := ⟨(.type "tuple"), none, (.seq #[(.str (s "shape") 1081)] 0), #[]⟩
noncomputable def o549 (P : Params) : Obj := ⟨(.type "tuple"), none, (.seq #[] 0), #[]⟩
noncomputable def o550 (P : Params) : Obj := ⟨.none, none, (.func (fn (hT 63) (s "fills") (s "fills") 0 [] .none .none .none .none none .none .none 0)), #[]⟩
noncomputable def o551 (P : Params) : Obj := ⟨(.type "code"), none, (.fields #[(.str (s "fills") 1078), (.str (s "fills") 1079), (.str (s "/claim/cut.py") 1080), (.int (331) 0), (.int (1) 0), (.int (0) 0), (.int (0) 0), (.int (3) 0), (.ref 546), (.bool true), (.int (374) 0), (.ref 547), .none, (.ref 548), (.ref 549), (.ref 550), (.int (1082) 0), (.int (331) 0), (.str (s "/claim/cut.py") 1083)]), #[]⟩
noncomputable def o552 (P : Params) : Obj := ⟨(.type "function"), none, (.func (fn (hT 63) (s "fills") (s "fills") 3 [] .none .none .none (.str (s "likepanes.writing") 1068) none (.ref 551) .none 0)), #[]⟩
noncomputable def o553 (P : Params) : Obj := ⟨(.type "tuple"), none, (.seq #[] 0), #[]⟩
noncomputable def o554 (P : Params) : Obj := ⟨.none, none, (.fields #[]), #[]⟩
noncomputable def o555 (P : Params) : Obj := ⟨.none, none, (.func (fn (hT 64) (s "steps") (s "steps") 0 [] .none .none .none .none none .none .none 0)), #[]⟩
noncomputable def o556 (P : Params) : Obj := ⟨(.type "code"), none, (.fields #[(.str (s "steps") 1085), (.str (s "steps") 1086), (.str (s "/claim/cut.py") 1087), (.int (333) 0), (.int (1) 0), (.int (0) 0), (.int (0) 0), (.int (3) 0), (.ref 553), (.bool true), (.int (374) 0), (.ref 554), .none, .none, .none, (.ref 555), (.int (1088) 0), (.int (333) 0), (.str (s "/claim/cut.py") 1089)]), #[]⟩
noncomputable def o557 (P : Params) : Obj := ⟨(.type "function"), none, (.func (fn (hT 64) (s "steps") (s "steps") 3 [] .none .none .none (.str (s "likepanes.writing") 1068) none (.ref 556) .none 0)), #[]⟩
noncomputable def o558 (P : Params) : Obj := ⟨(.type "tuple"), none, (.seq #[] 0), #[]⟩
noncomputable def o559 (P : Params) : Obj := ⟨.none, none, (.fields #[]), #[]⟩
noncomputable def o560 (P : Params) : Obj := ⟨.none, none, (.func (fn (hT 65) (s "halves") (s "halves") 0 [] .none .none .none .none none .none .none 0)), #[]⟩
noncomputable def o561 (P : Params) : Obj := ⟨(.type "code"), none, (.fields #[(.str (s "halves") 1091), (.str (s "halves") 1092), (.str (s "/claim/cut.py") 1093), (.int (343) 0), (.int (1) 0), (.int (0) 0), (.int (0) 0), (.int (3) 0), (.ref 558), (.bool true), (.int (374) 0), (.ref 559), .none, .none, .none, (.ref 560), (.int (1094) 0), (.int (343) 0), (.str (s "/claim/cut.py") 1095)]), #[]⟩
noncomputable def o562 (P : Params) : Obj := ⟨(.type "function"), none, (.func (fn (hT 65) (s "halves") (s "halves") 3 [] .none .none .none (.str (s "likepanes.writing") 1068) none (.ref 561) .none 0)), #[]⟩
noncomputable def o563 (P : Params) : Obj := ⟨(.type "tuple"), none, (.seq #[] 0), #[]⟩
noncomputable def o564 (P : Params) : Obj := ⟨.none, none, (.fields #[]), #[]⟩
noncomputable def o565 (P : Params) : Obj := ⟨(.type "tuple"), none, (.seq #[(.str (s "upper") 1100), (.str (s "lower") 1101)] 0), #[]⟩
noncomputable def o566 (P : Params) : Obj := ⟨(.type "tuple"), none, (.seq #[] 0), #[]⟩
noncomputable def o567 (P : Params) : Obj := ⟨.none, none, (.func (fn (hT 66) (s "can_go") (s "can_go") 0 [] .none .none .none .none none .none .none 0)), #[]⟩
noncomputable def o568 (P : Params) : Obj := ⟨(.type "code"), none, (.fields #[(.str (s "can_go") 1097), (.str (s "can_go") 1098), (.str (s "/claim/cut.py") 1099), (.int (348) 0), (.int (2) 0), (.int (0) 0), (.int (0) 0), (.int (3) 0), (.ref 563), (.bool true), (.int (374) 0), (.ref 564), .none, (.ref 565), (.ref 566), (.ref 567), (.int (1102) 0), (.int (348) 0), (.str (s "/claim/cut.py") 1103)]), #[]⟩
noncomputable def o569 (P : Params) : Obj := ⟨(.type "function"), none, (.func (fn (hT 66) (s "can_go") (s "can_go") 3 [] .none .none .none (.str (s "likepanes.writing") 1068) none (.ref 568) .none 0)), #[]⟩
noncomputable def o570 (P : Params) : Obj := ⟨(.type "tuple"), none, (.seq #[] 0), #[]⟩
noncomputable def o571 (P : Params) : Obj := ⟨.none, none, (.fields #[]), #[]⟩
noncomputable def o572 (P : Params) : Obj := ⟨(.type "tuple"), none, (.seq #[(.str (s "_law_cells") 1110), (.str (s "_law_turn") 1111), (.str (s "_law_mixed") 1112), (.str (s "_law_cell") 1113), (.str (s "_law_own") 1114)] 0), #[]⟩
noncomputable def o573 (P : Params) : Obj := ⟨(.type "tuple"), none, (.seq #[] 0), #[]⟩
noncomputable def o574 (P : Params) : Obj := ⟨.none, none, (.func (fn (hT 68) (s "_law_tub") (s "_law_tub") 0 [] .none .none .none .none none .none .none 0)), #[]⟩
noncomputable def o575 (P : Params) : Obj := ⟨(.type "code"), none, (.fields #[(.str (s "_law_tub") 1107), (.str (s "_law_tub") 1108), (.str (s "/claim/cut.py") 1109), (.int (351) 0), (.int (2) 0), (.int (0) 0), (.int (0) 0), (.int (3) 0), (.ref 570), (.bool true), (.int (374) 0), (.ref 571), .none, (.ref 572), (.ref 573), (.ref 574), (.int (1115) 0), (.int (351) 0), (.str (s "/claim/cut.py") 1116)]), #[]⟩
noncomputable def o576 (P : Params) : Obj := ⟨(.type "function"), none, (.func (fn (hT 68) (s "_law_tub") (s "_law_tub") 3 [] .none .none .none (.str (s "law_likepanes_k39_known_writings") 1105) none (.ref 575) .none 0)), #[]⟩
noncomputable def o577 (P : Params) : Obj := ⟨(.type "tuple"), none, (.seq #[] 0), #[]⟩
noncomputable def o578 (P : Params) : Obj := ⟨.none, none, (.fields #[]), #[]⟩
noncomputable def o579 (P : Params) : Obj := ⟨(.type "tuple"), none, (.seq #[(.str (s "_law_tub_here") 1121), (.str (s "_law_amount") 1122), (.str (s "_law_figure") 1123)] 0), #[]⟩
noncomputable def o580 (P : Params) : Obj := ⟨(.type "tuple"), none, (.seq #[] 0), #[]⟩
noncomputable def o581 (P : Params) : Obj := ⟨.none, none, (.func (fn (hT 69) (s "_law_tap") (s "_law_tap") 0 [] .none .none .none .none none .none .none 0)), #[]⟩
noncomputable def o582 (P : Params) : Obj := ⟨(.type "code"), none, (.fields #[(.str (s "_law_tap") 1118), (.str (s "_law_tap") 1119), (.str (s "/claim/cut.py") 1120), (.int (357) 0), (.int (2) 0), (.int (0) 0), (.int (0) 0), (.int (3) 0), (.ref 577), (.bool true), (.int (374) 0), (.ref 578), .none, (.ref 579), (.ref 580), (.ref 581), (.int (1124) 0), (.int (357) 0), (.str (s "/claim/cut.py") 1125)]), #[]⟩
noncomputable def o583 (P : Params) : Obj := ⟨(.type "function"), none, (.func (fn (hT 69) (s "_law_tap") (s "_law_tap") 3 [] .none .none .none (.str (s "law_likepanes_k39_known_writings") 1105) none (.ref 582) .none 0)), #[]⟩
noncomputable def o584 (P : Params) : Obj := ⟨(.type "tuple"), none, (.seq #[] 0), #[]⟩
noncomputable def o585 (P : Params) : Obj := ⟨.none, none, (.fields #[]), #[]⟩
noncomputable def o586 (P : Params) : Obj := ⟨(.type "tuple"), none, (.seq #[(.str (s "_law_one") 1130), (.str (s "_law_two") 1131)] 0), #[]⟩
noncomputable def o587 (P : Params) : Obj := ⟨(.type "tuple"), none, (.seq #[] 0), #[]⟩
noncomputable def o588 (P : Params) : Obj := ⟨.none, none, (.func (fn (hT 70) (s "_law_gcd") (s "_law_gcd") 0 [] .none .none .none .none none .none .none 0)), #[]⟩
noncomputable def o589 (P : Params) : Obj := ⟨(.type "code"), none, (.fields #[(.str (s "_law_gcd") 1127), (.str (s "_law_gcd") 1128), (.str (s "/claim/cut.py") 1129), (.int (363) 0), (.int (2) 0), (.int (0) 0), (.int (0) 0), (.int (3) 0), (.ref 584), (.bool true), (.int (374) 0), (.ref 585), .none, (.ref 586), (.ref 587), (.ref 588), (.int (1132) 0), (.int (363) 0), (.str (s "/claim/cut.py") 1133)]), #[]⟩
noncomputable def o590 (P : Params) : Obj := ⟨(.type "function"), none, (.func (fn (hT 70) (s "_law_gcd") (s "_law_gcd") 3 [] .none .none .none (.str (s "law_likepanes_k39_known_writings") 1105) none (.ref 589) .none 0)), #[]⟩
noncomputable def o591 (P : Params) : Obj := ⟨(.type "tuple"), none, (.seq #[] 0), #[]⟩
noncomputable def o592 (P : Params) : Obj := ⟨.none, none, (.fields #[]), #[]⟩
noncomputable def o593 (P : Params) : Obj := ⟨.none, none, (.func (fn (hT 71) (s "_law_prime_terms") (s "_law_prime_terms") 0 [] .none .none .none .none none .none .none 0)), #[]⟩
noncomputable def o594 (P : Params) : Obj := ⟨(.type "code"), none, (.fields #[(.str (s "_law_prime_terms") 1135), (.str (s "_law_prime_terms") 1136), (.str (s "/claim/cut.py") 1137), (.int (368) 0), (.int (1) 0), (.int (0) 0), (.int (0) 0), (.int (3) 0), (.ref 591), (.bool true), (.int (374) 0), (.ref 592), .none, .none, .none, (.ref 593), (.int (1138) 0), (.int (368) 0), (.str (s "/claim/cut.py") 1139)]), #[]⟩
noncomputable def o595 (P : Params) : Obj := ⟨(.type "function"), none, (.func (fn (hT 71) (s "_law_prime_terms") (s "_law_prime_terms") 3 [] .none .none .none (.str (s "law_likepanes_k39_known_writings") 1105) none (.ref 594) .none 0)), #[]⟩
noncomputable def o596 (P : Params) : Obj := ⟨(.type "tuple"), none, (.seq #[] 0), #[]⟩
noncomputable def o597 (P : Params) : Obj := ⟨.none, none, (.fields #[]), #[]⟩
noncomputable def o598 (P : Params) : Obj := ⟨.none, none, (.func (fn (hT 72) (s "_law_goes_in") (s "_law_goes_in") 0 [] .none .none .none .none none .none .none 0)), #[]⟩
noncomputable def o599 (P : Params) : Obj := ⟨(.type "code"), none, (.fields #[(.str (s "_law_goes_in") 1141), (.str (s "_law_goes_in") 1142), (.str (s "/claim/cut.py") 1143), (.int (373) 0), (.int (2) 0), (.int (0) 0), (.int (0) 0), (.int (3) 0), (.ref 596), (.bool true), (.int (374) 0), (.ref 597), .none, .none, .none, (.ref 598), (.int (1144) 0), (.int (373) 0), (.str (s "/claim/cut.py") 1145)]), #[]⟩
noncomputable def o600 (P : Params) : Obj := ⟨(.type "function"), none, (.func (fn (hT 72) (s "_law_goes_in") (s "_law_goes_in") 3 [] .none .none .none (.str (s "law_likepanes_k39_known_writings") 1105) none (.ref 599) .none 0)), #[]⟩
noncomputable def o601 (P : Params) : Obj := ⟨(.type "tuple"), none, (.seq #[] 0), #[]⟩
noncomputable def o602 (P : Params) : Obj := ⟨.none, none, (.fields #[]), #[]⟩
noncomputable def o603 (P : Params) : Obj := ⟨(.type "tuple"), none, (.seq #[(.str (s "_law_number") 1150), (.str (s "_law_found") 1151), (.str (s "_law_k") 1152)] 0), #[]⟩
noncomputable def o604 (P : Params) : Obj := ⟨(.type "tuple"), none, (.seq #[] 0), #[]⟩
noncomputable def o605 (P : Params) : Obj := ⟨.none, none, (.func (fn (hT 73) (s "_law_whole_parts") (s "_law_whole_parts") 0 [] .none .none .none .none none .none .none 0)), #[]⟩
noncomputable def o606 (P : Params) : Obj := ⟨(.type "code"), none, (.fields #[(.str (s "_law_whole_parts") 1147), (.str (s "_law_whole_parts") 1148), (.str (s "/claim/cut.py") 1149), (.int (383) 0), (.int (1) 0), (.int (0) 0), (.int (0) 0), (.int (3) 0), (.ref 601), (.bool true), (.int (374) 0), (.ref 602), .none, (.ref 603), (.ref 604), (.ref 605), (.int (1153) 0), (.int (383) 0), (.str (s "/claim/cut.py") 1154)]), #[]⟩
noncomputable def o607 (P : Params) : Obj := ⟨(.type "function"), none, (.func (fn (hT 73) (s "_law_whole_parts") (s "_law_whole_parts") 3 [] .none .none .none (.str (s "law_likepanes_k39_known_writings") 1105) none (.ref 606) .none 0)), #[]⟩
noncomputable def o608 (P : Params) : Obj := ⟨(.type "tuple"), none, (.seq #[] 0), #[]⟩
noncomputable def o609 (P : Params) : Obj := ⟨.none, none, (.fields #[]), #[]⟩
noncomputable def o610 (P : Params) : Obj := ⟨(.type "tuple"), none, (.seq #[(.str (s "_law_terms") 1159), (.str (s "_law_lead") 1160), (.str (s "_law_last") 1161), (.str (s "_law_middle") 1162)] 0), #[]⟩
noncomputable def o611 (P : Params) : Obj := ⟨(.type "tuple"), none, (.seq #[] 0), #[]⟩
noncomputable def o612 (P : Params) : Obj := ⟨.none, none, (.func (fn (hT 74) (s "_law_splits") (s "_law_splits") 0 [] .none .none .none .none none .none .none 0)), #[]⟩
noncomputable def o613 (P : Params) : Obj := ⟨(.type "code"), none, (.fields #[(.str (s "_law_splits") 1156), (.str (s "_law_splits") 1157), (.str (s "/claim/cut.py") 1158), (.int (389) 0), (.int (1) 0), (.int (0) 0), (.int (0) 0), (.int (3) 0), (.ref 608), (.bool true), (.int (374) 0), (.ref 609), .none, (.ref 610), (.ref 611), (.ref 612), (.int (1163) 0), (.int (389) 0), (.str (s "/claim/cut.py") 1164)]), #[]⟩
noncomputable def o614 (P : Params) : Obj := ⟨(.type "function"), none, (.func (fn (hT 74) (s "_law_splits") (s "_law_splits") 3 [] .none .none .none (.str (s "law_likepanes_k39_known_writings") 1105) none (.ref 613) .none 0)), #[]⟩
noncomputable def o615 (P : Params) : Obj := ⟨(.type "tuple"), none, (.seq #[] 0), #[]⟩
noncomputable def o616 (P : Params) : Obj := ⟨.none, none, (.fields #[]), #[]⟩
noncomputable def o617 (P : Params) : Obj := ⟨(.type "tuple"), none, (.seq #[(.str (s "_law_part") 1169), (.str (s "_law_common") 1170)] 0), #[]⟩
noncomputable def o618 (P : Params) : Obj := ⟨(.type "tuple"), none, (.seq #[] 0), #[]⟩
noncomputable def o619 (P : Params) : Obj := ⟨.none, none, (.func (fn (hT 75) (s "_law_fraction") (s "_law_fraction") 0 [] .none .none .none .none none .none .none 0)), #[]⟩
noncomputable def o620 (P : Params) : Obj := ⟨(.type "code"), none, (.fields #[(.str (s "_law_fraction") 1166), (.str (s "_law_fraction") 1167), (.str (s "/claim/cut.py") 1168), (.int (398) 0), (.int (1) 0), (.int (0) 0), (.int (0) 0), (.int (3) 0), (.ref 615), (.bool true), (.int (374) 0), (.ref 616), .none, (.ref 617), (.ref 618), (.ref 619), (.int (1171) 0), (.int (398) 0), (.str (s "/claim/cut.py") 1172)]), #[]⟩
noncomputable def o621 (P : Params) : Obj := ⟨(.type "function"), none, (.func (fn (hT 75) (s "_law_fraction") (s "_law_fraction") 3 [] .none .none .none (.str (s "law_likepanes_k39_known_writings") 1105) none (.ref 620) .none 0)), #[]⟩
noncomputable def o622 (P : Params) : Obj := ⟨(.type "tuple"), none, (.seq #[] 0), #[]⟩
noncomputable def o623 (P : Params) : Obj := ⟨.none, none, (.fields #[]), #[]⟩
noncomputable def o624 (P : Params) : Obj := ⟨.none, none, (.func (fn (hT 76) (s "_law_text") (s "_law_text") 0 [] .none .none .none .none none .none .none 0)), #[]⟩
noncomputable def o625 (P : Params) : Obj := ⟨(.type "code"), none, (.fields #[(.str (s "_law_text") 1174), (.str (s "_law_text") 1175), (.str (s "/claim/cut.py") 1176), (.int (401) 0), (.int (2) 0), (.int (0) 0), (.int (0) 0), (.int (3) 0), (.ref 622), (.bool true), (.int (374) 0), (.ref 623), .none, .none, .none, (.ref 624), (.int (1177) 0), (.int (401) 0), (.str (s "/claim/cut.py") 1178)]), #[]⟩
noncomputable def o626 (P : Params) : Obj := ⟨(.type "function"), none, (.func (fn (hT 76) (s "_law_text") (s "_law_text") 3 [] .none .none .none (.str (s "law_likepanes_k39_known_writings") 1105) none (.ref 625) .none 0)), #[]⟩
noncomputable def o627 (P : Params) : Obj := ⟨(.type "tuple"), none, (.seq #[] 0), #[]⟩
noncomputable def o628 (P : Params) : Obj := ⟨.none, none, (.fields #[]), #[]⟩
noncomputable def o629 (P : Params) : Obj := ⟨(.type "tuple"), none, (.seq #[(.str (s "_law_number") 1183), (.str (s "_law_found") 1184)] 0), #[]⟩
noncomputable def o630 (P : Params) : Obj := ⟨(.type "tuple"), none, (.seq #[] 0), #[]⟩
noncomputable def o631 (P : Params) : Obj := ⟨.none, none, (.func (fn (hT 77) (s "_law_root_down") (s "_law_root_down") 0 [] .none .none .none .none none .none .none 0)), #[]⟩
noncomputable def o632 (P : Params) : Obj := ⟨(.type "code"), none, (.fields #[(.str (s "_law_root_down") 1180), (.str (s "_law_root_down") 1181), (.str (s "/claim/cut.py") 1182), (.int (403) 0), (.int (1) 0), (.int (0) 0), (.int (0) 0), (.int (3) 0), (.ref 627), (.bool true), (.int (374) 0), (.ref 628), .none, (.ref 629), (.ref 630), (.ref 631), (.int (1185) 0), (.int (403) 0), (.str (s "/claim/cut.py") 1186)]), #[]⟩
noncomputable def o633 (P : Params) : Obj := ⟨(.type "function"), none, (.func (fn (hT 77) (s "_law_root_down") (s "_law_root_down") 3 [] .none .none .none (.str (s "law_likepanes_k39_known_writings") 1105) none (.ref 632) .none 0)), #[]⟩
noncomputable def o634 (P : Params) : Obj := ⟨(.type "tuple"), none, (.seq #[] 0), #[]⟩
noncomputable def o635 (P : Params) : Obj := ⟨.none, none, (.fields #[]), #[]⟩
noncomputable def o636 (P : Params) : Obj := ⟨(.type "tuple"), none, (.seq #[(.str (s "_law_tub_here") 1191), (.str (s "_law_whole") 1192), (.str (s "_law_number") 1193), (.str (s "_law_down") 1194), (.str (s "_law_lone") 1195), (.str (s "_law_great") 1196), (.str (s "_law_due") 1197), (.str (s "_law_top") 1198), (.str (s "_law_bottom") 1199), (.str (s "_law_common") 1200), (.str (s "_law_a") 1201), (.str (s "_law_b") 1202), (.str (s "_law_c") 1203), (.str (s "_law_terms") 1204), (.str (s "_law_cubic") 1205), (.str (s "_law_turned") 1206)] 0), #[]⟩
noncomputable def o637 (P : Params) : Obj := ⟨(.type "tuple"), none, (.seq #[] 0), #[]⟩
noncomputable def o638 (P : Params) : Obj := ⟨.none, none, (.func (fn (hT 78) (s "_law_right") (s "_law_right") 0 [] .none .none .none .none none .none .none 0)), #[]⟩
noncomputable def o639 (P : Params) : Obj := ⟨(.type "code"), none, (.fields #[(.str (s "_law_right") 1188), (.str (s "_law_right") 1189), (.str (s "/claim/cut.py") 1190), (.int (408) 0), (.int (1) 0), (.int (0) 0), (.int (0) 0), (.int (3) 0), (.ref 634), (.bool true), (.int (374) 0), (.ref 635), .none, (.ref 636), (.ref 637), (.ref 638), (.int (1207) 0), (.int (408) 0), (.str (s "/claim/cut.py") 1208)]), #[]⟩
noncomputable def o640 (P : Params) : Obj := ⟨(.type "function"), none, (.func (fn (hT 78) (s "_law_right") (s "_law_right") 3 [] .none .none .none (.str (s "law_likepanes_k39_known_writings") 1105) none (.ref 639) .none 0)), #[]⟩
noncomputable def o641 (P : Params) : Obj := ⟨(.type "tuple"), none, (.seq #[] 0), #[]⟩
noncomputable def o642 (P : Params) : Obj := ⟨.none, none, (.fields #[]), #[]⟩
noncomputable def o643 (P : Params) : Obj := ⟨.none, none, (.func (fn (hT 79) (s "law") (s "law") 0 [] .none .none .none .none none .none .none 0)), #[]⟩
noncomputable def o644 (P : Params) : Obj := ⟨(.type "code"), none, (.fields #[(.str (s "law") 1210), (.str (s "law") 1211), (.str (s "/claim/cut.py") 1212), (.int (435) 0), (.int (1) 0), (.int (0) 0), (.int (0) 0), (.int (3) 0), (.ref 641), (.bool true), (.int (374) 0), (.ref 642), .none, .none, .none, (.ref 643), (.int (1213) 0), (.int (435) 0), (.str (s "/claim/cut.py") 1214)]), #[]⟩
noncomputable def o645 (P : Params) : Obj := ⟨(.type "function"), none, (.func (fn (hT 79) (s "law") (s "law") 3 [] .none .none .none (.str (s "law_likepanes_k39_known_writings") 1105) none (.ref 644) .none 0)), #[]⟩
noncomputable def t5 (P : Params) : BT := (n (o0 P) (n (o1 P) (n (o3_5 P) (n (o7 P) (n (o15 P) (n (o31 P) (n (o63 P) (n (o127 P) (n (o255 P) (n (o511 P) z z) z) (n (o383 P) (n (o639 P) z z) z)) (n (o191 P) (n (o319 P) (n (o575 P) z z) z) (n (o447 P) z z))) (n (o95 P) (n (o159 P) (n (o287 P) (n (o543 P) z z) z) (n (o415 P) z z)) (n (o223 P) (n (o351 P) (n (o607 P) z z) z) (n (o479 P) z z)))) (n (o47 P) (n (o79 P) (n (o143 P) (n (o271 P) (n (o527 P) z z) z) (n (o399 P) z z)) (n (o207 P) (n (o335 P) (n (o591 P) z z) z) (n (o463 P) z z))) (n (o111 P) (n (o175 P) (n (o303 P) (n (o559 P) z z) z) (n (o431 P) z z)) (n (o239 P) (n (o367 P) (n (o623 P) z z) z) (n (o495 P) z z))))) (n (o23 P) (n (o39 P) (n (o71 P) (n (o135 P) (n (o263 P) (n (o519 P) z z) z) (n (o391 P) z z)) (n (o199 P) (n (o327 P) (n (o583 P) z z) z) (n (o455 P) z z))) (n (o103 P) (n (o167 P) (n (o295 P) (n (o551 P) z z) z) (n (o423 P) z z)) (n (o231 P) (n (o359 P) (n (o615 P) z z) z) (n (o487 P) z z)))) (n (o55 P) (n (o87 P) (n (o151 P) (n (o279 P) (n (o535 P) z z) z) (n (o407 P) z z)) (n (o215 P) (n (o343 P) (n (o599 P) z z) z) (n (o471 P) z z))) (n (o119 P) (n (o183 P) (n (o311 P) (n (o567 P) z z) z) (n (o439 P) z z)) (n (o247 P) (n (o375 P) (n (o631 P) z z) z) (n (o503 P) z z)))))) (n (o11 P) (n (o19 P) (n (o35 P) (n (o67 P) (n (o131 P) (n (o259 P) (n (o515 P) z z) z) (n (o387 P) (n (o643 P) z z) z)) (n (o195 P) (n (o323 P) (n (o579 P) z z) z) (n (o451 P) z z))) (n (o99 P) (n (o163 P) (n (o291 P) (n (o547 P) z z) z) (n (o419 P) z z)) (n (o227 P) (n (o355 P) (n (o611 P) z z) z) (n (o483 P) z z)))) (n (o51 P) (n (o83 P) (n (o147 P) (n (o275 P) (n (o531 P) z z) z) (n (o403 P) z z)) (n (o211 P) (n (o339 P) (n (o595 P) z z) z) (n (o467 P) z z))) (n (o115 P) (n (o179 P) (n (o307 P) (n (o563 P) z z) z) (n (o435 P) z z)) (n (o243 P) (n (o371 P) (n (o627 P) z z) z) (n (o499 P) z z))))) (n (o27 P) (n (o43 P) (n (o75 P) (n (o139 P) (n (o267 P) (n (o523 P) z z) z) (n (o395 P) z z)) (n (o203 P) (n (o331 P) (n (o587 P) z z) z) (n (o459 P) z z))) (n (o107 P) (n (o171 P) (n (o299 P) (n (o555 P) z z) z) (n (o427 P) z z)) (n (o235 P) (n (o363 P) (n (o619 P) z z) z) (n (o491 P) z z)))) (n (o59_2 P) (n (o91 P) (n (o155 P) (n (o283 P) (n (o539 P) z z) z) (n (o411 P) z z)) (n (o219 P) (n (o347 P) (n (o603 P) z z) z) (n (o475 P) z z))) (n (o123 P) (n (o187 P) (n (o315 P) (n (o571 P) z z) z) (n (o443 P) z z)) (n (o251 P) (n (o379 P) (n (o635 P) z z) z) (n (o507 P) z z))))))) (n (o5 P) (n (o9 P) (n (o17 P) (n (o33 P) (n (o65 P) (n (o129 P) (n (o257 P) (n (o513 P) z z) z) (n (o385 P) (n (o641 P) z z) z)) (n (o193 P) (n (o321 P) (n (o577 P) z z) z) (n (o449 P) z z))) (n (o97 P) (n (o161 P) (n (o289 P) (n (o545 P) z z) z) (n (o417 P) z z)) (n (o225 P) (n (o353 P) (n (o609 P) z z) z) (n (o481 P) z z)))) (n (o49 P) (n (o81 P) (n (o145 P) (n (o273 P) (n (o529 P) z z) z) (n (o401 P) z z)) (n (o209 P) (n (o337 P) (n (o593 P) z z) z) (n (o465 P) z z))) (n (o113 P) (n (o177 P) (n (o305 P) (n (o561 P) z z) z) (n (o433 P) z z)) (n (o241 P) (n (o369 P) (n (o625 P) z z) z) (n (o497 P) z z))))) (n (o25 P) (n (o41 P) (n (o73 P) (n (o137 P) (n (o265 P) (n (o521 P) z z) z) (n (o393 P) z z)) (n (o201 P) (n (o329 P) (n (o585 P) z z) z) (n (o457 P) z z))) (n (o105 P) (n (o169 P) (n (o297 P) (n (o553 P) z z) z) (n (o425 P) z z)) (n (o233 P) (n (o361 P) (n (o617 P) z z) z) (n (o489 P) z z)))) (n (o57 P) (n (o89 P) (n (o153 P) (n (o281 P) (n (o537 P) z z) z) (n (o409 P) z z)) (n (o217 P) (n (o345 P) (n (o601 P) z z) z) (n (o473 P) z z))) (n (o121 P) (n (o185 P) (n (o313 P) (n (o569 P) z z) z) (n (o441 P) z z)) (n (o249 P) (n (o377 P) (n (o633 P) z z) z) (n (o505 P) z z)))))) (n (o13 P) (n (o21 P) (n (o37 P) (n (o69 P) (n (o133 P) (n (o261 P) (n (o517 P) z z) z) (n (o389 P) (n (o645 P) z z) z)) (n (o197 P) (n (o325 P) (n (o581 P) z z) z) (n (o453 P) z z))) (n (o101 P) (n (o165 P) (n (o293 P) (n (o549 P) z z) z) (n (o421 P) z z)) (n (o229 P) (n (o357 P) (n (o613 P) z z) z) (n (o485 P) z z)))) (n (o53 P) (n (o85 P) (n (o149 P) (n (o277 P) (n (o533 P) z z) z) (n (o405 P) z z)) (n (o213 P) (n (o341 P) (n (o597 P) z z) z) (n (o469 P) z z))) (n (o117 P) (n (o181 P) (n (o309 P) (n (o565 P) z z) z) (n (o437 P) z z)) (n (o245 P) (n (o373 P) (n (o629 P) z z) z) (n (o501 P) z z))))) (n (o29 P) (n (o45 P) (n (o77 P) (n (o141 P) (n (o269 P) (n (o525 P) z z) z) (n (o397 P) z z)) (n (o205 P) (n (o333 P) (n (o589 P) z z) z) (n (o461 P) z z))) (n (o109 P) (n (o173 P) (n (o301 P) (n (o557 P) z z) z) (n (o429 P) z z)) (n (o237 P) (n (o365 P) (n (o621 P) z z) z) (n (o493 P) z z)))) (n (o61 P) (n (o93 P) (n (o157 P) (n (o285 P) (n (o541 P) z z) z) (n (o413 P) z z)) (n (o221 P) (n (o349 P) (n (o605 P) z z) z) (n (o477 P) z z))) (n (o125 P) (n (o189 P) (n (o317 P) (n (o573 P) z z) z) (n (o445 P) z z)) (n (o253 P) (n (o381 P) (n (o637 P) z z) z) (n (o509 P) z z)))))))) (n (o2_2 P) (n (o4 P) (n (o8 P) (n (o16 P) (n (o32 P) (n (o64 P) (n (o128 P) (n (o256 P) (n (o512 P) z z) z) (n (o384 P) (n (o640 P) z z) z)) (n (o192 P) (n (o320 P) (n (o576 P) z z) z) (n (o448 P) z z))) (n (o96 P) (n (o160 P) (n (o288 P) (n (o544 P) z z) z) (n (o416 P) z z)) (n (o224 P) (n (o352 P) (n (o608 P) z z) z) (n (o480 P) z z)))) (n (o48 P) (n (o80 P) (n (o144 P) (n (o272 P) (n (o528 P) z z) z) (n (o400 P) z z)) (n (o208 P) (n (o336 P) (n (o592 P) z z) z) (n (o464 P) z z))) (n (o112 P) (n (o176 P) (n (o304 P) (n (o560 P) z z) z) (n (o432 P) z z)) (n (o240 P) (n (o368 P) (n (o624 P) z z) z) (n (o496 P) z z))))) (n (o24 P) (n (o40_5 P) (n (o72 P) (n (o136 P) (n (o264 P) (n (o520 P) z z) z) (n (o392 P) z z)) (n (o200 P) (n (o328 P) (n (o584 P) z z) z) (n (o456 P) z z))) (n (o104 P) (n (o168 P) (n (o296 P) (n (o552 P) z z) z) (n (o424 P) z z)) (n (o232 P) (n (o360 P) (n (o616 P) z z) z) (n (o488 P) z z)))) (n (o56 P) (n (o88 P) (n (o152 P) (n (o280 P) (n (o536 P) z z) z) (n (o408 P) z z)) (n (o216 P) (n (o344 P) (n (o600 P) z z) z) (n (o472 P) z z))) (n (o120 P) (n (o184 P) (n (o312 P) (n (o568 P) z z) z) (n (o440 P) z z)) (n (o248 P) (n (o376 P) (n (o632 P) z z) z) (n (o504 P) z z)))))) (n (o12_0 P) (n (o20 P) (n (o36 P) (n (o68 P) (n (o132 P) (n (o260 P) (n (o516 P) z z) z) (n (o388 P) (n (o644 P) z z) z)) (n (o196 P) (n (o324 P) (n (o580 P) z z) z) (n (o452 P) z z))) (n (o100 P) (n (o164 P) (n (o292 P) (n (o548 P) z z) z) (n (o420 P) z z)) (n (o228 P) (n (o356 P) (n (o612 P) z z) z) (n (o484 P) z z)))) (n (o52 P) (n (o84 P) (n (o148 P) (n (o276 P) (n (o532 P) z z) z) (n (o404 P) z z)) (n (o212 P) (n (o340 P) (n (o596 P) z z) z) (n (o468 P) z z))) (n (o116 P) (n (o180 P) (n (o308 P) (n (o564 P) z z) z) (n (o436 P) z z)) (n (o244 P) (n (o372 P) (n (o628 P) z z) z) (n (o500 P) z z))))) (n (o28 P) (n (o44 P) (n (o76 P) (n (o140 P) (n (o268 P) (n (o524 P) z z) z) (n (o396 P) z z)) (n (o204 P) (n (o332 P) (n (o588 P) z z) z) (n (o460 P) z z))) (n (o108 P) (n (o172 P) (n (o300 P) (n (o556 P) z z) z) (n (o428 P) z z)) (n (o236 P) (n (o364 P) (n (o620 P) z z) z) (n (o492 P) z z)))) (n (o60 P) (n (o92 P) (n (o156 P) (n (o284 P) (n (o540 P) z z) z) (n (o412 P) z z)) (n (o220 P) (n (o348 P) (n (o604 P) z z) z) (n (o476 P) z z))) (n (o124 P) (n (o188 P) (n (o316 P) (n (o572 P) z z) z) (n (o444 P) z z)) (n (o252 P) (n (o380 P) (n (o636 P) z z) z) (n (o508 P) z z))))))) (n (o6 P) (n (o10 P) (n (o18 P) (n (o34 P) (n (o66 P) (n (o130 P) (n (o258 P) (n (o514 P) z z) z) (n (o386 P) (n (o642 P) z z) z)) (n (o194 P) (n (o322 P) (n (o578 P) z z) z) (n (o450 P) z z))) (n (o98 P) (n (o162 P) (n (o290 P) (n (o546 P) z z) z) (n (o418 P) z z)) (n (o226 P) (n (o354 P) (n (o610 P) z z) z) (n (o482 P) z z)))) (n (o50 P) (n (o82 P) (n (o146 P) (n (o274 P) (n (o530 P) z z) z) (n (o402 P) z z)) (n (o210 P) (n (o338 P) (n (o594 P) z z) z) (n (o466 P) z z))) (n (o114 P) (n (o178 P) (n (o306 P) (n (o562 P) z z) z) (n (o434 P) z z)) (n (o242 P) (n (o370 P) (n (o626 P) z z) z) (n (o498 P) z z))))) (n (o26 P) (n (o42 P) (n (o74 P) (n (o138 P) (n (o266 P) (n (o522 P) z z) z) (n (o394 P) z z)) (n (o202 P) (n (o330 P) (n (o586 P) z z) z) (n (o458 P) z z))) (n (o106 P) (n (o170 P) (n (o298 P) (n (o554 P) z z) z) (n (o426 P) z z)) (n (o234 P) (n (o362 P) (n (o618 P) z z) z) (n (o490 P) z z)))) (n (o58 P) (n (o90 P) (n (o154 P) (n (o282 P) (n (o538 P) z z) z) (n (o410 P) z z)) (n (o218 P) (n (o346 P) (n (o602 P) z z) z) (n (o474 P) z z))) (n (o122 P) (n (o186 P) (n (o314 P) (n (o570 P) z z) z) (n (o442 P) z z)) (n (o250 P) (n (o378 P) (n (o634 P) z z) z) (n (o506 P) z z)))))) (n (o14 P) (n (o22 P) (n (o38 P) (n (o70 P) (n (o134 P) (n (o262 P) (n (o518 P) z z) z) (n (o390 P) z z)) (n (o198 P) (n (o326 P) (n (o582 P) z z) z) (n (o454 P) z z))) (n (o102 P) (n (o166 P) (n (o294 P) (n (o550 P) z z) z) (n (o422 P) z z)) (n (o230 P) (n (o358 P) (n (o614 P) z z) z) (n (o486 P) z z)))) (n (o54 P) (n (o86 P) (n (o150 P) (n (o278 P) (n (o534 P) z z) z) (n (o406 P) z z)) (n (o214 P) (n (o342 P) (n (o598 P) z z) z) (n (o470 P) z z))) (n (o118 P) (n (o182 P) (n (o310 P) (n (o566 P) z z) z) (n (o438 P) z z)) (n (o246 P) (n (o374 P) (n (o630 P) z z) z) (n (o502 P) z z))))) (n (o30 P) (n (o46 P) (n (o78 P) (n (o142 P) (n (o270 P) (n (o526 P) z z) z) (n (o398 P) z z)) (n (o206 P) (n (o334 P) (n (o590 P) z z) z) (n (o462 P) z z))) (n (o110 P) (n (o174 P) (n (o302 P) (n (o558 P) z z) z) (n (o430 P) z z)) (n (o238 P) (n (o366 P) (n (o622 P) z z) z) (n (o494 P) z z)))) (n (o62 P) (n (o94 P) (n (o158 P) (n (o286 P) (n (o542 P) z z) z) (n (o414 P) z z)) (n (o222 P) (n (o350 P) (n (o606 P) z z) z) (n (o478 P) z z))) (n (o126 P) (n (o190 P) (n (o318 P) (n (o574 P) z z) z) (n (o446 P) z z)) (n (o254 P) (n (o382 P) (n (o638 P) z z) z) (n (o510 P) z z)))))))))
noncomputable def X5 (w : World) (os : OsState) : SharedT := ⟨t5 w.params, 646, {}, #[], {}, 1216, os⟩
noncomputable def tf (P : Params) : BT := (n (o0 P) (n (o1 P) (n (o3_5 P) (n (o7 P) (n (o15 P) (n (o31 P) (n (o63 P) (n (o127 P) (n (o255 P) (n (o511 P) z z) z) (n (o383 P) (n (o639 P) z z) z)) (n (o191 P) (n (o319 P) (n (o575 P) z z) z) (n (o447 P) z z))) (n (o95 P) (n (o159 P) (n (o287 P) (n (o543 P) z z) z) (n (o415 P) z z)) (n (o223 P) (n (o351 P) (n (o607 P) z z) z) (n (o479 P) z z)))) (n (o47 P) (n (o79 P) (n (o143 P) (n (o271 P) (n (o527 P) z z) z) (n (o399 P) z z)) (n (o207 P) (n (o335 P) (n (o591 P) z z) z) (n (o463 P) z z))) (n (o111 P) (n (o175 P) (n (o303 P) (n (o559 P) z z) z) (n (o431 P) z z)) (n (o239 P) (n (o367 P) (n (o623 P) z z) z) (n (o495 P) z z))))) (n (o23 P) (n (o39 P) (n (o71 P) (n (o135 P) (n (o263 P) (n (o519 P) z z) z) (n (o391 P) z z)) (n (o199 P) (n (o327 P) (n (o583 P) z z) z) (n (o455 P) z z))) (n (o103 P) (n (o167 P) (n (o295 P) (n (o551 P) z z) z) (n (o423 P) z z)) (n (o231 P) (n (o359 P) (n (o615 P) z z) z) (n (o487 P) z z)))) (n (o55 P) (n (o87 P) (n (o151 P) (n (o279 P) (n (o535 P) z z) z) (n (o407 P) z z)) (n (o215 P) (n (o343 P) (n (o599 P) z z) z) (n (o471 P) z z))) (n (o119 P) (n (o183 P) (n (o311 P) (n (o567 P) z z) z) (n (o439 P) z z)) (n (o247 P) (n (o375 P) (n (o631 P) z z) z) (n (o503 P) z z)))))) (n (o11 P) (n (o19 P) (n (o35 P) (n (o67 P) (n (o131 P) (n (o259 P) (n (o515 P) z z) z) (n (o387 P) (n (o643 P) z z) z)) (n (o195 P) (n (o323 P) (n (o579 P) z z) z) (n (o451 P) z z))) (n (o99 P) (n (o163 P) (n (o291 P) (n (o547 P) z z) z) (n (o419 P) z z)) (n (o227 P) (n (o355 P) (n (o611 P) z z) z) (n (o483 P) z z)))) (n (o51 P) (n (o83 P) (n (o147 P) (n (o275 P) (n (o531 P) z z) z) (n (o403 P) z z)) (n (o211 P) (n (o339 P) (n (o595 P) z z) z) (n (o467 P) z z))) (n (o115 P) (n (o179 P) (n (o307 P) (n (o563 P) z z) z) (n (o435 P) z z)) (n (o243 P) (n (o371 P) (n (o627 P) z z) z) (n (o499 P) z z))))) (n (o27 P) (n (o43 P) (n (o75 P) (n (o139 P) (n (o267 P) (n (o523 P) z z) z) (n (o395 P) z z)) (n (o203 P) (n (o331 P) (n (o587 P) z z) z) (n (o459 P) z z))) (n (o107 P) (n (o171 P) (n (o299 P) (n (o555 P) z z) z) (n (o427 P) z z)) (n (o235 P) (n (o363 P) (n (o619 P) z z) z) (n (o491 P) z z)))) (n (o59_2 P) (n (o91 P) (n (o155 P) (n (o283 P) (n (o539 P) z z) z) (n (o411 P) z z)) (n (o219 P) (n (o347 P) (n (o603 P) z z) z) (n (o475 P) z z))) (n (o123 P) (n (o187 P) (n (o315 P) (n (o571 P) z z) z) (n (o443 P) z z)) (n (o251 P) (n (o379 P) (n (o635 P) z z) z) (n (o507 P) z z))))))) (n (o5 P) (n (o9 P) (n (o17 P) (n (o33 P) (n (o65 P) (n (o129 P) (n (o257 P) (n (o513 P) z z) z) (n (o385 P) (n (o641 P) z z) z)) (n (o193 P) (n (o321 P) (n (o577 P) z z) z) (n (o449 P) z z))) (n (o97 P) (n (o161 P) (n (o289 P) (n (o545 P) z z) z) (n (o417 P) z z)) (n (o225 P) (n (o353 P) (n (o609 P) z z) z) (n (o481 P) z z)))) (n (o49 P) (n (o81 P) (n (o145 P) (n (o273 P) (n (o529 P) z z) z) (n (o401 P) z z)) (n (o209 P) (n (o337 P) (n (o593 P) z z) z) (n (o465 P) z z))) (n (o113 P) (n (o177 P) (n (o305 P) (n (o561 P) z z) z) (n (o433 P) z z)) (n (o241 P) (n (o369 P) (n (o625 P) z z) z) (n (o497 P) z z))))) (n (o25 P) (n (o41 P) (n (o73 P) (n (o137 P) (n (o265 P) (n (o521 P) z z) z) (n (o393 P) z z)) (n (o201 P) (n (o329 P) (n (o585 P) z z) z) (n (o457 P) z z))) (n (o105 P) (n (o169 P) (n (o297 P) (n (o553 P) z z) z) (n (o425 P) z z)) (n (o233 P) (n (o361 P) (n (o617 P) z z) z) (n (o489 P) z z)))) (n (o57 P) (n (o89 P) (n (o153 P) (n (o281 P) (n (o537 P) z z) z) (n (o409 P) z z)) (n (o217 P) (n (o345 P) (n (o601 P) z z) z) (n (o473 P) z z))) (n (o121 P) (n (o185 P) (n (o313 P) (n (o569 P) z z) z) (n (o441 P) z z)) (n (o249 P) (n (o377 P) (n (o633 P) z z) z) (n (o505 P) z z)))))) (n (o13 P) (n (o21 P) (n (o37 P) (n (o69 P) (n (o133 P) (n (o261 P) (n (o517 P) z z) z) (n (o389 P) (n (o645 P) z z) z)) (n (o197 P) (n (o325 P) (n (o581 P) z z) z) (n (o453 P) z z))) (n (o101 P) (n (o165 P) (n (o293 P) (n (o549 P) z z) z) (n (o421 P) z z)) (n (o229 P) (n (o357 P) (n (o613 P) z z) z) (n (o485 P) z z)))) (n (o53 P) (n (o85 P) (n (o149 P) (n (o277 P) (n (o533 P) z z) z) (n (o405 P) z z)) (n (o213 P) (n (o341 P) (n (o597 P) z z) z) (n (o469 P) z z))) (n (o117 P) (n (o181 P) (n (o309 P) (n (o565 P) z z) z) (n (o437 P) z z)) (n (o245 P) (n (o373 P) (n (o629 P) z z) z) (n (o501 P) z z))))) (n (o29 P) (n (o45 P) (n (o77 P) (n (o141 P) (n (o269 P) (n (o525 P) z z) z) (n (o397 P) z z)) (n (o205 P) (n (o333 P) (n (o589 P) z z) z) (n (o461 P) z z))) (n (o109 P) (n (o173 P) (n (o301 P) (n (o557 P) z z) z) (n (o429 P) z z)) (n (o237 P) (n (o365 P) (n (o621 P) z z) z) (n (o493 P) z z)))) (n (o61 P) (n (o93 P) (n (o157 P) (n (o285 P) (n (o541 P) z z) z) (n (o413 P) z z)) (n (o221 P) (n (o349 P) (n (o605 P) z z) z) (n (o477 P) z z))) (n (o125 P) (n (o189 P) (n (o317 P) (n (o573 P) z z) z) (n (o445 P) z z)) (n (o253 P) (n (o381 P) (n (o637 P) z z) z) (n (o509 P) z z)))))))) (n (o2_2 P) (n (o4 P) (n (o8 P) (n (o16 P) (n (o32 P) (n (o64 P) (n (o128 P) (n (o256 P) (n (o512 P) z z) z) (n (o384 P) (n (o640 P) z z) z)) (n (o192 P) (n (o320 P) (n (o576 P) z z) z) (n (o448 P) z z))) (n (o96 P) (n (o160 P) (n (o288 P) (n (o544 P) z z) z) (n (o416 P) z z)) (n (o224 P) (n (o352 P) (n (o608 P) z z) z) (n (o480 P) z z)))) (n (o48 P) (n (o80 P) (n (o144 P) (n (o272 P) (n (o528 P) z z) z) (n (o400 P) z z)) (n (o208 P) (n (o336 P) (n (o592 P) z z) z) (n (o464 P) z z))) (n (o112 P) (n (o176 P) (n (o304 P) (n (o560 P) z z) z) (n (o432 P) z z)) (n (o240 P) (n (o368 P) (n (o624 P) z z) z) (n (o496 P) z z))))) (n (o24 P) (n (o40_5 P) (n (o72 P) (n (o136 P) (n (o264 P) (n (o520 P) z z) z) (n (o392 P) z z)) (n (o200 P) (n (o328 P) (n (o584 P) z z) z) (n (o456 P) z z))) (n (o104 P) (n (o168 P) (n (o296 P) (n (o552 P) z z) z) (n (o424 P) z z)) (n (o232 P) (n (o360 P) (n (o616 P) z z) z) (n (o488 P) z z)))) (n (o56 P) (n (o88 P) (n (o152 P) (n (o280 P) (n (o536 P) z z) z) (n (o408 P) z z)) (n (o216 P) (n (o344 P) (n (o600 P) z z) z) (n (o472 P) z z))) (n (o120 P) (n (o184 P) (n (o312 P) (n (o568 P) z z) z) (n (o440 P) z z)) (n (o248 P) (n (o376 P) (n (o632 P) z z) z) (n (o504 P) z z)))))) (n (o12_0 P) (n (o20 P) (n (o36 P) (n (o68 P) (n (o132 P) (n (o260 P) (n (o516 P) z z) z) (n (o388 P) (n (o644 P) z z) z)) (n (o196 P) (n (o324 P) (n (o580 P) z z) z) (n (o452 P) z z))) (n (o100 P) (n (o164 P) (n (o292 P) (n (o548 P) z z) z) (n (o420 P) z z)) (n (o228 P) (n (o356 P) (n (o612 P) z z) z) (n (o484 P) z z)))) (n (o52 P) (n (o84 P) (n (o148 P) (n (o276 P) (n (o532 P) z z) z) (n (o404 P) z z)) (n (o212 P) (n (o340 P) (n (o596 P) z z) z) (n (o468 P) z z))) (n (o116 P) (n (o180 P) (n (o308 P) (n (o564 P) z z) z) (n (o436 P) z z)) (n (o244 P) (n (o372 P) (n (o628 P) z z) z) (n (o500 P) z z))))) (n (o28 P) (n (o44 P) (n (o76 P) (n (o140 P) (n (o268 P) (n (o524 P) z z) z) (n (o396 P) z z)) (n (o204 P) (n (o332 P) (n (o588 P) z z) z) (n (o460 P) z z))) (n (o108 P) (n (o172 P) (n (o300 P) (n (o556 P) z z) z) (n (o428 P) z z)) (n (o236 P) (n (o364 P) (n (o620 P) z z) z) (n (o492 P) z z)))) (n (o60 P) (n (o92 P) (n (o156 P) (n (o284 P) (n (o540 P) z z) z) (n (o412 P) z z)) (n (o220 P) (n (o348 P) (n (o604 P) z z) z) (n (o476 P) z z))) (n (o124 P) (n (o188 P) (n (o316 P) (n (o572 P) z z) z) (n (o444 P) z z)) (n (o252 P) (n (o380 P) (n (o636 P) z z) z) (n (o508 P) z z))))))) (n (o6 P) (n (o10 P) (n (o18 P) (n (o34 P) (n (o66 P) (n (o130 P) (n (o258 P) (n (o514 P) z z) z) (n (o386 P) (n (o642 P) z z) z)) (n (o194 P) (n (o322 P) (n (o578 P) z z) z) (n (o450 P) z z))) (n (o98 P) (n (o162 P) (n (o290 P) (n (o546 P) z z) z) (n (o418 P) z z)) (n (o226 P) (n (o354 P) (n (o610 P) z z) z) (n (o482 P) z z)))) (n (o50 P) (n (o82 P) (n (o146 P) (n (o274 P) (n (o530 P) z z) z) (n (o402 P) z z)) (n (o210 P) (n (o338 P) (n (o594 P) z z) z) (n (o466 P) z z))) (n (o114 P) (n (o178 P) (n (o306 P) (n (o562 P) z z) z) (n (o434 P) z z)) (n (o242 P) (n (o370 P) (n (o626 P) z z) z) (n (o498 P) z z))))) (n (o26 P) (n (o42 P) (n (o74 P) (n (o138 P) (n (o266 P) (n (o522 P) z z) z) (n (o394 P) z z)) (n (o202 P) (n (o330 P) (n (o586 P) z z) z) (n (o458 P) z z))) (n (o106 P) (n (o170 P) (n (o298 P) (n (o554 P) z z) z) (n (o426 P) z z)) (n (o234 P) (n (o362 P) (n (o618 P) z z) z) (n (o490 P) z z)))) (n (o58 P) (n (o90 P) (n (o154 P) (n (o282 P) (n (o538 P) z z) z) (n (o410 P) z z)) (n (o218 P) (n (o346 P) (n (o602 P) z z) z) (n (o474 P) z z))) (n (o122 P) (n (o186 P) (n (o314 P) (n (o570 P) z z) z) (n (o442 P) z z)) (n (o250 P) (n (o378 P) (n (o634 P) z z) z) (n (o506 P) z z)))))) (n (o14 P) (n (o22 P) (n (o38 P) (n (o70 P) (n (o134 P) (n (o262 P) (n (o518 P) z z) z) (n (o390 P) z z)) (n (o198 P) (n (o326 P) (n (o582 P) z z) z) (n (o454 P) z z))) (n (o102 P) (n (o166 P) (n (o294 P) (n (o550 P) z z) z) (n (o422 P) z z)) (n (o230 P) (n (o358 P) (n (o614 P) z z) z) (n (o486 P) z z)))) (n (o54 P) (n (o86 P) (n (o150 P) (n (o278 P) (n (o534 P) z z) z) (n (o406 P) z z)) (n (o214 P) (n (o342 P) (n (o598 P) z z) z) (n (o470 P) z z))) (n (o118 P) (n (o182 P) (n (o310 P) (n (o566 P) z z) z) (n (o438 P) z z)) (n (o246 P) (n (o374 P) (n (o630 P) z z) z) (n (o502 P) z z))))) (n (o30 P) (n (o46 P) (n (o78 P) (n (o142 P) (n (o270 P) (n (o526 P) z z) z) (n (o398 P) z z)) (n (o206 P) (n (o334 P) (n (o590 P) z z) z) (n (o462 P) z z))) (n (o110 P) (n (o174 P) (n (o302 P) (n (o558 P) z z) z) (n (o430 P) z z)) (n (o238 P) (n (o366 P) (n (o622 P) z z) z) (n (o494 P) z z)))) (n (o62 P) (n (o94 P) (n (o158 P) (n (o286 P) (n (o542 P) z z) z) (n (o414 P) z z)) (n (o222 P) (n (o350 P) (n (o606 P) z z) z) (n (o478 P) z z))) (n (o126 P) (n (o190 P) (n (o318 P) (n (o574 P) z z) z) (n (o446 P) z z)) (n (o254 P) (n (o382 P) (n (o638 P) z z) z) (n (o510 P) z z)))))))))
noncomputable def Xf (w : World) (os : OsState) : SharedT := ⟨tf w.params, 646, {}, #[], {}, 1216, os⟩
noncomputable def lf (P : Params) : List Obj := [o0 P, o1 P, o2_2 P, o3_5 P, o4 P, o5 P, o6 P, o7 P, o8 P, o9 P, o10 P, o11 P, o12_0 P, o13 P, o14 P, o15 P, o16 P, o17 P, o18 P, o19 P, o20 P, o21 P, o22 P, o23 P, o24 P, o25 P, o26 P, o27 P, o28 P, o29 P, o30 P, o31 P, o32 P, o33 P, o34 P, o35 P, o36 P, o37 P, o38 P, o39 P, o40_5 P, o41 P, o42 P, o43 P, o44 P, o45 P, o46 P, o47 P, o48 P, o49 P, o50 P, o51 P, o52 P, o53 P, o54 P, o55 P, o56 P, o57 P, o58 P, o59_2 P, o60 P, o61 P, o62 P, o63 P, o64 P, o65 P, o66 P, o67 P, o68 P, o69 P, o70 P, o71 P, o72 P, o73 P, o74 P, o75 P, o76 P, o77 P, o78 P, o79 P, o80 P, o81 P, o82 P, o83 P, o84 P, o85 P, o86 P, o87 P, o88 P, o89 P, o90 P, o91 P, o92 P, o93 P, o94 P, o95 P, o96 P, o97 P, o98 P, o99 P, o100 P, o101 P, o102 P, o103 P, o104 P, o105 P, o106 P, o107 P, o108 P, o109 P, o110 P, o111 P, o112 P, o113 P, o114 P, o115 P, o116 P, o117 P, o118 P, o119 P, o120 P, o121 P, o122 P, o123 P, o124 P, o125 P, o126 P, o127 P, o128 P, o129 P, o130 P, o131 P, o132 P, o133 P, o134 P, o135 P, o136 P, o137 P, o138 P, o139 P, o140 P, o141 P, o142 P, o143 P, o144 P, o145 P, o146 P, o147 P, o148 P, o149 P, o150 P, o151 P, o152 P, o153 P, o154 P, o155 P, o156 P, o157 P, o158 P, o159 P, o160 P, o161 P, o162 P, o163 P, o164 P, o165 P, o166 P, o167 P, o168 P, o169 P, o170 P, o171 P, o172 P, o173 P, o174 P, o175 P, o176 P, o177 P, o178 P, o179 P, o180 P, o181 P, o182 P, o183 P, o184 P, o185 P, o186 P, o187 P, o188 P, o189 P, o190 P, o191 P, o192 P, o193 P, o194 P, o195 P, o196 P, o197 P, o198 P, o199 P, o200 P, o201 P, o202 P, o203 P, o204 P, o205 P, o206 P, o207 P, o208 P, o209 P, o210 P, o211 P, o212 P, o213 P, o214 P, o215 P, o216 P, o217 P, o218 P, o219 P, o220 P, o221 P, o222 P, o223 P, o224 P, o225 P, o226 P, o227 P, o228 P, o229 P, o230 P, o231 P, o232 P, o233 P, o234 P, o235 P, o236 P, o237 P, o238 P, o239 P, o240 P, o241 P, o242 P, o243 P, o244 P, o245 P, o246 P, o247 P, o248 P, o249 P, o250 P, o251 P, o252 P, o253 P, o254 P, o255 P, o256 P, o257 P, o258 P, o259 P, o260 P, o261 P, o262 P, o263 P, o264 P, o265 P, o266 P, o267 P, o268 P, o269 P, o270 P, o271 P, o272 P, o273 P, o274 P, o275 P, o276 P, o277 P, o278 P, o279 P, o280 P, o281 P, o282 P, o283 P, o284 P, o285 P, o286 P, o287 P, o288 P, o289 P, o290 P, o291 P, o292 P, o293 P, o294 P, o295 P, o296 P, o297 P, o298 P, o299 P, o300 P, o301 P, o302 P, o303 P, o304 P, o305 P, o306 P, o307 P, o308 P, o309 P, o310 P, o311 P, o312 P, o313 P, o314 P, o315 P, o316 P, o317 P, o318 P, o319 P, o320 P, o321 P, o322 P, o323 P, o324 P, o325 P, o326 P, o327 P, o328 P, o329 P, o330 P, o331 P, o332 P, o333 P, o334 P, o335 P, o336 P, o337 P, o338 P, o339 P, o340 P, o341 P, o342 P, o343 P, o344 P, o345 P, o346 P, o347 P, o348 P, o349 P, o350 P, o351 P, o352 P, o353 P, o354 P, o355 P, o356 P, o357 P, o358 P, o359 P, o360 P, o361 P, o362 P, o363 P, o364 P, o365 P, o366 P, o367 P, o368 P, o369 P, o370 P, o371 P, o372 P, o373 P, o374 P, o375 P, o376 P, o377 P, o378 P, o379 P, o380 P, o381 P, o382 P, o383 P, o384 P, o385 P, o386 P, o387 P, o388 P, o389 P, o390 P, o391 P, o392 P, o393 P, o394 P, o395 P, o396 P, o397 P, o398 P, o399 P, o400 P, o401 P, o402 P, o403 P, o404 P, o405 P, o406 P, o407 P, o408 P, o409 P, o410 P, o411 P, o412 P, o413 P, o414 P, o415 P, o416 P, o417 P, o418 P, o419 P, o420 P, o421 P, o422 P, o423 P, o424 P, o425 P, o426 P, o427 P, o428 P, o429 P, o430 P, o431 P, o432 P, o433 P, o434 P, o435 P, o436 P, o437 P, o438 P, o439 P, o440 P, o441 P, o442 P, o443 P, o444 P, o445 P, o446 P, o447 P, o448 P, o449 P, o450 P, o451 P, o452 P, o453 P, o454 P, o455 P, o456 P, o457 P, o458 P, o459 P, o460 P, o461 P, o462 P, o463 P, o464 P, o465 P, o466 P, o467 P, o468 P, o469 P, o470 P, o471 P, o472 P, o473 P, o474 P, o475 P, o476 P, o477 P, o478 P, o479 P, o480 P, o481 P, o482 P, o483 P, o484 P, o485 P, o486 P, o487 P, o488 P, o489 P, o490 P, o491 P, o492 P, o493 P, o494 P, o495 P, o496 P, o497 P, o498 P, o499 P, o500 P, o501 P, o502 P, o503 P, o504 P, o505 P, o506 P, o507 P, o508 P, o509 P, o510 P, o511 P, o512 P, o513 P, o514 P, o515 P, o516 P, o517 P, o518 P, o519 P, o520 P, o521 P, o522 P, o523 P, o524 P, o525 P, o526 P, o527 P, o528 P, o529 P, o530 P, o531 P, o532 P, o533 P, o534 P, o535 P, o536 P, o537 P, o538 P, o539 P, o540 P, o541 P, o542 P, o543 P, o544 P, o545 P, o546 P, o547 P, o548 P, o549 P, o550 P, o551 P, o552 P, o553 P, o554 P, o555 P, o556 P, o557 P, o558 P, o559 P, o560 P, o561 P, o562 P, o563 P, o564 P, o565 P, o566 P, o567 P, o568 P, o569 P, o570 P, o571 P, o572 P, o573 P, o574 P, o575 P, o576 P, o577 P, o578 P, o579 P, o580 P, o581 P, o582 P, o583 P, o584 P, o585 P, o586 P, o587 P, o588 P, o589 P, o590 P, o591 P, o592 P, o593 P, o594 P, o595 P, o596 P, o597 P, o598 P, o599 P, o600 P, o601 P, o602 P, o603 P, o604 P, o605 P, o606 P, o607 P, o608 P, o609 P, o610 P, o611 P, o612 P, o613 P, o614 P, o615 P, o616 P, o617 P, o618 P, o619 P, o620 P, o621 P, o622 P, o623 P, o624 P, o625 P, o626 P, o627 P, o628 P, o629 P, o630 P, o631 P, o632 P, o633 P, o634 P, o635 P, o636 P, o637 P, o638 P, o639 P, o640 P, o641 P, o642 P, o643 P, o644 P, o645 P]
noncomputable def Yf (w : World) (os : OsState) : Shared := ⟨⟨⟨lf w.params⟩, {}⟩, #[], {}, 1216, os⟩
noncomputable def K (P : Params) : Frag := [(2, o2_2 P), (3, o3_5 P), (43, o43 P), (45, o45 P), (46, o46 P), (48, o48 P), (49, o49 P), (50, o50 P), (57, o57 P), (58, o58 P), (59, o59_2 P), (60, o60 P), (63, o63 P), (70, o70 P), (72, o72 P), (73, o73 P), (75, o75 P), (76, o76 P), (77, o77 P), (78, o78 P), (79, o79 P), (82, o82 P), (89, o89 P), (91, o91 P), (92, o92 P), (94, o94 P), (95, o95 P), (96, o96 P), (97, o97 P), (98, o98 P), (101, o101 P), (108, o108 P), (110, o110 P), (111, o111 P), (113, o113 P), (114, o114 P), (115, o115 P), (116, o116 P), (117, o117 P), (120, o120 P), (127, o127 P), (129, o129 P), (130, o130 P), (132, o132 P), (133, o133 P), (134, o134 P), (135, o135 P), (136, o136 P), (139, o139 P), (146, o146 P), (147, o147 P), (148, o148 P), (149, o149 P), (152, o152 P), (159, o159 P), (161, o161 P), (162, o162 P), (164, o164 P), (165, o165 P), (166, o166 P), (167, o167 P), (168, o168 P), (171, o171 P), (178, o178 P), (180, o180 P), (181, o181 P), (183, o183 P), (184, o184 P), (185, o185 P), (186, o186 P), (187, o187 P), (190, o190 P), (192, o192 P), (193, o193 P), (195, o195 P), (196, o196 P), (197, o197 P), (200, o200 P), (201, o201 P), (202, o202 P), (204, o204 P), (205, o205 P), (207, o207 P), (208, o208 P), (209, o209 P), (211, o211 P), (212, o212 P), (214, o214 P), (215, o215 P), (216, o216 P), (218, o218 P), (219, o219 P), (221, o221 P), (222, o222 P), (223, o223 P), (225, o225 P), (226, o226 P), (228, o228 P), (229, o229 P), (230, o230 P), (232, o232 P), (233, o233 P), (235, o235 P), (236, o236 P), (237, o237 P), (239, o239 P), (240, o240 P), (242, o242 P), (243, o243 P), (244, o244 P), (247, o247 P), (248, o248 P), (249, o249 P), (252, o252 P), (253, o253 P), (254, o254 P), (257, o257 P), (258, o258 P), (259, o259 P), (261, o261 P), (262, o262 P), (264, o264 P), (265, o265 P), (266, o266 P), (268, o268 P), (269, o269 P), (271, o271 P), (272, o272 P), (273, o273 P), (275, o275 P), (276, o276 P), (278, o278 P), (279, o279 P), (280, o280 P), (282, o282 P), (283, o283 P), (285, o285 P), (286, o286 P), (287, o287 P), (289, o289 P), (290, o290 P), (292, o292 P), (293, o293 P), (294, o294 P), (297, o297 P), (298, o298 P), (299, o299 P), (302, o302 P), (303, o303 P), (304, o304 P), (306, o306 P), (307, o307 P), (309, o309 P), (310, o310 P), (311, o311 P), (313, o313 P), (314, o314 P), (316, o316 P), (317, o317 P), (318, o318 P), (320, o320 P), (321, o321 P), (323, o323 P), (324, o324 P), (325, o325 P), (327, o327 P), (328, o328 P), (330, o330 P), (331, o331 P), (332, o332 P), (334, o334 P), (335, o335 P), (337, o337 P), (338, o338 P), (339, o339 P), (341, o341 P), (342, o342 P), (344, o344 P), (345, o345 P), (346, o346 P), (348, o348 P), (349, o349 P), (351, o351 P), (352, o352 P), (353, o353 P), (355, o355 P), (356, o356 P), (358, o358 P), (359, o359 P), (360, o360 P), (362, o362 P), (363, o363 P), (365, o365 P), (366, o366 P), (367, o367 P), (369, o369 P), (370, o370 P), (372, o372 P), (373, o373 P), (374, o374 P), (376, o376 P), (377, o377 P), (379, o379 P), (380, o380 P), (381, o381 P), (384, o384 P), (385, o385 P), (386, o386 P), (388, o388 P), (389, o389 P), (391, o391 P), (392, o392 P), (393, o393 P), (395, o395 P), (396, o396 P), (398, o398 P), (399, o399 P), (400, o400 P), (402, o402 P), (403, o403 P), (405, o405 P), (406, o406 P), (407, o407 P), (410, o410 P), (411, o411 P), (419, o419 P), (421, o421 P), (422, o422 P), (424, o424 P), (425, o425 P), (426, o426 P), (429, o429 P), (430, o430 P), (431, o431 P), (432, o432 P), (433, o433 P), (434, o434 P), (436, o436 P), (437, o437 P), (439, o439 P), (440, o440 P), (441, o441 P), (442, o442 P), (444, o444 P), (445, o445 P), (447, o447 P), (448, o448 P), (449, o449 P), (450, o450 P), (452, o452 P), (453, o453 P), (455, o455 P), (456, o456 P), (457, o457 P), (458, o458 P), (460, o460 P), (461, o461 P), (463, o463 P), (464, o464 P), (465, o465 P), (466, o466 P), (468, o468 P), (469, o469 P), (471, o471 P), (472, o472 P), (473, o473 P), (475, o475 P), (476, o476 P), (478, o478 P), (479, o479 P), (480, o480 P), (482, o482 P), (483, o483 P), (485, o485 P), (486, o486 P), (487, o487 P), (488, o488 P), (489, o489 P), (490, o490 P), (491, o491 P), (494, o494 P), (496, o496 P), (497, o497 P), (499, o499 P), (500, o500 P), (501, o501 P), (503, o503 P), (504, o504 P), (506, o506 P), (507, o507 P), (508, o508 P), (510, o510 P), (511, o511 P), (513, o513 P), (514, o514 P), (515, o515 P), (517, o517 P), (518, o518 P), (520, o520 P), (521, o521 P), (522, o522 P), (525, o525 P), (526, o526 P), (527, o527 P), (529, o529 P), (530, o530 P), (532, o532 P), (533, o533 P), (534, o534 P), (537, o537 P), (538, o538 P), (539, o539 P), (541, o541 P), (542, o542 P), (544, o544 P), (545, o545 P), (546, o546 P), (548, o548 P), (549, o549 P), (551, o551 P), (552, o552 P), (553, o553 P), (556, o556 P), (557, o557 P), (558, o558 P), (561, o561 P), (562, o562 P), (563, o563 P), (565, o565 P), (566, o566 P), (568, o568 P), (569, o569 P), (570, o570 P), (572, o572 P), (573, o573 P), (575, o575 P), (576, o576 P), (577, o577 P), (579, o579 P), (580, o580 P), (582, o582 P), (583, o583 P), (584, o584 P), (586, o586 P), (587, o587 P), (589, o589 P), (590, o590 P), (591, o591 P), (594, o594 P), (595, o595 P), (596, o596 P), (599, o599 P), (600, o600 P), (601, o601 P), (603, o603 P), (604, o604 P), (606, o606 P), (607, o607 P), (608, o608 P), (610, o610 P), (611, o611 P), (613, o613 P), (614, o614 P), (615, o615 P), (617, o617 P), (618, o618 P), (620, o620 P), (621, o621 P), (622, o622 P), (625, o625 P), (626, o626 P), (627, o627 P), (629, o629 P), (630, o630 P), (632, o632 P), (633, o633 P), (634, o634 P), (636, o636 P), (637, o637 P), (639, o639 P), (640, o640 P), (641, o641 P), (644, o644 P), (645, o645 P)]
noncomputable def as : List Addr := [2, 3, 43, 45, 46, 48, 49, 50, 57, 58, 59, 60, 63, 70, 72, 73, 75, 76, 77, 78, 79, 82, 89, 91, 92, 94, 95, 96, 97, 98, 101, 108, 110, 111, 113, 114, 115, 116, 117, 120, 127, 129, 130, 132, 133, 134, 135, 136, 139, 146, 147, 148, 149, 152, 159, 161, 162, 164, 165, 166, 167, 168, 171, 178, 180, 181, 183, 184, 185, 186, 187, 190, 192, 193, 195, 196, 197, 200, 201, 202, 204, 205, 207, 208, 209, 211, 212, 214, 215, 216, 218, 219, 221, 222, 223, 225, 226, 228, 229, 230, 232, 233, 235, 236, 237, 239, 240, 242, 243, 244, 247, 248, 249, 252, 253, 254, 257, 258, 259, 261, 262, 264, 265, 266, 268, 269, 271, 272, 273, 275, 276, 278, 279, 280, 282, 283, 285, 286, 287, 289, 290, 292, 293, 294, 297, 298, 299, 302, 303, 304, 306, 307, 309, 310, 311, 313, 314, 316, 317, 318, 320, 321, 323, 324, 325, 327, 328, 330, 331, 332, 334, 335, 337, 338, 339, 341, 342, 344, 345, 346, 348, 349, 351, 352, 353, 355, 356, 358, 359, 360, 362, 363, 365, 366, 367, 369, 370, 372, 373, 374, 376, 377, 379, 380, 381, 384, 385, 386, 388, 389, 391, 392, 393, 395, 396, 398, 399, 400, 402, 403, 405, 406, 407, 410, 411, 419, 421, 422, 424, 425, 426, 429, 430, 431, 432, 433, 434, 436, 437, 439, 440, 441, 442, 444, 445, 447, 448, 449, 450, 452, 453, 455, 456, 457, 458, 460, 461, 463, 464, 465, 466, 468, 469, 471, 472, 473, 475, 476, 478, 479, 480, 482, 483, 485, 486, 487, 488, 489, 490, 491, 494, 496, 497, 499, 500, 501, 503, 504, 506, 507, 508, 510, 511, 513, 514, 515, 517, 518, 520, 521, 522, 525, 526, 527, 529, 530, 532, 533, 534, 537, 538, 539, 541, 542, 544, 545, 546, 548, 549, 551, 552, 553, 556, 557, 558, 561, 562, 563, 565, 566, 568, 569, 570, 572, 573, 575, 576, 577, 579, 580, 582, 583, 584, 586, 587, 589, 590, 591, 594, 595, 596, 599, 600, 601, 603, 604, 606, 607, 608, 610, 611, 613, 614, 615, 617, 618, 620, 621, 622, 625, 626, 627, 629, 630, 632, 633, 634, 636, 637, 639, 640, 641, 644, 645]
/-! ### the run -/
noncomputable def q : Program := view T ([0, 1, 3, 4, 5, 6, 7, 8, 9, 10, 11, 12, 14, 15, 16, 17, 18, 19, 21, 22, 23, 24, 25, 26, 27, 28, 29, 31, 32, 33, 34, 35, 36, 37, 38, 39, 40, 41, 42, 44] ++ [45, 46, 47, 48, 49, 50, 51, 53, 54, 55, 56, 57, 58, 59, 60, 62, 63, 64, 65, 66, 68, 69, 70, 71, 72, 73, 74, 75, 76, 77, 78, 79])
noncomputable def loose : List PySem.Str := [s "Shape"]
theorem ek : ∀ P, as = (K P).map (·.1) := fun _ => by kernel_rfl
noncomputable abbrev hk : Hook := kHook K as ek
noncomputable def ob (s : SharedT) : hk.α := as.map (HeadRun.getT s)
theorem ob_eq (s : SharedT) : ob s = hk.obs s.abs := List.map_congr_left fun a _ => HeadRun.getT_eq s a
noncomputable def ann : Option Value := (some (.ref 6))
noncomputable def B : List Stmt := behindTheImports T
noncomputable def E : Env := { scope := T.main.scope, locals := mainNs, globals := mainNs, cells := [], code := (.ref 41), frame := some 42 }
noncomputable abbrev C : Code := .body B E
noncomputable abbrev F : List Frame := [topFrame ⟨0, 0, 0, 0⟩]
noncomputable def os0 : OsState := (start (opening T)).1.os
noncomputable abbrev Xt (s : Shared) : Bool := xlAt q [] s && recOk R.toRowW.records s
theorem e_imp (w : World) : HeadRun.impF (stQ (opening T) w) 1121 (HeadRun.startT (opening T)) (start (opening T)).2 = some (Xi w os0) := by kernel_rfl
theorem a_i (w : World) (os : OsState) : (Xi w os).abs = Yi w os := by kernel_rfl
theorem a_0 (w : World) (os : OsState) : (X0 w os).abs = Y0 w os := by kernel_rfl
theorem e_fence (w : World) : HeadRun.fenceQ T (Yi w os0) = some (Y0 w os0) := by kernel_rfl
theorem e_ns (w : World) (os : OsState) : ((Y0 w os).heap.isNs mainGlobals && (Y0 w os).gens.size == 0) = true := by kernel_rfl
theorem e_ann (w : World) (os : OsState) : (Y0 w os).heap.nsMap mainGlobals "__annotations__" = ann := by kernel_rfl
theorem e_pre (w : World) (os : OsState) : goK (stQ T w) (okQ 39 ann) 12 (X0 w os) (topStub T) = some (Xa w os, ⟨HeadRun.denQ HeadRun.tabQ C, C, ⟨0, 0, 0, 0⟩, F⟩) := by kernel_rfl
theorem e_block (w : World) (os : OsState) : segF (stQ T w) (okQ 39 ann) 1 (Xa w os) ⟨(blockQ B E).wrap (fun _ => doneF .next) deadEnd id id, C, ⟨0, 0, 0, 0⟩, F⟩ = some (.next, Xb w os, C, ⟨0, 0, 0, 0⟩) := by kernel_rfl
noncomputable def L1 : List Stmt := [hT 1, hT 2, hT 3, hT 4, hT 5, hT 6]
noncomputable abbrev S1 (w : World) (os : OsState) : Prop := segF (stQ T w) (okQ 39 ann) 960 (Xb w os) ⟨(execsQ L1 E).wrap doneF deadEnd id id, C, ⟨0, 0, 0, 0⟩, F⟩ = some (.next, X1 w os, C, ⟨18, 0, 22, 26⟩)
theorem e1 (w : World) (os : OsState) : S1 w os := by kernel_rfl
noncomputable def L2 : List Stmt := [hT 7, hT 8, hT 9, hT 10, hT 11, hT 12, hT 13, hT 14]
noncomputable abbrev S2 (w : World) (os : OsState) : Prop := segF (stQ T w) (okQ 39 ann) 986 (X1 w os) ⟨(execsQ L2 E).wrap doneF deadEnd id id, C, ⟨18, 0, 22, 26⟩, F⟩ = some (.next, X2 w os, C, ⟨42, 0, 43, 67⟩)
theorem e2 (w : World) (os : OsState) : S2 w os := by kernel_rfl
noncomputable def L3 : List Stmt := [hT 15, hT 16, hT 17, hT 18, hT 19, hT 20, hT 21, hT 22, hT 23, hT 24, hT 25, hT 26, hT 27, hT 28, hT 29, hT 30, hT 31, hT 32, hT 33, hT 34, hT 35, hT 36, hT 37, hT 38, hT 39, hT 40, hT 41, hT 42, hT 43, hT 44, hT 45, hT 46, hT 47, hT 48, hT 49]
noncomputable abbrev S3 (w : World) (os : OsState) : Prop := segF (stQ T w) (okQ 39 ann) 993 (X2 w os) ⟨(execsQ L3 E).wrap doneF deadEnd id id, C, ⟨42, 0, 43, 67⟩, F⟩ = some (.next, X3 w os, C, ⟨215, 0, 224, 15⟩)
theorem e3 (w : World) (os : OsState) : S3 w os := by kernel_rfl
noncomputable def L4 : List Stmt := [hT 50, hT 51, hT 52, hT 53, hT 54, hT 55]
noncomputable abbrev S4 (w : World) (os : OsState) : Prop := segF (stQ T w) (okQ 39 ann) 973 (X3 w os) ⟨(execsQ L4 E).wrap doneF deadEnd id id, C, ⟨215, 0, 224, 15⟩, F⟩ = some (.next, X4 w os, C, ⟨290, 0, 295, 36⟩)
theorem e4 (w : World) (os : OsState) : S4 w os := by kernel_rfl
noncomputable def L5 : List Stmt := [hT 56, hT 57, hT 58, hT 59, hT 60, hT 61, hT 62, hT 63, hT 64, hT 65, hT 66, hT 67, hT 68, hT 69, hT 70, hT 71, hT 72, hT 73, hT 74, hT 75, hT 76, hT 77, hT 78, hT 79]
noncomputable abbrev S5 (w : World) (os : OsState) : Prop := segF (stQ T w) (okQ 39 ann) 672 (X4 w os) ⟨(execsQ L5 E).wrap doneF deadEnd id id, C, ⟨290, 0, 295, 36⟩, F⟩ = some (.next, X5 w os, C, ⟨435, 0, 436, 87⟩)
theorem e5 (w : World) (os : OsState) : S5 w os := by kernel_rfl
theorem e_fin (w : World) (os : OsState) : HeadRun.goF (stQ T w) 39 ann 2 (X5 w os) ⟨doneF .next, C, ⟨435, 0, 436, 87⟩, F⟩ = some (Xf w os) := by kernel_rfl
theorem e_body : B = (L1 ++ (L2 ++ (L3 ++ (L4 ++ (L5 ++ []))))) := by kernel_rfl
theorem a_f (w : World) (os : OsState) : (Xf w os).abs = Yf w os := by kernel_rfl
theorem l_stat (w : World) (os : OsState) : staticsQ (importedModules T.main.body) (Y0 w os).heap (Yf w os).heap = true := by kernel_rfl
theorem l_names (w : World) (os : OsState) : namesQ T (Yf w os).heap = true := by kernel_rfl
theorem l_gens (w : World) (os : OsState) : gensDone (Yf w os) = true := by kernel_rfl
theorem l_laid (w : World) (os : OsState) : laidQ (Y0 w os).heap (Yf w os).heap = true := by kernel_rfl
theorem c1 (w : World) (os : OsState) : seen ((recsOf q).map (·.name)) (ownsOf q) [] { (Yf w os) with gens := #[] } = expectedOf q := by
  rw [PySem.W.Fast.te5160383126252970620, PySem.W.Fast.te3399658132070893891, PySem.W.Fast.te5991557255702980513, PySem.W.Fast.te17202137643295693207]
  kernel_rfl
theorem c2 (w : World) (os : OsState) : (Yf w os).heap.bltView = bltViewBooted := by
  rw [PySem.W.Fast.te3886120067097387239]
  kernel_rfl
theorem c3 (w : World) (os : OsState) : (Yf w os).heap.keysOk (looseW q loose) ((recsOf q).map (·.name)) ((litsOf q).map (·.1)) ((clssOf q (looseW q loose)).map (·.name)) = true := by
  rw [PySem.W.Fast.te10880121769531294198, PySem.W.Fast.te821141287760084731, PySem.W.Fast.te3399658132070893891, PySem.W.Fast.te7409074990110511671, PySem.W.Fast.te13664370479719496447]
  kernel_rfl
theorem c4 (w : World) (os : OsState) : (Yf w os).heap.accountedOkI (importedModules T.main.body) = true := by
  rw [PySem.W.Fast.te14722251495701143533]
  kernel_rfl
theorem c5 (w : World) (os : OsState) : tablesOk q (Yf w os).heap = true := by
  rw [PySem.W.Fast.te10994771534591457954]
  kernel_rfl
theorem c6 (w : World) (os : OsState) : Xt (Yf w os) = true := by kernel_rfl
theorem c7 (w : World) (os : OsState) : tabsOk q (Yf w os) = true := by
  rw [PySem.W.Fast.te479339242167458305]
  kernel_rfl
theorem c8 (w : World) (os : OsState) : pinSeenD q (drecsOf q) (Yf w os) = pinGoodD (drecsOf q) := by
  rw [PySem.W.Fast.te16090120013241838585, PySem.W.Fast.te3247288618530077131, PySem.W.Fast.te15722437165473765228]
  kernel_rfl
theorem c9 (w : World) (os : OsState) : plainSeenE q (looseW q loose) (Yf w os) = plainGoodE q (looseW q loose) := by
  rw [PySem.W.Fast.te2386780881361962483, PySem.W.Fast.te821141287760084731, PySem.W.Fast.te11434641657110253636]
  kernel_rfl
theorem c10 (w : World) (os : OsState) : plainSeenD q loose (Yf w os) = plainGoodD q loose := by
  rw [PySem.W.Fast.te11698064438423848299, PySem.W.Fast.te6545441873122501937]
  kernel_rfl
theorem c11 (w : World) (os : OsState) : wideSeen q (Yf w os) = wideGood q := by
  rw [PySem.W.Fast.te7317090234206586261, PySem.W.Fast.te9017663842625078692]
  kernel_rfl
theorem c12 (w : World) (os : OsState) : clsSeenW q loose (Yf w os) = clsGoodW q loose := by
  rw [PySem.W.Fast.te7369524293546568484, PySem.W.Fast.te17432349009858465958]
  kernel_rfl
theorem c13 (w : World) (os : OsState) : ((Yf w os).heap.isNs mainGlobals && (Yf w os).heap.isNs builtinsNs) = true := by kernel_rfl
theorem l_seen (w : World) (os : OsState) : openSeen q loose (importedModules T.main.body) Xt true (Yf w os) = openGood q loose := seen_ok (c1 w os) (c2 w os) (c3 w os) (c4 w os) (c5 w os) (c6 w os) (c7 w os) (c8 w os) (c9 w os) (c10 w os) (c11 w os) (c12 w os) (c13 w os) rfl
theorem l_ob (w : World) (os : OsState) : ob (Xf w os) = hk.val w := by kernel_rfl
theorem r_fin (w : World) (os : OsState) : topRun treeTable T w 39 ann 2 (X5 w os).abs (restOf [] E C ⟨435, 0, 436, 87⟩ F) = some (Xf w os).abs := fin_ok (e_fin w os)
theorem r5 (w : World) (os : OsState) : topRun treeTable T w 39 ann (672 + 2) (X4 w os).abs (restOf (L5 ++ []) E C ⟨290, 0, 295, 36⟩ F) = some (Xf w os).abs := some_ok (rest := []) (e5 w os) (r_fin w os)
theorem r4 (w : World) (os : OsState) : topRun treeTable T w 39 ann (973 + 674) (X3 w os).abs (restOf (L4 ++ (L5 ++ [])) E C ⟨215, 0, 224, 15⟩ F) = some (Xf w os).abs := some_ok (rest := (L5 ++ [])) (e4 w os) (r5 w os)
theorem r3 (w : World) (os : OsState) : topRun treeTable T w 39 ann (993 + 1647) (X2 w os).abs (restOf (L3 ++ (L4 ++ (L5 ++ []))) E C ⟨42, 0, 43, 67⟩ F) = some (Xf w os).abs := some_ok (rest := (L4 ++ (L5 ++ []))) (e3 w os) (r4 w os)
theorem r2 (w : World) (os : OsState) : topRun treeTable T w 39 ann (986 + 2640) (X1 w os).abs (restOf (L2 ++ (L3 ++ (L4 ++ (L5 ++ [])))) E C ⟨18, 0, 22, 26⟩ F) = some (Xf w os).abs := some_ok (rest := (L3 ++ (L4 ++ (L5 ++ [])))) (e2 w os) (r3 w os)
theorem r1 (w : World) (os : OsState) : topRun treeTable T w 39 ann (960 + 3626) (Xb w os).abs (restOf (L1 ++ (L2 ++ (L3 ++ (L4 ++ (L5 ++ []))))) E C ⟨0, 0, 0, 0⟩ F) = some (Xf w os).abs := some_ok (rest := (L2 ++ (L3 ++ (L4 ++ (L5 ++ []))))) (e1 w os) (r2 w os)
theorem r_block (w : World) (os : OsState) : topRun treeTable T w 39 ann (1 + 4586) (Xa w os).abs ⟨denote treeTable (.body B E), C, ⟨0, 0, 0, 0⟩, F⟩ = some (Xf w os).abs := block_ok (e_block w os) (by rw [show restOf B E C ⟨0, 0, 0, 0⟩ F = restOf (L1 ++ (L2 ++ (L3 ++ (L4 ++ (L5 ++ []))))) E C ⟨0, 0, 0, 0⟩ F from congrArg (fun b => restOf b E C ⟨0, 0, 0, 0⟩ F) e_body]; exact r1 w os)
theorem r_all (w : World) (os : OsState) : topRun treeTable T w 39 ann (12 + 4587) (X0 w os).abs (topStub T) = some (Xf w os).abs := pre_ok (e_pre w os) (r_block w os)
theorem left_T : LeftO T q loose Xt hk.obs hk.val 9984 true := left_cut fun w => ⟨X0 w os0, Y0 w os0, Yf w os0, ann, open_ok (imp_mono 8863 _ _ _ _ (e_imp w)) (a_i w os0) (e_fence w) (a_0 w os0), a_0 w os0, e_ns w os0, e_ann w os0,
  (topRun_mono 5385 _ _ _ _ (r_all w os0)).trans (congrArg some (a_f w os0)), l_stat w os0, l_names w os0, l_gens w os0, l_laid w os0, l_seen w os0, by rw [← a_f w os0]; exact (ob_eq _).symm.trans (l_ob w os0)⟩
theorem left : LeftO R.prog q loose Xt hk.obs hk.val 9984 true := by
  rw [pT]
  exact left_T
noncomputable abbrev d : DefRec := HeadRun.topDef R.prog 79
theorem hd (said : R.wellSaid = true) (hw : R.toRowW.promised) (hc : WalkO q loose (XL q []) hk.says R.toRowW d [] (fun f vs => PySem.call f vs)) : R.Holds :=
  holds_open (r := R) (q := q) (loose := loose) (XP := XL q []) (YP := hk.says) (d := d) (kwd := []) left hk.of hk.keeps (fun s z => xl_of s (Bool.and_eq_true_iff.mp z).1) XL.keeps (by kernel_rfl) (by kernel_rfl) (by rfl) (fun s z => recFacts_of (Bool.and_eq_true_iff.mp z).2) (by rfl) said (by decide +kernel) ⟨rfl, rfl, rfl, rfl, rfl, by decide +kernel⟩ hw hc
end Hd
/-! repr of data; lists whose place is told; defs run where no repr is under way. -/
namespace Xk
open PySem PySem.Spec PyProof.Rows L2
/-! ### data -/
mutual
inductive Sh (H : Hp) : V → PyData → Prop
  | non : Sh H .non .none
  | bl (b : Bool) : Sh H (.bl b) (.bool b)
  | int (i : Int) : Sh H (.int i) (.int i)
  | str (x : Str) : Sh H (.str x) (.str x)
  | lst {a : Addr} {xs : List V} {ds : List PyData} : H a = some (.lst xs) → a ≠ sysModules → ShA H xs ds → Sh H (.ref a) (.list ds)
  | tup {a : Addr} {xs : List V} {ds : List PyData} : H a = some (.tup xs) → ShA H xs ds → Sh H (.ref a) (.tuple ds)
  | dct {a : Addr} {kvs : List (Int × Int)} : H a = some (.dK (kvs.map fun p => (Sum.inl p.1, V.int p.2))) →
      Sh H (.ref a) (.dict (kvs.map fun p => (PyData.int p.1, PyData.int p.2)))
inductive ShA (H : Hp) : List V → List PyData → Prop
  | nil : ShA H [] []
  | cons {v : V} {vs : List V} {d : PyData} {ds : List PyData} : Sh H v d → ShA H vs ds → ShA H (v :: vs) (d :: ds)
end
section
variable {H H' : Hp}
mutual
theorem Sh.same (k : Same H H') : ∀ (d : PyData) (v : V), Sh H v d → Sh H' v d
  | .none, _, h => by cases h; exact .non
  | .bool b, _, h => by cases h; exact .bl b
  | .int i, _, h => by cases h; exact .int i
  | .str x, _, h => by cases h; exact .str x
  | .list ds, _, h => by
    cases h with
    | lst e n a => exact .lst (k _ _ e) n (ShA.same k ds _ a)
  | .tuple ds, _, h => by
    cases h with
    | tup e a => exact .tup (k _ _ e) (ShA.same k ds _ a)
  | .dict _, _, h => by
    cases h with
    | dct e => exact .dct (k _ _ e)
theorem ShA.same (k : Same H H') : ∀ (ds : List PyData) (vs : List V), ShA H vs ds → ShA H' vs ds
  | [], _, h => by cases h; exact .nil
  | d :: ds, _, h => by
    cases h with
    | cons a b => exact .cons (Sh.same k d _ a) (ShA.same k ds _ b)
end
end
section
variable {X : Cx} {pins : List (Addr × Obj)} {σ : L2.St} {H : Hp} {s : Shared}
theorem ints_reads {h : Heap} : ∀ (l : List Int) (us : List Value), Vals (l.map V.int) us → ReadsAll h us (l.map PyData.int) []
  | [], _, r => by cases r; exact .nil
  | i :: l, _, r => by
    cases r with
    | cons r1 r2 =>
      obtain ⟨t, rfl⟩ := r1
      exact ReadsAll.cons (Reads.int i t) (ints_reads l _ r2)
end
/-! ### defs where no repr is under way -/
/-- the def at f keeps the promise sp wherever no guarded built-in runs -/
structure FnG (P : Program) (w : World) (K : PySem.W.Frag) (mg : Str → Option Value) (base : Heap) (k : Nat) (f : Addr) (fd : FuncData) (ps : List Str) (sp : Sp) : Prop where
  len : ∀ vs H Q E, sp vs H Q E → vs.length = ps.length
  run : ∀ (A : Around) (outer : List Env) (s : Shared) (H : Hp) (args : Args) (us : List Value) (vs : List V) (Q : VK) (E : XK), Room k A → A.guards = some [] →
    Env0 P w K mg base A outer s H → BindsTo s fd args (ps.zip us) → Vals vs us → sp vs H Q E → codeAny (model P w) A (.call (.ref f) args) (CR CX0 outer P w H s Q E) s
theorem fn_g {P : Program} {w : World} {K : PySem.W.Frag} {mg : Str → Option Value} {base : Heap} {k : Nat} {x qual : Str} {st : Stmt} {f : Addr} {fd : FuncData} {N ps : List Str} {sp : Sp}
    (F : Fun K x qual st f fd) (S : FnScope N ps (defScope st)) (len : ∀ vs H Q E, sp vs H Q E → vs.length = ps.length)
    (hbody : ∀ (cdv : Value) (A : Around) (outer : List Env) (s : Shared) (H : Hp) (vs : List V) (Q : VK) (E : XK),
      Room k (A.deeper (envOfC qual (defScope st) s.heap.objs.size f cdv)) → A.guards = some [] → sp vs H Q E →
      ∃ t, PSs (cxOf CX0 P w K mg base N qual (defScope st) f cdv A outer s H E).nox (defBody st) t ∧ t { nx := fun _ H' => Q .non H', rt := Q } (start N vs) H) :
    FnG P w K mg base (k + 1) f fd ps sp := by
  obtain ⟨oc, od, kV, doc, pm, an, cdv, ct, osl, rfl, lk, hcd⟩ := F.ex
  refine ⟨len, fun A outer s H args us vs Q E hr hG e0 hb r hsp => ?_⟩
  have hl := len _ _ _ _ hsp
  have KX : K.In s.heap := e0.mod.kin.keeps fun b o e => (e0.bs b o e).1
  have lim : s.heap.NoLimit := e0.mod.nolimit.keeps fun b o e => (e0.bs b o e).1
  have hkind : ∀ y ∈ ps.zip us, (defScope st).names.lookup y.1 = some .local ∨
      ((defScope st).names.lookup y.1 = some .cell ∧ ((cellsFrom (s.heap.objs.size + 1) (defScope st).names []).lookup y.1).isSome = true) := fun ⟨n, v⟩ hy => by
    rcases S.par n (List.of_mem_zip hy).1 with q | q
    · exact .inl q
    · exact .inr ⟨q, PySem.W.cellsFrom_some _ _ _ (.inl q)⟩
  refine codeAny_call_function hr.depth (KX _ _ lk) rfl S.co S.gen rfl (PySem.W.codeRec_of KX hcd) (hb _ _ _ _ ?_)
  refine wpAny_newFunctionEnv_cells S.kind hkind fun env he s1 x => ?_
  subst he
  refine ⟨lim.keeps x.toInCall.keep, codeAny_func ?_⟩
  obtain ⟨t, ht, hq⟩ := hbody cdv A outer s H vs Q E (hr.deeper _) hG hsp
  have I : Inv (cxOf CX0 P w K mg base N qual (defScope st) f cdv A outer s H E) [] (start N vs) H s1 := inv_start S hr.hd e0 hl r x
  refine wpAny_mono (ht.nox.run [] s1 (start N vs) H _ I hq) (fun fl s' hs => ?_) fun e s' hs => hs
  have fin : ∀ {σ' : L2.St} {H' : Hp} {v : V} {u : Value}, Inv (cxOf CX0 P w K mg base N qual (defScope st) f cdv A outer s H E) [] σ' H' s' → RelV v u → Q v H' → CE outer P w H s Q u s' :=
    fun {σ' H' v u} J rv q => ⟨v, H', J.os, J.bare, J.base, J.hok, rv, q⟩
  cases fl with
  | ret u =>
    obtain ⟨v, σ', H', J, rv, q⟩ := hs
    exact fin J rv q
  | next =>
    obtain ⟨σ', H', J, q⟩ := hs
    exact fin (v := V.non) (u := Value.none) J rfl q
  | brk =>
    obtain ⟨_, _, _, q⟩ := hs
    exact False.elim q
  | cont =>
    obtain ⟨_, _, _, q⟩ := hs
    exact False.elim q
section
variable {X : Cx} {k : Nat} {f : Addr} {fd : FuncData} {ps : List Str} {sp : Sp} {x : Str} {p pos : Pos} {e : Expr} {es : List Expr} {t : TA}
theorem pe_callg (F : FnG X.prog X.w X.K X.mg X.base k f fd ps sp) (hr : Room k X.A) (hG : X.A.guards = some []) (hg : Gl X x) (hm : X.mg x = some (.ref f)) (hk : PySem.W.keepIn X.K (.ref f) = true)
    (hb : Binds X.K fd ps []) (ha : PA X (e :: es) t) (hdb : (x == ("__debug__" : Str)) = false := by decide)
    (he : starEach (e :: es) X.env = (false, eval e X.env) :: starEach es X.env := by rfl) (hpl : (backTo pos (starEach es X.env)).any (·.1) = false := by rfl) :
    PE X (.Call (.Name x p) (e :: es) [] pos) (tCall sp [] E0 t) := by
  refine ⟨fun pins s σ H Q I h => ?_⟩
  refine wpAny_Call_Name_kw (ld_glob I hg hm ?_ hdb)
  refine PySem.W.callWith_K (h₀ := X.base) I.ok.mod.kin hk (thn (ha.run pos pins s σ H _ I h) fun us s1 ⟨vs, H1, I1, r, q⟩ => ⟨I1.kIn, ?_⟩) he hpl
  have q0 : sp (vs ++ []) H1 Q E0 := q
  rw [List.append_nil] at q0
  have hl : us.length = ps.length := by
    rw [← r.length]; exact F.len _ _ _ _ q0
  refine wpAny_call (codeAny_mono (F.run X.A X.stack s1 H1 ⟨us, []⟩ us vs Q E0 hr hG I1.env0 ?_ r q0) fun r s' hq => ?_)
  · have z := hb s1 us I1.kIn (by rw [List.append_nil]; exact hl)
    rw [List.append_nil] at z
    exact z
  · cases r with
    | error e => exact hq.elim
    | ok fl =>
      cases fl with
      | ret u => exact I1.after hq
      | next => exact False.elim hq
      | brk => exact False.elim hq
      | cont => exact False.elim hq
end
end Xk
/-! Rules of its own: // of any sign, a bool less a bool, a list's item read ahead of +=, enumerate of a tuple, a tuple backwards; loops over few items, turn by turn. -/
namespace Xq
open PySem PySem.Spec PyProof.Rows L2
section
variable {X : Cx}
def CDivX (_ j : Int) : Prop := j ≠ 0 ∧ j.natAbs.log2 < 9000
theorem op_fdivX : OpR X (binaryOp .FloorDiv) (rI CDivX fun i j => .int (i.fdiv j)) := opI fun i j _ _ _ _ _ hc q => floordiv_int hc.1 q (.inl (PyProof.noPylong_of_log2 hc.2))
/-- o[i], a list, by values -/
theorem get_list : PGet X (rIxL X.K) := by
  intro pins s σ H x y v u Q I rx ry h
  obtain ⟨p, xs, i, z, rfl, rfl, hq, he, q⟩ := h
  cases rx
  obtain ⟨t, rfl⟩ := ry
  obtain ⟨its, r, pl, hz⟩ := I.list hq
  obtain ⟨j, h1, h2, h3, h4, h5⟩ := atI_get he
  obtain ⟨w, ew, rw'⟩ := r.get h2
  have hl := r.length
  have hn := line63
  have fin : EP X pins σ Q w s := ⟨z, H, I, rw', q⟩
  by_cases h0 : 0 ≤ i
  · have hj : i.toNat = j := by
      rw [seqIndex_of h0 h5] at h1
      exact Option.some.inj h1
    exact wpAny_getItem_list pl.isList h0 (by omega) (by rw [hj]; simpa using ew) fin
  · have hj : (i + (its.toArray.size : Int)).toNat = j := by
      rw [seqIndex_neg (by omega) h4] at h1
      rw [List.size_toArray, ← hl]
      exact Option.some.inj h1
    exact wpAny_getItem_list_neg pl.isList (by omega) (by rw [List.size_toArray] <;> omega) (by omega) (by rw [hj]; simpa using ew) fin
end
/-! ### enumerate(tuple) -/
theorem draws_tup {prog : Program} {w : World} {A : Around} (hh : A.handled = none) (it l : Addr) (hne : l ≠ it) (items : Array Value) :
    Draws prog w A it [it, l] items.size (fun i v => items[i]? = some v) (fun i h => h.IsTupleIter it l i ∧ h.IsTuple l items) where
  live := fun _ _ st => let ⟨o, ho, _⟩ := st.1; ⟨o, ho⟩
  frame := fun _ _ _ st hk => ⟨let ⟨o, ho, r⟩ := st.1; ⟨o, hk it (by simp) o ho, r⟩, let ⟨o, ho, r⟩ := st.2; ⟨o, hk l (by simp) o ho, r⟩⟩
  item := fun i s Q E hi st hQ => by
    refine RZ.nextOf_tuple_item st.1 st.2 (x := items[i]) (by simp [hi]) fun h' hit' hs' => ?_
    exact hQ _ h' s.toks (by simp [hi]) ⟨hit', st.2.extBut hs'.extBut hne⟩ hs'
  done := fun s Q E st hE => RZ.nextOf_tuple_end hh st.1 st.2 (by simp) hE
theorem meets_enumerate_newT (l : Addr) (items : Array Value) (n : Nat) (dct : Option Addr) (sl : Array (Option Value)) :
    Meets (Builtin.«enumerate.__new__» ⟨[.type "enumerate", .ref l], []⟩) (fun _ R s => s.heap.get? l = some { cls := .type "tuple", dict := dct, data := .seq items n, slots := sl } ∧
      R (.ok (.ret (.ref (s.heap.push { cls := .type "tuple_iterator", data := .fields #[.ref l, .int 0 0] }).objs.size)))
        { s with heap := (s.heap.push { cls := .type "tuple_iterator", data := .fields #[.ref l, .int 0 0] }).push { cls := .type "enumerate", data := .fields #[.none, .bool false, .ref s.heap.objs.size, rawInt 0, .none, .none] } }) :=
  .of_wp fun prog w A R s h => by
    obtain ⟨hp, g, d, tk, os⟩ := s; obtain ⟨hl, h⟩ := h
    have hsub := sub_enumerate
    have hL : Heap.IsTuple (Shared.heap ⟨hp, g, d, tk, os⟩) l items := ⟨_, hl, rfl, n, rfl⟩
    wp_walk using AutoSeq1.wpAny_loadPart' hl
    refine wpAny_stack_any fun st => wpAny_pure ?_
    split
    · rename_i c _ _ _ _ _
      cases (c == Value.type "enumerate")
      · wp_walk using AutoSeq1.wpAny_loadPart' hl, wpAny_pyIter_tuple hL
        exact ⟨_, rfl, h⟩
      · wp_walk using AutoSeq1.wpAny_loadPart' hl, wpAny_pyIter_tuple hL
        exact ⟨_, rfl, h⟩
    · wp_walk using AutoSeq1.wpAny_loadPart' hl, wpAny_pyIter_tuple hL
      exact ⟨_, rfl, h⟩
theorem call_enumerate_tuple {prog : Program} {w : World} {A : Around} {E : Value → Shared → Prop} {s : Shared} {l : Addr} {items : Array Value} {Q : Value → Shared → Prop} (hL : s.heap.IsTuple l items)
    (h : ∀ h', IsEnum h' (s.heap.objs.size + 1) s.heap.objs.size 0 .none → h'.IsTupleIter s.heap.objs.size l 0 → h'.objs.size = s.heap.objs.size + 2 →
      (∀ b o, s.heap.get? b = some o → h'.get? b = some o) → Q (.ref (s.heap.objs.size + 1)) { s with heap := h' }) :
    wpAny (model prog w) A (call (.type "enumerate") [.ref l]) Q E s := by
  obtain ⟨⟨c, dct, dt, sl⟩, hl, hc, n, hd⟩ := hL
  replace hc : c = .type "tuple" := hc
  replace hd : dt = .seq items n := hd
  subst hc hd
  refine callType_new F.called_enumerate (by decide) (F.typeCall_enumerate_1 _) (F.newCall_enumerate_1 _) (fun obj => F.args_object_init_2 obj _) F.entry_enumerate_new
    (meets_enumerate_newT l items n dct sl) ⟨hl, ?_⟩
  have hz : (s.heap.push { cls := .type "tuple_iterator", data := .fields #[.ref l, .int 0 0] }).objs.size = s.heap.objs.size + 1 := Heap.size_push ..
  show _ ∧ _
  rw [hz]
  have he : IsEnum ((s.heap.push { cls := .type "tuple_iterator", data := .fields #[.ref l, .int 0 0] }).push
      { cls := .type "enumerate", data := .fields #[.none, .bool false, .ref s.heap.objs.size, rawInt 0, .none, .none] }) (s.heap.objs.size + 1) s.heap.objs.size 0 .none := by
    have := Heap.get?_push_size (s.heap.push { cls := .type "tuple_iterator", data := .fields #[.ref l, .int 0 0] })
      (o := { cls := .type "enumerate", data := .fields #[.none, .bool false, .ref s.heap.objs.size, rawInt 0, .none, .none] }) rfl
    rw [hz] at this; exact this
  refine ⟨⟨_, he, rfl⟩, h _ he ⟨_, Heap.get?_push_of_some _ (Heap.get?_push_size _ rfl), rfl, rfl⟩ (by rw [Heap.size_push, hz]) fun b o x => Heap.get?_push_of_some _ (Heap.get?_push_of_some _ x)⟩
/-- the tuple at a, each item in a new pair -/
def IteT (K : PySem.W.Frag) (a : Addr) : It :=
  ⟨fun i H => ∃ (xs : List V) (x : V), SqT K H a xs ∧ xs[i]? = some x, fun i H v H' => ∃ T x, v = .ref T ∧ H T = none ∧ H' = upd H T (.tup [.int (i : Nat), x]) ∧ ∀ xs, SqT K H a xs → xs[i]? = some x, fun i H => ∃ xs : List V, SqT K H a xs ∧ xs.length ≤ i⟩
theorem turn_enumT {P : Program} {w : World} {K : PySem.W.Frag} {elts : List Expr} {kk : Nat} {tpos : Pos} (a e it : Addr) :
    Turn P w K (.Tuple elts kk tpos) (IteT K a) [e, it] e (fun i h => (∃ old, IsEnum h e it ((i : Nat) : Int) old) ∧ h.IsTupleIter it a i ∧ e ≠ it ∧ a ≠ it ∧ a ≠ e) where
  mem := by simp
  obj := fun i h st b hb => by
    obtain ⟨⟨old, he⟩, ⟨o, ho, hc, hd⟩, _⟩ := st
    have e' : b = e ∨ b = it := by simpa using hb
    rcases e' with z | z
    · rw [z]; exact ⟨_, he, fun v q => nomatch q⟩
    · rw [z]; exact ⟨o, ho, fun v q => by rw [hd] at q; cases q⟩
  keep := fun i h h' st k => let ⟨⟨old, he⟩, ⟨o, ho, r⟩, hne⟩ := st; ⟨⟨old, k e (by simp) _ he⟩, ⟨o, k it (by simp) o ho, r⟩, hne⟩
  item := by
    intro X hP hw hK hc i pins s σ H E I hf st hg
    subst hP hw hK
    obtain ⟨⟨old, he⟩, hit, hne, hai, hae⟩ := st
    obtain ⟨xs, x, hq, hx⟩ := hg
    obtain ⟨its, rv, p, hz⟩ := I.tuple hq
    obtain ⟨u, hu, ru⟩ := rv.get hx
    have hel : e < s.heap.objs.size := Heap.lt_size he
    have hil : it < s.heap.objs.size := by obtain ⟨_, q, _⟩ := hit; exact Heap.lt_size q
    have hlt : i < its.toArray.size := by
      have q := List.getElem?_eq_some_iff.mp hu
      rw [List.size_toArray]
      exact q.1
    refine wpAny_pyNext_enum_itemD (draws_tup (prog := X.prog) (w := X.w) (A := X.A.in1) (I.ok.hd hc) it a hai its.toArray) he ⟨hit, (show s.heap.IsTuple a its.toArray from p)⟩ hlt hne (by simp [hne, Ne.symm hae]) fun y h' tk hP ho hit' hT hsz hk => ?_
    have ey : y = u := by
      have q : its.toArray[i]? = some u := by simpa using hu
      rw [q] at hP
      exact (Option.some.inj hP).symm
    subst ey
    refine ⟨_, rfl, wpAny_letOwnedTupleGo_enum (s := { s with heap := h', toks := tk + 1 }) ho fun h'' he' sb => ?_⟩
    have hT2 : h''.get? s.heap.objs.size = some { cls := .type "tuple", data := .seq #[.int i tk, y] } := (sb.2 _ (Nat.ne_of_gt hel)).trans hT
    have new : ObjOk X.prog X.w (upd H s.heap.objs.size (.tup [.int (i : Nat), x])) h'' s.heap.objs.size (.tup [.int (i : Nat), x]) :=
      ⟨by show 2 ≤ sizeLine; decide, [.int i tk, y], .cons ⟨_, rfl⟩ (.cons ru .nil), ⟨_, hT2, rfl, _, rfl⟩⟩
    have I1 : Inv X pins σ (upd H s.heap.objs.size (.tup [.int (i : Nat), x])) { s with heap := h'', toks := tk + 1 } :=
      I.turnedNew (ch := [e, it]) (fun b ob hb q => (sb.2 b (fun z => hb (by simp [z]))).trans (hk b ob (fun z => hb (by simp [z])) (fun z => hb (by simp [z])) q)) hf (Nat.le_refl _) new
    refine ⟨.ref s.heap.objs.size, _, I1, rfl, ⟨_, x, rfl, I.hok.fresh (Nat.le_refl _), rfl, fun ys hy => by rw [I.tuple_inj hy hq]; exact hx⟩, ⟨⟨y, ?_⟩, ?_, hne, hai, hae⟩, fun b hb => ?_⟩
    · have e1 : ((i + 1 : Nat) : Int) = (i : Int) + 1 := by omega
      rw [e1]; exact he'
    · obtain ⟨⟨o, ho2, r2⟩, _⟩ := hit'
      exact ⟨o, (sb.2 it (Ne.symm hne)).trans ho2, r2⟩
    · have hb' : b < s.heap.objs.size := by
        have e' : b = e ∨ b = it := by simpa using hb
        rcases e' with z | z
        · rw [z]; exact hel
        · rw [z]; exact hil
      rw [upd_ne (Nat.ne_of_lt hb')]
      exact (hf b hb).1
  done := by
    intro X hP hw hK hc i pins s σ H E I hf st hg
    subst hP hw hK
    obtain ⟨⟨old, he⟩, hit, hne, hai, hae⟩ := st
    obtain ⟨xs, hq, hx⟩ := hg
    obtain ⟨its, rv, p, hz⟩ := I.tuple hq
    obtain ⟨f0, f1, f2, f3, f4, f5⟩ := hf it (by simp)
    have hl := rv.length
    have hT : s.TypeIs (.ref e) "enumerate" := ⟨_, he, rfl⟩
    unfold pyNext
    refine wpAny_bind (wpAny_attempt (wpAny_callSpecial?_slot (name := Str.ofString "__next__") hT F.slot_enumerate_next
      (wpAny_call_entry F.slot_enumerate_next hT F.entry_enumerate_next ?_ (F.args_enumerate_next_1 _))))
    show wpAny _ _ (field (.ref e) 2 >>= _) _ _ _
    refine wpAny_bind (wpAny_field he rfl (x := .ref it) rfl ?_)
    refine wpAny_bind (RZ.nextOf_tuple_end (A := X.A.in1) (I.ok.hd hc) hit (show s.heap.IsTuple a its.toArray from p) (by simp; omega) fun h' x he' hx' => ?_)
    obtain ⟨o, ho, hc'⟩ := hx'
    refine wpAny_bind (wpAny_isInstance (T := "StopIteration") (b := true) ⟨o, ho, hc'⟩ isSubtype_stop ?_)
    exact wpAny_pure ⟨rfl, I.turned (t' := s.toks) (fun b o hb q => he' b o hb q) f0 f1 f3 f4 f5⟩
  self := fun A i s Q E st h => let ⟨⟨_, he⟩, _⟩ := st; wpAny_pyIter_enum he h
def iEnumT (K : PySem.W.Frag) (ta : TA) : TI := fun σ H R => ta σ H fun vs H1 => ∃ a xs, vs = [.ref a] ∧ SqT K H1 a xs ∧ R (IteT K a) H1
theorem pi_enumT {X : Cx} {e : Expr} {ta : TA} {p pos tpos : Pos} {elts : List Expr} {kk : Nat} (hg : Gl X "enumerate") (hm : X.mg "enumerate" = none) (ha : PA X [e] ta) (hs : starEach [e] X.env = [(false, eval e X.env)] := by rfl) :
    PI X (.Tuple elts kk tpos) (.Call (.Name "enumerate" p) [e] [] pos) (iEnumT X.K ta) := by
  refine ⟨fun pins s σ H R I h => ?_⟩
  refine Call_ (ld_blt I hg hm boot_enumerate (PyProof.Rows.callWith_type1 (thn (ha.run pos pins s σ H _ I h) fun us s1 ⟨vs, H1, I1, r1, q1⟩ => ?_) hs rfl))
  obtain ⟨a, xs, ex, hq, q⟩ := q1
  subst ex
  cases r1 with
  | cons r rr =>
    cases rr
    cases r
    obtain ⟨its, rv, p', hz⟩ := I1.tuple hq
    have hlt : a < s1.heap.objs.size := by
      obtain ⟨o, ho, _⟩ := id p'
      exact Heap.lt_size ho
    refine call_enumerate_tuple (show s1.heap.IsTuple a its.toArray from p') fun h' he hit hsz hk => wpAny_pyIter_enum he ?_
    have I2 : Inv X pins σ H1 { s1 with heap := h' } := I1.kept (t' := s1.toks) hk
    refine ⟨s1.heap.objs.size + 1, [s1.heap.objs.size + 1, s1.heap.objs.size], _, _, H1, rfl, I2, turn_enumT a (s1.heap.objs.size + 1) s1.heap.objs.size, ⟨⟨.none, he⟩, hit, Nat.succ_ne_self _, Nat.ne_of_lt hlt, Nat.ne_of_lt (Nat.lt_succ_of_lt hlt)⟩, fun b hb => ?_, q⟩
    have e' : b = s1.heap.objs.size + 1 ∨ b = s1.heap.objs.size := by simpa using hb
    have hle : s1.heap.objs.size ≤ b := by
      rcases e' with z | z
      · rw [z]; exact Nat.le_add_right _ _
      · rw [z]; exact Nat.le_refl _
    exact I1.fpOk hle (I1.hok.fresh hle)
end Xq
/-! A tuple of one or two backwards; loops turn by turn. -/
namespace Xq
open PySem PySem.Spec PyProof.Rows L2
/-! ### turn by turn -/
section
variable {J : It} {n : Nat} {G : Hp → Prop} {g : TG} {tb : TS} {D : Ends}
/-- the turns of a for over xs -/
def unr (G : Hp → Prop) (g : TG) (tb : TS) (D : Ends) : List V → L2.St → Hp → Prop
  | [], σ, H => G H ∧ D.nx σ H
  | x :: r, σ, H => G H ∧ g x σ H fun σ2 H2 => tb { D with nx := unr G g tb D r, ct := unr G g tb D r, bk := D.nx } σ2 H2
theorem for_unr {xs : List V} (w : Walk J xs.length G (YAt xs)) {σ : L2.St} {H : Hp} (h : unr G g tb D xs σ H) :
    ∃ W : Nat → Nat → L2.St → Hp → Prop, (∃ m, W 0 m σ H) ∧ ∀ i m σ H, W i m σ H →
      (J.stop i H ∧ D.nx σ H) ∨ (J.go i H ∧ ∃ N : L2.St → Hp → Prop, (∀ σ' H', N σ' H' → ∃ m', m' < m ∧ W (i + 1) m' σ' H') ∧ ∀ x H', J.yld i H x H' → g x σ H' fun σ2 H2 => tb { D with nx := N, ct := N, bk := D.nx } σ2 H2) := by
  refine ⟨fun i m σ H => m = xs.length - i ∧ i ≤ xs.length ∧ unr G g tb D (xs.drop i) σ H, ⟨xs.length, by simp, Nat.zero_le _, h⟩, ?_⟩
  rintro i m σ H ⟨rfl, hi, p⟩
  by_cases hlt : i < xs.length
  · rw [List.drop_eq_getElem_cons hlt] at p
    obtain ⟨gg, p⟩ := p
    refine .inr ⟨w.goes i H hlt gg, unr G g tb D (xs.drop (i + 1)), fun σ' H' p' => ⟨xs.length - (i + 1), by omega, rfl, hlt, p'⟩, fun x H' y => ?_⟩
    obtain ⟨e, y2⟩ := w.yields i H x H' hlt gg y
    subst e
    rw [List.getElem?_eq_getElem hlt] at y2
    cases y2
    exact p
  · have e : i = xs.length := by omega
    subst e
    rw [List.drop_length] at p
    exact .inl ⟨w.stops H p.1, p.2⟩
/-- the turns of a comprehension over xs -/
def unrC (G : Hp → Prop) (g : TG) (tt : TT) (te : TE) (D : Addr) (vs : List Nat) (σ : L2.St) (Qd : Hp → Prop) : List V → Hp → Prop
  | [], H => G H ∧ Qd H
  | x :: r, H => G H ∧ g x (wipe σ vs) H fun σ2 H2 => wipe σ2 vs = wipe σ vs ∧ tt σ2 H2 fun b H3 =>
    if b = true then te σ2 H3 fun y H4 => ∃ acc, H4 D = some (.lst acc) ∧ acc.length < sizeLine ∧ unrC G g tt te D vs σ Qd r (upd H4 D (.lst (acc ++ [y]))) else unrC G g tt te D vs σ Qd r H3
theorem lc_unr {xs : List V} (w : Walk J xs.length G (YAt xs)) {tt : TT} {te : TE} {vs : List Nat} {σ : L2.St} {H1 : Hp} {D : Addr} {Qd : Hp → Prop} (h : unrC G g tt te D vs σ Qd xs (upd H1 D (.lst []))) :
    ∃ W : Nat → Nat → Hp → Prop, (∃ m, W 0 m (upd H1 D (.lst []))) ∧ ∀ i m H, W i m H →
      (J.stop i H ∧ Qd H) ∨ (J.go i H ∧ ∃ Nx : Hp → Prop, (∀ H', Nx H' → ∃ m', m' < m ∧ W (i + 1) m' H') ∧ ∀ x H', J.yld i H x H' → g x (wipe σ vs) H' fun σ2 H2 => wipe σ2 vs = wipe σ vs ∧ tt σ2 H2 fun b H3 =>
        if b = true then te σ2 H3 fun y H4 => ∃ acc, H4 D = some (.lst acc) ∧ acc.length < sizeLine ∧ Nx (upd H4 D (.lst (acc ++ [y]))) else Nx H3) := by
  refine ⟨fun i m H => m = xs.length - i ∧ i ≤ xs.length ∧ unrC G g tt te D vs σ Qd (xs.drop i) H, ⟨xs.length, by simp, Nat.zero_le _, h⟩, ?_⟩
  rintro i m H ⟨rfl, hi, p⟩
  by_cases hlt : i < xs.length
  · rw [List.drop_eq_getElem_cons hlt] at p
    obtain ⟨gg, p⟩ := p
    refine .inr ⟨w.goes i H hlt gg, unrC G g tt te D vs σ Qd (xs.drop (i + 1)), fun H' p' => ⟨xs.length - (i + 1), by omega, rfl, hlt, p'⟩, fun x H' y => ?_⟩
    obtain ⟨e, y2⟩ := w.yields i H x H' hlt gg y
    subst e
    rw [List.getElem?_eq_getElem hlt] at y2
    cases y2
    exact p
  · have e : i = xs.length := by omega
    subst e
    rw [List.drop_length] at p
    exact .inl ⟨w.stops H p.1, p.2⟩
/-- .. without a test -/
def unrY (G : Hp → Prop) (g : TG) (te : TE) (D : Addr) (vs : List Nat) (σ : L2.St) (Qd : Hp → Prop) : List V → Hp → Prop
  | [], H => G H ∧ Qd H
  | x :: r, H => G H ∧ g x (wipe σ vs) H fun σ2 H2 => wipe σ2 vs = wipe σ vs ∧ te σ2 H2 fun y H4 => ∃ acc, H4 D = some (.lst acc) ∧ acc.length < sizeLine ∧ unrY G g te D vs σ Qd r (upd H4 D (.lst (acc ++ [y])))
theorem unrY_eq {te : TE} {D : Addr} {vs : List Nat} {σ : L2.St} {Qd : Hp → Prop} : ∀ xs : List V, unrC G g tYes te D vs σ Qd xs = unrY G g te D vs σ Qd xs
  | [] => rfl
  | x :: r => by
    funext H
    unfold unrC unrY
    rw [unrY_eq r]
    simp only [tYes, if_true]
theorem lc_yes {xs : List V} (w : Walk J xs.length G (YAt xs)) {te : TE} {vs : List Nat} {σ : L2.St} {H1 : Hp} {D : Addr} {Qd : Hp → Prop} (h : unrY G g te D vs σ Qd xs (upd H1 D (.lst []))) :
    ∃ W : Nat → Nat → Hp → Prop, (∃ m, W 0 m (upd H1 D (.lst []))) ∧ ∀ i m H, W i m H →
      (J.stop i H ∧ Qd H) ∨ (J.go i H ∧ ∃ Nx : Hp → Prop, (∀ H', Nx H' → ∃ m', m' < m ∧ W (i + 1) m' H') ∧ ∀ x H', J.yld i H x H' → g x (wipe σ vs) H' fun σ2 H2 => wipe σ2 vs = wipe σ vs ∧ tYes σ2 H2 fun b H3 =>
        if b = true then te σ2 H3 fun y H4 => ∃ acc, H4 D = some (.lst acc) ∧ acc.length < sizeLine ∧ Nx (upd H4 D (.lst (acc ++ [y]))) else Nx H3) :=
  lc_unr w (by rw [unrY_eq]; exact h)
end
/-- a test's reading that may be weakened -/
def tMnT (t : TT) : TT := fun σ H Q => ∃ Q0 : Bool → Hp → Prop, t σ H Q0 ∧ ∀ b H1, Q0 b H1 → Q b H1
theorem pt_mn {X : Cx} {c : Expr} {t : TT} (h : PT X c t) : PT X c (tMnT t) := by
  refine ⟨fun pins s σ H Q I hq => ?_⟩
  obtain ⟨Q0, q0, im⟩ := hq
  exact thn (h.run pins s σ H Q0 I q0) fun b s1 ⟨H1, I1, q⟩ => ⟨H1, I1, im b H1 q⟩
def tWhB (t : TT) (tb : TS) : TS := fun D σ H => ∃ (Pv : L2.St → Hp → Prop) (μ : L2.St → Hp → Nat), Pv σ H ∧ ∀ σ H, Pv σ H → t σ H fun b H1 =>
  if b = true then tb { D with nx := fun σ' H' => Pv σ' H' ∧ μ σ' H' < μ σ H, ct := fun σ' H' => Pv σ' H' ∧ μ σ' H' < μ σ H, bk := D.nx } σ H1 else D.nx σ H1
/-- while, by a word and a measure of the state -/
theorem ps_whB {X : Cx} {c : Expr} {body : List Stmt} {tc : TT} {tb : TS} {pos : Pos} (hp : PassesOwn (model X.prog X.w) X.A X.env X.xe) (hc : PT X c tc) (hb : PSs X body tb) : PS X (.While c body [] pos) (tWhB tc tb) := by
  have h := ps_while (pos := pos) hp (pt_mn hc) hb
  refine ⟨fun pins s σ H D I hq => h.run pins s σ H D I ?_⟩
  obtain ⟨Pv, μ, h0, hs⟩ := hq
  refine ⟨fun m σ H => m = μ σ H ∧ Pv σ H, ⟨_, rfl, h0⟩, ?_⟩
  rintro m σ H ⟨rfl, p⟩
  refine ⟨_, hs σ H p, fun b H1 q => ?_⟩
  cases b with
  | true => exact ⟨_, fun σ' H' ⟨p', l⟩ => ⟨_, l, rfl, p'⟩, q⟩
  | false => exact q
/-! ### what is never asked -/
theorem pe_nv {X : Cx} {e : Expr} : PE X e (fun _ _ _ => False) := ⟨fun _ _ _ _ _ _ h => False.elim h⟩
theorem pss_nv {X : Cx} {e : List Stmt} : PSs X e (fun _ _ _ => False) := ⟨fun _ _ _ _ _ _ h => False.elim h⟩
/-! ### heaps -/
theorem Same.put {H0 H1 : Hp} {p : Addr} {o : HO} (s : Same H0 H1) (h : H0 p = none) : Same H0 (upd H1 p o) := fun b u e => by
  rw [upd_ne (ne_of_none e h)]
  exact s b u e
theorem same_new {H : Hp} {p : Addr} {o : HO} (hp : H p = none) : Same H (upd H p o) := fun b u e => by
  rw [upd_ne (ne_of_none e hp)]
  exact e
theorem Same.new {H0 H1 : Hp} {p : Addr} {o : HO} (s : Same H0 H1) (h : H1 p = none) : Same H0 (upd H1 p o) := s.trans (same_new h)
theorem new_of {H0 H1 : Hp} {p : Addr} (s : Same H0 H1) (h : H1 p = none) : H0 p = none := by
  cases e : H0 p with
  | none => rfl
  | some u =>
    rw [s _ _ e] at h
    cases h
end Xq
/-! The defs' promises in one form; integers, fractions, terms. -/
namespace Xq
open PySem PySem.Spec PyProof.Rows L2
def top (i : Nat) : Stmt := PySem.Challenge.pw_likepanes_k39_known_writings.main.body.getD i (.Pass ⟨0, 0, 0, 0⟩)
/-- called with args a where pre holds, it gives a value of which post holds; what was tracked is as it was -/
def Prm {α : Type} (args : α → List V) (pre : α → Hp → Prop) (post : α → Hp → V → Hp → Prop) : Sp := fun vs H Q _ => ∃ a, vs = args a ∧ pre a H ∧ ∀ v H', Same H H' → post a H v H' → Q v H'
/-- a def of the module that keeps a promise, as it is called by its name -/
structure Cal (P : Program) (w : World) (K : PySem.W.Frag) (mg : Str → Option Value) (base : Heap) (k : Nat) (x : Str) (ps : List Str) (sp : Sp) : Prop where
  ex : ∃ f fd, FnOk P w K mg base CX0 k f fd ps sp ∧ Binds K fd ps [] ∧ mg x = some (.ref f) ∧ PySem.W.keepIn K (.ref f) = true ∧ ∃ oc od osl, K.lookup f = some ⟨oc, od, .func fd, osl⟩
/-- the def st stands under its name -/
structure Df (K : PySem.W.Frag) (mg : Str → Option Value) (x : Str) (st : Stmt) : Prop where
  ex : ∃ f fd, Fun K x x st f fd ∧ mg x = some (.ref f)
section
variable {X : Cx} {k j : Nat} {ps : List Str} {sp : Sp} {x : Str} {p pos : Pos} {e : Expr} {es : List Expr} {t : TA}
theorem pe_cl (C : Cal X.prog X.w X.K X.mg X.base k x ps sp) (hr : Room j X.A) (ha : PA X (e :: es) t) (hkj : k ≤ j := by decide) (hg : Gl X x := by rfl) (hdb : (x == ("__debug__" : Str)) = false := by decide)
    (he : starEach (e :: es) X.env = (false, eval e X.env) :: starEach es X.env := by rfl) (hpl : (backTo pos (starEach es X.env)).any (·.1) = false := by rfl) :
    PE X (.Call (.Name x p) (e :: es) [] pos) (tCall sp [] E0 t) := by
  obtain ⟨f, fd, F, b, m, kp, _⟩ := C.ex
  exact pe_call F (hr.mono hkj) hg m kp b .nil pass0 ha hdb he hpl
end
theorem mkC {P : Program} {w : World} {K : PySem.W.Frag} {mg : Str → Option Value} {base : Heap} {α : Type} {args : α → List V} {pre : α → Hp → Prop} {post : α → Hp → V → Hp → Prop} {N ps : List Str} {x : Str} {st : Stmt} {k : Nat}
    (D : Df K mg x st) (S : FnScope N ps (defScope st))
    (hb : ∀ (kV doc pm : Value) (an : Option Addr) (cdv ct : Value) (us : List Value), us.length = ps.length → bindArgs (PySem.W.fnOf x x (defArgs st) (defBody st) (defScope st) .none kV doc pm an cdv ct) ⟨us, []⟩ = pure (ps.zip us))
    (hl : ∀ a : α, (args a).length = ps.length)
    (h : ∀ (f : Addr) (cdv : Value) (A : Around) (outer : List Env) (s : Shared) (H : Hp) (a : α) (Q : VK) (E : XK), Room k (A.deeper (envOfC x (defScope st) s.heap.objs.size f cdv)) → pre a H →
      (∀ v H', Same H H' → post a H v H' → Q v H') →
      ∃ t, PSs (cxOf CX0 P w K mg base N x (defScope st) f cdv A outer s H E).nox (defBody st) t ∧ t { nx := fun _ H' => Q .non H', rt := Q } (L2.start N (args a)) H) :
    Cal P w K mg base (k + 1) x ps (Prm args pre post) := by
  obtain ⟨f, fd, F, m⟩ := D.ex
  have lk : ∃ oc od osl, K.lookup f = some ⟨oc, od, .func fd, osl⟩ := by
    obtain ⟨oc, od, kV, doc, pm, an, cdv, ct, osl, _, lk, _⟩ := F.ex
    exact ⟨oc, od, osl, lk⟩
  refine ⟨f, fd, F.ok S (fun vs H Q E h => ?_) (fun cdv A outer s H vs Q E hr hp => ?_), F.binds hb, m, F.kp, lk⟩
  · obtain ⟨a, rfl, _⟩ := h
    exact hl a
  · obtain ⟨a, rfl, hpre, hk⟩ := hp
    exact h f cdv A outer s H a Q E hr hpre hk
/-- the built-ins' names are free -/
structure Bl (mg : Str → Option Value) : Prop where
  isinstance_ : mg "isinstance" = none
  int_ : mg "int" = none
  bool_ : mg "bool" = none
  tuple_ : mg "tuple" = none
  str_ : mg "str" = none
  len_ : mg "len" = none
  all_ : mg "all" = none
  range_ : mg "range" = none
  max_ : mg "max" = none
  min_ : mg "min" = none
  abs_ : mg "abs" = none
  enumerate_ : mg "enumerate" = none
  zip_ : mg "zip" = none
  divmod_ : mg "divmod" = none
  repr_ : mg "repr" = none
  gcd_ : mg "gcd" = some (.builtin "math.gcd")
  deg_ : ∃ t, mg "MOST_DEGREE" = some (.int 5 t)
  term_ : ∃ t, mg "MOST_TERM" = some (.int 1000 t)
  bits_ : ∃ t, mg "FIRST_BITS" = some (.int 64 t)
/-- a tuple of ints -/
def TI (H : Hp) (p : Addr) (xs : List Int) : Prop := H p = some (.tup (xs.map V.int))
def LI (H : Hp) (p : Addr) (xs : List Int) : Prop := H p = some (.lst (xs.map V.int))
theorem TI.same {H H' : Hp} {p : Addr} {xs : List Int} (s : Same H H') (h : TI H p xs) : TI H' p xs := s _ _ h
section
variable {P : Program} {w : World} {K : PySem.W.Frag} {mg : Str → Option Value} {base : Heap}
theorem pe_isi {X : Cx} {e : Expr} {te : TE} {p p2 pos : Pos} {x : Str} {v : V} {u : Value} (hg : Gl X "isinstance") (hm : X.mg "isinstance" = none) (he : PE X e te) (hg2 : Gl X x) (hm2 : X.mg x = none) (hv : bootBuiltins x = some u) (r : RelV v u)
    (hst : starEach [e, .Name x p2] X.env = (false, eval e X.env) :: starEach [.Name x p2] X.env := by rfl)
    (hn : x ≠ "__name__" := by decide) (hd : (x == ("__debug__" : Str)) = false := by decide) :
    PE X (.Call (.Name "isinstance" p) [e, .Name x p2] [] pos) (tCB (rIsi X.K) (tCons te (tCons (tC v) tNil))) :=
  pe_callB call_isi hg hm (by decide +kernel) (pa_cons he (pa_cons (pe_bltn hg2 hm2 hv r hn hd) pa_nil) hst) (by decide) (by decide) hst
abbrev spIsInt : Sp := Prm (α := Int) (fun i => [.int i]) (fun _ _ => True) (fun _ H v H' => v = .bl true ∧ H' = H)
theorem c_isint (D : Df K mg "is_integer" (top 14)) (B : Bl mg) : Cal P w K mg base 1 "is_integer" ["value"] spIsInt := by
  refine mkC D (N := ["value"]) (⟨rfl, rfl, rfl, by decide +kernel, rfl, by decide +kernel, by decide +kernel⟩) (fun _ _ _ _ _ _ us hl => match us, hl with | [_], _ => rfl) (fun _ => rfl) (fun f cdv A outer s H a Q E hr _ k => ?_)
  refine ⟨_, pss_one (ps_ret (pe_and (pe_isi (v := .ty "int") (by rfl) B.isinstance_ (pv 0) (by rfl) B.int_ PyProof.Rows.boot_int rfl) (pe_one (pe_not (pe_isi (v := .ty "bool") (by rfl) B.isinstance_ (pv 0) (by rfl) B.bool_ PyProof.Rows.boot_bool rfl))))), ?_⟩
  refine ⟨_, rfl, _, _, _, _, true, rfl, .ty _, .base (.int _), kit_ty (by decide +kernel), _, rfl, iteT ?_⟩
  refine ⟨_, rfl, _, _, _, _, false, rfl, .ty _, .base (.int _), kit_ty (by decide +kernel), _, rfl, k _ _ (Same.refl _) ⟨rfl, rfl⟩⟩
end
end Xq
namespace Xq
open PySem PySem.Spec PyProof.Rows L2
section
variable {P : Program} {w : World} {K : PySem.W.Frag} {mg : Str → Option Value} {base : Heap}
theorem s18 : FnScope ["values", "value"] ["values"] (defScope (top 15)) := (⟨rfl, rfl, rfl, by decide +kernel, rfl, by decide +kernel, by decide +kernel⟩)
/-- a tuple of two ints -/
abbrev pre2 : Addr × Int × Int → Hp → Prop := fun a H => TI H a.1 [a.2.1, a.2.2]
abbrev spAreInts : Sp := Prm (α := Addr × Int × Int) (fun a => [.ref a.1]) pre2 (fun _ H v H' => v = .bl true)
theorem c_areints (D : Df K mg "are_integers" (top 15)) (B : Bl mg) (C : Cal P w K mg base 1 "is_integer" ["value"] spIsInt) : Cal P w K mg base 2 "are_integers" ["values"] spAreInts := by
  refine mkC D s18 (fun _ _ _ _ _ _ us hl => match us, hl with | [_], _ => rfl) (fun _ => rfl) (fun f cdv A outer s H a Q E hr h k => ?_)
  obtain ⟨p, x, y⟩ := a
  refine ⟨_, pss_one (ps_ret (pe_callB (cr_all rfl) (by rfl) B.all_ PyProof.Rows.boot_all (pa_cons
    (pe_lc (own := [("value", 1)]) (g := gName 1) (tt := tYes) (te := tCall spIsInt [] E0 (tCons (tVar 1) tNil)) rfl s18.nd (pi_tup (pv 0))
      (blkOk_by (N := ["values", "value"]) (sc := defScope (top 15)) (by decide +kernel)) (fun _ _ _ _ _ => (pg_name (i := 1) (FnScope.nd s18) rfl (Or.inl rfl))) (fun _ _ _ _ _ => pts_nil)
      (fun _ _ _ _ _ => pe_cl C hr (pa_cons (pv 1) pa_nil))) pa_nil))), ?_⟩
  have h0 : H p = some (.tup [.int x, .int y]) := h
  refine ⟨_, rfl, p, rfl, ⟨_, SqT.of h0⟩, fun D hD => lc_yes (G := fun H => SqT K H p [.int x, .int y]) (xs := [.int x, .int y]) walk_tup ?_⟩
  have s1 := same_new (o := .lst []) hD
  refine ⟨SqT.of (s1 _ _ h0), rfl, _, rfl, x, rfl, trivial, ?_⟩
  rintro _ _ - ⟨rfl, rfl⟩
  refine ⟨_, upd_same, by decide, ?_⟩
  rw [upd_upd]
  have s2 := same_new (o := .lst [.bl true]) hD
  refine ⟨SqT.of (s2 _ _ h0), rfl, _, rfl, y, rfl, trivial, ?_⟩
  rintro _ _ - ⟨rfl, rfl⟩
  refine ⟨_, upd_same, by decide, ?_⟩
  rw [upd_upd]
  have s3 := same_new (o := .lst [.bl true, .bl true]) hD
  refine ⟨SqT.of (s3 _ _ h0), D, [true, true], rfl, SqL.of upd_same, k _ _ s3 rfl⟩
theorem s19 : FnScope ["value", "top", "bottom"] ["value"] (defScope (top 16)) := (⟨rfl, rfl, rfl, by decide +kernel, rfl, by decide +kernel, by decide +kernel⟩)
abbrev spIsFrac : Sp := Prm (α := Addr × Int × Int) (fun a => [.ref a.1]) (fun a H => pre2 a H ∧ 1 ≤ a.2.2 ∧ Nat.gcd a.2.1.natAbs a.2.2.natAbs = 1) (fun _ H v H' => v = .bl true)
theorem c_isfrac (D : Df K mg "is_fraction" (top 16)) (B : Bl mg) (C : Cal P w K mg base 2 "are_integers" ["values"] spAreInts) : Cal P w K mg base 3 "is_fraction" ["value"] spIsFrac := by
  refine mkC D s19 (fun _ _ _ _ _ _ us hl => match us, hl with | [_], _ => rfl) (fun _ => rfl) (fun f cdv A outer s H a Q E hr h k => ?_)
  obtain ⟨p, x, y⟩ := a
  obtain ⟨h, hy, hg⟩ := h
  refine ⟨_, pss_cons (ps_if (PW.pt (pw_or (pt_not (pt_val (pe_isi (v := .ty "tuple") (by rfl) B.isinstance_ (pv 0) (by rfl) B.tuple_ PyProof.Rows.boot_tuple rfl)))
      (pw_or ((pt_cmpR op_ne ((pe_callB call_len_seq (by rfl) (Bl.len_ B) PySem.boot_len (pa_cons (pv 0) pa_nil))) pe_int (nomark _))) (pw_or1 (pt_not (pt_val (pe_cl C hr (pa_cons (pv 0) pa_nil)))))))) pss_nv pss_nil)
    (pss_cons (ps_asg (pv 0) (pg_tup rfl (pgs_cons ((pg_name (i := 1) (FnScope.nd s19) rfl (Or.inl rfl))) (pgs_cons ((pg_name (i := 2) (FnScope.nd s19) rfl (Or.inl rfl))) pgs_nil))))
    (pss_one (ps_ret (pe_and (pe_cmpR op_ge (pv 2) pe_int (nomark _)) (pe_one (pe_cmpR op_eq (pe_callBfun cr_gcd (by rfl) B.gcd_ (pa_cons (pv 1) (pa_cons (pv 2) pa_nil))) pe_int (nomark _))))))), ?_⟩
  have h0 : H p = some (.tup [.int x, .int y]) := h
  refine ⟨_, rfl, _, _, _, _, true, rfl, .ty _, .base (.tup h0), kit_ty (by decide +kernel), _, rfl, iteF ?_⟩
  refine ⟨_, rfl, p, _, rfl, .inr (SqT.of h0), rfl, _, rfl, iteF ?_⟩
  refine ⟨_, rfl, (p, x, y), rfl, h, ?_⟩
  rintro _ H1 s1 rfl
  refine ⟨_, rfl, iteF ?_⟩
  refine ⟨_, rfl, p, _, rfl, SqT.of (s1 _ _ h0), rfl, _, _, rfl, _, _, rfl, rfl, ?_⟩
  refine ⟨_, rfl, _, _, rfl, rfl, _, rfl, ?_⟩
  rw [decide_eq_true (show y ≥ 1 from hy)]
  refine iteT ⟨_, rfl, _, rfl, x, y, rfl, rfl, ?_⟩
  refine k _ _ s1 ?_
  rw [hg]
  rfl
theorem s21 : FnScope ["value"] ["value"] (defScope (top 18)) := (⟨rfl, rfl, rfl, by decide +kernel, rfl, by decide +kernel, by decide +kernel⟩)
abbrev spIsTerm : Sp := Prm (α := Int) (fun i => [.int i]) (fun i _ => -1000 ≤ i ∧ i ≤ 1000) (fun _ H v H' => v = .bl true ∧ H' = H)
theorem c_isterm (D : Df K mg "is_term" (top 18)) (B : Bl mg) (C : Cal P w K mg base 1 "is_integer" ["value"] spIsInt) : Cal P w K mg base 2 "is_term" ["value"] spIsTerm := by
  refine mkC D s21 (fun _ _ _ _ _ _ us hl => match us, hl with | [_], _ => rfl) (fun _ => rfl) (fun f cdv A outer s H i Q E hr h k => ?_)
  obtain ⟨t, ht⟩ := B.term_
  refine ⟨_, pss_one (ps_ret (pe_and (pe_cl C hr (pa_cons (pv 0) pa_nil)) (pe_one (pe_chain op_le op_le (pe_un un_neg (pe_glob (v := .int 1000) (by rfl) ht ⟨_, rfl⟩)) (pv 0) (pe_glob (v := .int 1000) (by rfl) ht ⟨_, rfl⟩))))), ?_⟩
  refine ⟨_, rfl, i, rfl, trivial, ?_⟩
  rintro _ _ - ⟨rfl, rfl⟩
  refine ⟨_, rfl, iteT ?_⟩
  refine ⟨_, rfl, _, rfl, _, _, rfl, rfl, _, rfl, ?_⟩
  rw [decide_eq_true (show -1000 ≤ i from h.1)]
  refine iteT ⟨_, _, rfl, rfl, k _ _ (Same.refl _) ⟨?_, rfl⟩⟩
  show V.bl (decide (i ≤ 1000)) = _
  rw [decide_eq_true h.2]
theorem s22 : FnScope ["equation", "at", "term", "last"] ["equation"] (defScope (top 19)) := (⟨rfl, rfl, rfl, by decide +kernel, rfl, by decide +kernel, by decide +kernel⟩)
end
end Xq
namespace Xq
open PySem PySem.Spec PyProof.Rows L2
def trimM (xs : List Int) : Nat → Nat
  | 0 => 0
  | m + 1 => if xs.getD m 0 = 0 then trimM xs m else m + 1
def trimI (xs : List Int) : List Int := xs.take (trimM xs xs.length)
theorem trimM_le (xs : List Int) : ∀ m, trimM xs m ≤ m
  | 0 => Nat.le_refl _
  | m + 1 => by
    unfold trimM
    split
    · exact Nat.le_succ_of_le (trimM_le xs m)
    · exact Nat.le_refl _
def gcdL (xs : List Int) : Nat := xs.foldl (fun g x => Nat.gcd g x.natAbs) 0
theorem gcdL_succ {xs : List Int} {i : Nat} {x : Int} (h : xs[i]? = some x) : gcdL (xs.take (i + 1)) = Nat.gcd (gcdL (xs.take i)) x.natAbs := by
  unfold gcdL
  rw [List.take_add_one, h, Option.toList_some, List.foldl_append]
  rfl
section
variable {P : Program} {w : World} {K : PySem.W.Frag} {mg : Str → Option Value} {base : Heap}
theorem s24 : FnScope ["terms", "many"] ["terms"] (defScope (top 21)) := (⟨rfl, rfl, rfl, by decide +kernel, rfl, by decide +kernel, by decide +kernel⟩)
/-- a list or a tuple of ints -/
def Sq (H : Hp) (p : Addr) (xs : List Int) : Prop := LI H p xs ∨ TI H p xs
theorem Sq.len {H : Hp} {p : Addr} {xs : List Int} (h : Sq H p xs) : SqL K H p (xs.map V.int) ∨ SqT K H p (xs.map V.int) := h.elim (fun q => .inl (SqL.of q)) (fun q => .inr (SqT.of q))
abbrev spTrim : Sp := Prm (α := Addr × List Int) (fun a => [.ref a.1]) (fun a H => Sq H a.1 a.2) (fun a H v H' => ∃ q, v = .ref q ∧ TI H' q (trimI a.2))
theorem c_trim (D : Df K mg "trimmed" (top 21)) (B : Bl mg) : Cal P w K mg base 1 "trimmed" ["terms"] spTrim := by
  refine mkC D s24 (fun _ _ _ _ _ _ us hl => match us, hl with | [_], _ => rfl) (fun _ => rfl) (fun f cdv A outer s H a Q E hr h k => ?_)
  obtain ⟨p, xs⟩ := a
  have len0 : SqL K H p (xs.map V.int) ∨ SqT K H p (xs.map V.int) := Sq.len h
  have cut : cutV (xs.map V.int) none (some (trimM xs xs.length : Nat)) = (trimI xs).map V.int := by
    have hl := trimM_le xs xs.length
    have e1 : HT.sIx (xs.map V.int).length 0 none = 0 := rfl
    have e2 : HT.sIx (xs.map V.int).length (xs.map V.int).length (some ((trimM xs xs.length : Nat) : Int)) = trimM xs xs.length := by
      rw [HT.sIx_nat, List.length_map]
      omega
    unfold cutV trimI
    rw [e1, e2, List.drop_zero, Nat.sub_zero, List.map_take]
  have stp : ∀ m : Nat, 0 < m → m ≤ xs.length → ∃ z, xs[m - 1]? = some z ∧ (xs.map V.int)[m - 1]? = some (V.int z) ∧ (z = 0 → trimM xs m = trimM xs (m - 1)) ∧ (z ≠ 0 → trimM xs m = m) := fun m h0 hm => by
    have hlt : m - 1 < xs.length := by omega
    refine ⟨xs[m - 1], List.getElem?_eq_getElem hlt, by rw [List.getElem?_map, List.getElem?_eq_getElem hlt]; rfl, fun hz => ?_, fun hz => ?_⟩
    · obtain ⟨n, rfl⟩ : ∃ n, m = n + 1 := ⟨m - 1, by omega⟩
      have e : xs.getD n 0 = 0 := by
        rw [List.getD_eq_getElem?_getD, List.getElem?_eq_getElem (show n < xs.length from hlt), Option.getD_some]
        exact hz
      show (if xs.getD n 0 = 0 then trimM xs n else n + 1) = trimM xs n
      rw [if_pos e]
    · obtain ⟨n, rfl⟩ : ∃ n, m = n + 1 := ⟨m - 1, by omega⟩
      have e : ¬ xs.getD n 0 = 0 := by
        rw [List.getD_eq_getElem?_getD, List.getElem?_eq_getElem (show n < xs.length from hlt), Option.getD_some]
        exact hz
      show (if xs.getD n 0 = 0 then trimM xs n else n + 1) = n + 1
      rw [if_neg e]
  rcases h with h | h
  · have hq : SqL K H p (xs.map V.int) := SqL.of h
    refine ⟨_, pss_cons ((ps_set (i := 1) (FnScope.nd s24) rfl (Or.inl rfl) ((pe_callB call_len_seq (by rfl) (Bl.len_ B) PySem.boot_len (pa_cons (pv 0) pa_nil)))))
      (pss_cons (ps_whB PassesOwn.never (PW.pt (pw_and ((pt_cmpR op_gt (pv 1) pe_int (nomark _))) (pw_and1 ((pt_cmpR op_eq ((pe_ix ix_list (pv 0) (pe_op op_sub (pv 1) pe_int) (fun _ _ => rfl))) pe_int (nomark _)))))) (pss_one (ps_aug (i := 1) s24.nd rfl (Or.inl rfl) pe_int ip_sub)))
      (pss_one (ps_ret (pe_callTy call_tuple_of (by rfl) B.tuple_ PyProof.Rows.boot_tuple (pa_cons (pe_slice sl_list (pv 0) po_none (po_some (pv 1))) pa_nil))))), ?_⟩
    refine ⟨_, rfl, p, _, rfl, len0, ?_⟩
    refine ⟨fun σ H' => H' = H ∧ ∃ m : Nat, σ = [some (.ref p), some (.int m)] ∧ m ≤ xs.length ∧ trimM xs m = trimM xs xs.length, fun σ _ => (match σ with | [_, some (.int m)] => m.toNat | _ => 0), ⟨rfl, xs.length, by rw [List.length_map]; rfl, Nat.le_refl _, rfl⟩, ?_⟩
    rintro σ H' ⟨rfl, m, rfl, hm, ht⟩
    have fin : m = 0 ∨ trimM xs m = m → Q (.ref p) H' ∨ True := fun _ => .inr trivial
    refine ⟨_, rfl, _, _, rfl, rfl, _, rfl, ?_⟩
    have done : trimM xs m = m → (tRet (tCB (fun xs H Q => ∃ p ys, xs = [.ref p] ∧ ((SqL K H p ys ∧ ∀ l, H l = none → Q (.ref l) (upd H l (.tup ys))) ∨ (SqT K H p ys ∧ Q (.ref p) H))) (tCons (tSl (rSlL K) (tVar 0) tNoPart (tPart (tVar 1))) tNil))) { nx := fun _ H' => Q .non H', rt := Q } [some (.ref p), some (.int m)] H' := fun e => by
      refine ⟨_, rfl, _, rfl, _, rfl, p, _, rfl, hq, fun q hq2 => ?_⟩
      have em : m = trimM xs xs.length := e.symm.trans ht
      subst em
      rw [cut]
      have s1 := same_new (o := .lst ((trimI xs).map V.int)) hq2
      refine ⟨q, _, rfl, .inl ⟨SqL.of upd_same, fun q3 hq3 => ?_⟩⟩
      exact k _ _ (Same.new s1 hq3) ⟨q3, rfl, upd_same⟩
    refine ite2 (fun hb => ?_) (fun hb => ?_)
    · have h0 : 0 < m := by
        have q : ((m : Int) > 0) := of_decide_eq_true hb
        omega
      obtain ⟨z, z1, z2, z3, z4⟩ := stp m h0 hm
      have em : ((m : Int) - 1) = ((m - 1 : Nat) : Int) := by omega
      refine ⟨_, rfl, _, rfl, _, _, rfl, rfl, p, _, _, .int z, rfl, rfl, hq, (by rw [em]; exact atI_nat z2), rfl, _, rfl, ?_⟩
      rw [dec_int]
      refine ite2 (fun hz => ?_) (fun hz => ?_)
      · refine ⟨_, rfl, _, _, rfl, rfl, ?_⟩
        refine ⟨⟨rfl, m - 1, by rw [← em]; rfl, by omega, by rw [← z3 (by simpa using hz)]; exact ht⟩, ?_⟩
        show ((m : Int) - 1).toNat < (m : Int).toNat
        omega
      · exact done (z4 (by simpa using hz))
    · have h0 : m = 0 := by
        have q : ¬ ((m : Int) > 0) := fun q => hb (decide_eq_true q)
        omega
      subst h0
      exact done rfl
  · have hq : SqT K H p (xs.map V.int) := SqT.of h
    refine ⟨_, pss_cons ((ps_set (i := 1) (FnScope.nd s24) rfl (Or.inl rfl) ((pe_callB call_len_seq (by rfl) (Bl.len_ B) PySem.boot_len (pa_cons (pv 0) pa_nil)))))
      (pss_cons (ps_whB PassesOwn.never (PW.pt (pw_and ((pt_cmpR op_gt (pv 1) pe_int (nomark _))) (pw_and1 ((pt_cmpR op_eq ((pe_ix ix_tup (pv 0) (pe_op op_sub (pv 1) pe_int) (fun _ _ => rfl))) pe_int (nomark _)))))) (pss_one (ps_aug (i := 1) s24.nd rfl (Or.inl rfl) pe_int ip_sub)))
      (pss_one (ps_ret (pe_callTy call_tuple_of (by rfl) B.tuple_ PyProof.Rows.boot_tuple (pa_cons (pe_slice sl_tupA (pv 0) po_none (po_some (pv 1))) pa_nil))))), ?_⟩
    refine ⟨_, rfl, p, _, rfl, len0, ?_⟩
    refine ⟨fun σ H' => H' = H ∧ ∃ m : Nat, σ = [some (.ref p), some (.int m)] ∧ m ≤ xs.length ∧ trimM xs m = trimM xs xs.length, fun σ _ => (match σ with | [_, some (.int m)] => m.toNat | _ => 0), ⟨rfl, xs.length, by rw [List.length_map]; rfl, Nat.le_refl _, rfl⟩, ?_⟩
    rintro σ H' ⟨rfl, m, rfl, hm, ht⟩
    refine ⟨_, rfl, _, _, rfl, rfl, _, rfl, ?_⟩
    have done : trimM xs m = m → (tRet (tCB (fun xs H Q => ∃ p ys, xs = [.ref p] ∧ ((SqL K H p ys ∧ ∀ l, H l = none → Q (.ref l) (upd H l (.tup ys))) ∨ (SqT K H p ys ∧ Q (.ref p) H))) (tCons (tSl (rSlA K) (tVar 0) tNoPart (tPart (tVar 1))) tNil))) { nx := fun _ H' => Q .non H', rt := Q } [some (.ref p), some (.int m)] H' := fun e => by
      have em : m = trimM xs xs.length := e.symm.trans ht
      refine ⟨_, rfl, _, rfl, _, rfl, p, _, rfl, hq, fun hw => ?_, fun hw q hq2 => ?_⟩
      · have e2 : HT.sIx (xs.map V.int).length (xs.map V.int).length (some (m : Int)) = (xs.map V.int).length := hw.2
        have hml : m = xs.length := by
          rw [HT.sIx_nat, List.length_map] at e2
          omega
        refine ⟨p, _, rfl, .inr ⟨hq, k _ _ (Same.refl _) ⟨p, rfl, ?_⟩⟩⟩
        have et : trimI xs = xs := by
          unfold trimI
          rw [← em, hml, List.take_length]
        show TI H' p (trimI xs)
        rw [et]
        exact h
      · subst em
        rw [cut]
        have s1 := same_new (o := .tup ((trimI xs).map V.int)) hq2
        exact ⟨q, _, rfl, .inr ⟨SqT.of upd_same, k _ _ s1 ⟨q, rfl, upd_same⟩⟩⟩
    refine ite2 (fun hb => ?_) (fun hb => ?_)
    · have h0 : 0 < m := by
        have q : ((m : Int) > 0) := of_decide_eq_true hb
        omega
      obtain ⟨z, z1, z2, z3, z4⟩ := stp m h0 hm
      have em : ((m : Int) - 1) = ((m - 1 : Nat) : Int) := by omega
      refine ⟨_, rfl, _, rfl, _, _, rfl, rfl, p, _, _, .int z, rfl, rfl, hq, (by rw [em]; exact atI_nat z2), rfl, _, rfl, ?_⟩
      rw [dec_int]
      refine ite2 (fun hz => ?_) (fun hz => ?_)
      · refine ⟨_, rfl, _, _, rfl, rfl, ?_⟩
        refine ⟨⟨rfl, m - 1, by rw [← em]; rfl, by omega, by rw [← z3 (by simpa using hz)]; exact ht⟩, ?_⟩
        show ((m : Int) - 1).toNat < (m : Int).toNat
        omega
      · exact done (z4 (by simpa using hz))
    · have h0 : m = 0 := by
        have q : ¬ ((m : Int) > 0) := fun q => hb (decide_eq_true q)
        omega
      subst h0
      exact done rfl
theorem s25 : FnScope ["terms", "common", "term"] ["terms"] (defScope (top 22)) := (⟨rfl, rfl, rfl, by decide +kernel, rfl, by decide +kernel, by decide +kernel⟩)
abbrev spGcd : Sp := Prm (α := Addr × List Int) (fun a => [.ref a.1]) (fun a H => Sq H a.1 a.2) (fun a H v H' => v = .int (gcdL a.2 : Nat) ∧ H' = H)
theorem c_gcd (D : Df K mg "common_divisor" (top 22)) (B : Bl mg) : Cal P w K mg base 1 "common_divisor" ["terms"] spGcd := by
  refine mkC D s25 (fun _ _ _ _ _ _ us hl => match us, hl with | [_], _ => rfl) (fun _ => rfl) (fun f cdv A outer s H a Q E hr h k => ?_)
  obtain ⟨p, xs⟩ := a
  have turn : ∀ (i : Nat) (x : V) (g : Nat), (xs.map V.int)[i]? = some x → ∃ z, xs[i]? = some z ∧ x = .int z := fun i x g hx => by
    rw [List.getElem?_map] at hx
    cases e : xs[i]? with
    | none => rw [e] at hx; cases hx
    | some z => rw [e] at hx; exact ⟨z, rfl, (Option.some.inj hx).symm⟩
  rcases h with h | h
  · have hq : SqL K H p (xs.map V.int) := SqL.of h
    refine ⟨_, pss_cons ((ps_set (i := 1) (FnScope.nd s25) rfl (Or.inl rfl) pe_int)) (pss_cons (ps_for PassesOwn.never rfl (pi_list (pv 0)) ((pg_name (i := 2) (FnScope.nd s25) rfl (Or.inl rfl)))
        (pss_one ((ps_set (i := 1) (FnScope.nd s25) rfl (Or.inl rfl) (pe_callBfun cr_gcd (by rfl) B.gcd_ (pa_cons (pv 1) (pa_cons (pv 2) pa_nil))))))) (pss_one (ps_ret (pv 1)))), ?_⟩
    refine ⟨_, rfl, p, rfl, ⟨_, hq⟩, for_list (xs := xs.map V.int) (fun i σ H' => H' = H ∧ ∃ z, σ = [some (.ref p), some (.int (gcdL (xs.take i) : Nat)), z]) ⟨rfl, none, rfl⟩ (fun i σ H' _ q => by rw [q.1]; exact hq) ?_ ?_⟩
    · rintro i x σ H' hx ⟨rfl, z, rfl⟩
      obtain ⟨y, hy, rfl⟩ := turn i x 0 hx
      refine ⟨_, rfl, _, rfl, _, _, rfl, ?_⟩
      refine ⟨rfl, some (.int y), ?_⟩
      rw [gcdL_succ hy]
      rfl
    · rintro σ H' ⟨rfl, z, rfl⟩
      refine ⟨_, rfl, k _ _ (Same.refl _) ⟨?_, rfl⟩⟩
      rw [List.length_map, List.take_length]
  · have hq : SqT K H p (xs.map V.int) := SqT.of h
    refine ⟨_, pss_cons ((ps_set (i := 1) (FnScope.nd s25) rfl (Or.inl rfl) pe_int)) (pss_cons (ps_for PassesOwn.never rfl (pi_tup (pv 0)) ((pg_name (i := 2) (FnScope.nd s25) rfl (Or.inl rfl)))
        (pss_one ((ps_set (i := 1) (FnScope.nd s25) rfl (Or.inl rfl) (pe_callBfun cr_gcd (by rfl) B.gcd_ (pa_cons (pv 1) (pa_cons (pv 2) pa_nil))))))) (pss_one (ps_ret (pv 1)))), ?_⟩
    refine ⟨_, rfl, p, rfl, ⟨_, hq⟩, for_tup (xs := xs.map V.int) (fun i σ H' => H' = H ∧ ∃ z, σ = [some (.ref p), some (.int (gcdL (xs.take i) : Nat)), z]) ⟨rfl, none, rfl⟩ (fun i σ H' _ q => by rw [q.1]; exact hq) ?_ ?_⟩
    · rintro i x σ H' hx ⟨rfl, z, rfl⟩
      obtain ⟨y, hy, rfl⟩ := turn i x 0 hx
      refine ⟨_, rfl, _, rfl, _, _, rfl, ?_⟩
      refine ⟨rfl, some (.int y), ?_⟩
      rw [gcdL_succ hy]
      rfl
    · rintro σ H' ⟨rfl, z, rfl⟩
      refine ⟨_, rfl, k _ _ (Same.refl _) ⟨?_, rfl⟩⟩
      rw [List.length_map, List.take_length]
theorem s26 : FnScope ["terms", "common", "term"] ["terms"] (defScope (top 23)) := (⟨rfl, rfl, rfl, by decide +kernel, rfl, by decide +kernel, by decide +kernel⟩)
theorem s27 : FnScope ["terms", "term"] ["terms"] (defScope (top 24)) := (⟨rfl, rfl, rfl, by decide +kernel, rfl, by decide +kernel, by decide +kernel⟩)
theorem s28 : FnScope ["terms", "at"] ["terms"] (defScope (top 25)) := (⟨rfl, rfl, rfl, by decide +kernel, rfl, by decide +kernel, by decide +kernel⟩)
end
end Xq
/-! Polynomials of any degree: what negative, primitive, derivative do to any list of ints. -/
namespace Xq
open PySem PySem.Spec PyProof.Rows L2
section
variable {P : Program} {w : World} {K : PySem.W.Frag} {mg : Str → Option Value} {base : Heap}
theorem at_map {xs : List Int} {i : Nat} {x : V} (h : (xs.map V.int)[i]? = some x) : ∃ z, xs[i]? = some z ∧ x = .int z := by
  rw [List.getElem?_map] at h
  cases e : xs[i]? with
  | none => rw [e] at h; cases h
  | some z => rw [e] at h; exact ⟨z, rfl, (Option.some.inj h).symm⟩
theorem take_map {f : Int → Int} {xs : List Int} {i : Nat} {z : Int} (h : xs[i]? = some z) : ((xs.take (i + 1)).map f).map V.int = ((xs.take i).map f).map V.int ++ [V.int (f z)] := by
  rw [List.take_succ, h]
  simp
theorem sz_lt {n : Nat} (h : n ≤ 1000) : n < sizeLine := Nat.lt_of_le_of_lt h (by decide)
abbrev spNegG : Sp := Prm (α := Addr × List Int) (fun a => [.ref a.1]) (fun a H => TI H a.1 a.2 ∧ a.2.length ≤ 1000) (fun a H v H' => ∃ q, v = .ref q ∧ TI H' q (a.2.map fun x => -x))
theorem c_negG (D : Df K mg "negative" (top 24)) (B : Bl mg) : Cal P w K mg base 1 "negative" ["terms"] spNegG := by
  refine mkC D s27 (fun _ _ _ _ _ _ us hl => match us, hl with | [_], _ => rfl) (fun _ => rfl) (fun f cdv A outer s H a Q E hr h k => ?_)
  obtain ⟨p, xs⟩ := a
  obtain ⟨h, hl⟩ := h
  have hl : xs.length ≤ 1000 := hl
  refine ⟨_, pss_one (ps_ret (pe_callTy call_tuple_of (by rfl) B.tuple_ PyProof.Rows.boot_tuple (pa_cons (pe_lc (own := [("term", 1)]) (g := gName 1) (tt := tYes) (te := tUn (rU fun i => .int (-i)) (tVar 1)) rfl s27.nd (pi_tup (pv 0))
      (blkOk_by (N := ["terms", "term"]) (sc := defScope (top 24)) (by decide +kernel)) (fun _ _ _ _ _ => (pg_name (i := 1) (FnScope.nd s27) rfl (Or.inl rfl))) (fun _ _ _ _ _ => pts_nil)
      (fun _ _ _ _ _ => pe_un un_neg (pv 1))) pa_nil))), ?_⟩
  have h0 : H p = some (.tup (xs.map V.int)) := h
  have hq : SqT K H p (xs.map V.int) := SqT.of h
  refine ⟨_, rfl, p, rfl, ⟨_, hq⟩, fun D hD => lc_tup (xs := xs.map V.int) (fun i H' => H' = upd H D (.lst (((xs.take i).map fun x => -x).map V.int))) rfl (fun i H' _ e => by rw [e]; exact SqT.of ((same_new hD) _ _ h0)) (fun i x H' hx e => ?_) (fun H' e => ?_)⟩
  · subst e
    obtain ⟨z, hz, rfl⟩ := at_map hx
    refine ⟨rfl, ?_⟩
    simp only [tYes, if_true]
    refine ⟨_, rfl, _, rfl, _, upd_same, ?_, ?_⟩
    · rw [List.length_map, List.length_map, List.length_take]
      exact sz_lt (by omega)
    · rw [upd_upd, take_map hz]
  · subst e
    rw [List.length_map, List.take_length]
    refine ⟨D, _, rfl, .inl ⟨SqL.of upd_same, fun q hq2 => k _ _ (Same.new (same_new hD) hq2) ⟨q, rfl, upd_same⟩⟩⟩
/-- divided by the common divisor where it is above 1 -/
def primL (xs : List Int) : List Int := if 1 < (gcdL xs : Nat) then xs.map (fun x => Int.fdiv x (gcdL xs : Nat)) else xs
def derL (xs : List Int) : List Int := (List.range (xs.length - 1)).map fun i => ((1 + i : Nat) : Int) * xs.getD (1 + i) 0
abbrev spDerG : Sp := Prm (α := Addr × List Int) (fun a => [.ref a.1]) (fun a H => TI H a.1 a.2 ∧ 1 ≤ a.2.length ∧ a.2.length ≤ 1000) (fun a H v H' => ∃ q, v = .ref q ∧ TI H' q (derL a.2))
theorem c_derG (D : Df K mg "derivative" (top 25)) (B : Bl mg) : Cal P w K mg base 1 "derivative" ["terms"] spDerG := by
  refine mkC D s28 (fun _ _ _ _ _ _ us hl => match us, hl with | [_], _ => rfl) (fun _ => rfl) (fun f cdv A outer s H a Q E hr h k => ?_)
  obtain ⟨p, xs⟩ := a
  obtain ⟨h, h1, hl⟩ := h
  have hl : xs.length ≤ 1000 := hl
  have h1 : 1 ≤ xs.length := h1
  have h0 : H p = some (.tup (xs.map V.int)) := h
  refine ⟨_, pss_one (ps_ret (pe_callTy call_tuple_of (by rfl) B.tuple_ PyProof.Rows.boot_tuple (pa_cons (pe_lc (own := [("at", 1)]) (g := gName 1) (tt := tYes) (te := tOp (rI CMul fun i j => .int (i * j)) (tVar 1) (tOp (rIxT K) (tVar 0) (tVar 1))) rfl s28.nd
      (pi_range2 (by rfl) B.range_ (pa_cons pe_int (pa_cons ((pe_callB call_len_seq (by rfl) (Bl.len_ B) PySem.boot_len (pa_cons (pv 0) pa_nil))) pa_nil)))
      (blkOk_by (N := ["terms", "at"]) (sc := defScope (top 25)) (by decide +kernel)) (fun _ _ _ _ _ => (pg_name (i := 1) (FnScope.nd s28) rfl (Or.inl rfl))) (fun _ _ _ _ _ => pts_nil)
      (fun _ _ _ _ _ => pe_op op_mul (pv 1) ((pe_ix ix_tup (pv 0) (pv 1) (fun _ _ => rfl))))) pa_nil))), ?_⟩
  have en : (((xs.map V.int).length : Int) - 1).toNat = xs.length - 1 := by
    rw [List.length_map]
    omega
  refine ⟨_, rfl, p, _, rfl, .inr (SqT.of h0), _, _, rfl, ⟨by decide, by decide, (by show -2 ^ 62 ≤ (((xs.map V.int).length : Nat) : Int); rw [List.length_map]; omega), (by show (((xs.map V.int).length : Nat) : Int) < 2 ^ 62; rw [List.length_map]; omega)⟩, fun D hD => ?_⟩
  rw [en]
  refine lc_range (lo := 1) (fun i H' => H' = upd H D (.lst (((List.range i).map fun i => ((1 + i : Nat) : Int) * xs.getD (1 + i) 0).map V.int))) rfl (fun i H' hi e => ?_) (fun H' e => ?_)
  · subst e
    have s1 := same_new (o := .lst (((List.range i).map fun i => ((1 + i : Nat) : Int) * xs.getD (1 + i) 0).map V.int)) hD
    have hlt : 1 + i < xs.length := by omega
    have ex : (xs.map V.int)[1 + i]? = some (V.int (xs.getD (1 + i) 0)) := by
      rw [List.getElem?_map, List.getElem?_eq_getElem hlt, List.getD_eq_getElem?_getD, List.getElem?_eq_getElem hlt]
      rfl
    refine ⟨rfl, ?_⟩
    simp only [tYes, if_true]
    have ei : ((1 : Int) + (i : Int)) = ((1 + i : Nat) : Int) := by omega
    refine ⟨_, rfl, _, rfl, _, rfl, p, _, _, .int (xs.getD (1 + i) 0), rfl, rfl, SqT.of (s1 _ _ h0), (by rw [ei]; exact atI_nat ex), _, _, rfl, rfl, .inl ⟨by omega, by omega⟩, _, upd_same, ?_, ?_⟩
    · rw [List.length_map, List.length_map, List.length_range]
      exact sz_lt (by omega)
    · rw [upd_upd, List.range_succ, List.map_append, List.map_append, ei]
      rfl
  · subst e
    refine ⟨D, _, rfl, .inl ⟨SqL.of upd_same, fun q hq2 => k _ _ (Same.new (same_new hD) hq2) ⟨q, rfl, upd_same⟩⟩⟩
end
end Xq
/-! t[::-1], t of any length. -/
namespace Xq
open PySem PySem.Spec PyProof.Rows L2
theorem rev_pick {α : Type} (l : List α) : ((List.range l.length).filterMap fun (m : Nat) => l.toArray[((((l.length : Nat) : Int) - 1) + (m : Int) * (-1)).toNat]?) = l.reverse := by
  have e : ∀ k, k ≤ l.length → ((List.range k).filterMap fun (m : Nat) => l.toArray[((((l.length : Nat) : Int) - 1) + (m : Int) * (-1)).toNat]?) = l.reverse.take k := by
    intro k
    induction k with
    | zero => intro _; rfl
    | succ k ih =>
      intro hk
      have hlt : k < l.reverse.length := by rw [List.length_reverse]; omega
      have en : ((((l.length : Nat) : Int) - 1) + (k : Int) * (-1)).toNat = l.length - 1 - k := by omega
      rw [List.range_succ, List.filterMap_append, ih (by omega), List.take_succ, List.getElem?_eq_getElem hlt]
      have ex : l.toArray[((((l.length : Nat) : Int) - 1) + (k : Int) * (-1)).toNat]? = some l.reverse[k] := by
        rw [en, List.getElem?_toArray, List.getElem_reverse, List.getElem?_eq_getElem (by omega)]
      simp only [List.filterMap_cons, List.filterMap_nil, ex, Option.toList]
  rw [e _ (Nat.le_refl _), ← List.length_reverse, List.take_length]
section
variable {prog : Program} {w : World} {A : Around} {E : Value → Shared → Prop} {s : Shared}
theorem rev_placesG (n : Nat) (hn : 1 ≤ n) : Builtin.Slice.sliceAdjust none none (-1) (n : Int) = ((n : Int) - 1, -1) ∧ Builtin.Slice.slicePlaces ((n : Int) - 1) (-1) (-1) = n := by
  refine ⟨?_, ?_⟩
  · unfold Builtin.Slice.sliceAdjust
    simp
  · unfold Builtin.Slice.slicePlaces
    simp
    omega
theorem sliceApplied_revG {sl : Addr} {vl vu vs : Value} {n : Nat} {Q : Int × Int × Nat → Shared → Prop} (hn : 1 ≤ n) (hs : s.heap.IsSliceOf sl vl vu vs) (pl : IsPart vl none) (pu : IsPart vu none) (ps : IsPart vs (some (-1)))
    (h : Q ((n : Int) - 1, -1, n) s) : wpAny (model prog w) A (Builtin.Slice.sliceApplied (.ref sl) (pure (n : Int))) Q E s := by
  obtain ⟨os, hos, hcs, hds⟩ := id hs
  unfold Builtin.Slice.sliceApplied Builtin.Slice.sliceFields
  refine wpAny_bind (wpAny_bind (wpAny_field hos hds (x := vl) rfl (wpAny_bind (wpAny_field hos hds (x := vu) rfl (wpAny_bind (wpAny_field hos hds (x := vs) rfl (wpAny_pure ?_)))))))
  refine wpAny_bind (HT.slicePart_ ps ?_)
  show wpAny _ _ (if ((-1 : Int) == 0) = true then _ else _) _ _ s
  rw [if_neg (by decide)]
  refine wpAny_bind (HT.slicePart_ pl (wpAny_bind (HT.slicePart_ pu (wpAny_bind (wpAny_pure ?_)))))
  show wpAny _ _ (match Builtin.Slice.sliceAdjust none none (-1) (n : Int) with | (lo, hi) => pure (lo, (-1 : Int), Builtin.Slice.slicePlaces lo hi (-1))) _ _ s
  rw [(rev_placesG n hn).1]
  show wpAny _ _ (pure ((n : Int) - 1, (-1 : Int), Builtin.Slice.slicePlaces ((n : Int) - 1) (-1) (-1))) _ _ s
  rw [(rev_placesG n hn).2]
  exact wpAny_pure h
theorem getItem_tuple_revG {t sl : Addr} {l : List Value} {vl vu vs : Value} {Q : Value → Shared → Prop} (hn : 1 ≤ l.length) (hm : l.length ≤ 1000) (ht : IsTup s.heap t l.toArray) (hs : s.heap.IsSliceOf sl vl vu vs) (pl : IsPart vl none) (pu : IsPart vu none) (ps : IsPart vs (some (-1)))
    (h : Q (.ref s.heap.objs.size) { s with heap := s.heap.push { cls := .type "tuple", data := .seq l.reverse.toArray } }) : wpAny (model prog w) A (getItem (.ref t) (.ref sl)) Q E s := by
  have htake : sizeOk (.seq l.reverse.toArray) := by
    show l.reverse.toArray.size ≤ sizeLine
    rw [List.size_toArray, List.length_reverse]
    have : 1000 ≤ sizeLine := by decide
    omega
  obtain ⟨os, hos, hcs, hds⟩ := id hs
  have hTs : s.TypeIs (.ref sl) "slice" := ⟨os, hos, hcs⟩
  unfold getItem
  try with_reducible refine wpAny_holding ?_
  first | refine wpAny_bind (wpAny_pure ?_) | skip
  refine wpAny_bind (wpAny_sequenceKey ht.typeIs (by decide) ?_)
  refine wpAny_bind (wpAny_callSpecial?_slot (name := Str.ofString "__getitem__") ht.typeIs PyProof.Rows.slot_tuple_getitem
    (wpAny_call_entry PyProof.Rows.slot_tuple_getitem ht.typeIs entry_tuple_getitem ?_ (args_tuple_getitem _ _)))
  show wpAny _ _ (Builtin.Tuple.tupleItemsOf (.ref t) >>= _) _ _ s
  refine wpAny_bind (tupleItemsOf_ ht ?_)
  refine wpAny_bind (wpAny_typeOf hTs ?_)
  rw [if_pos (by decide)]
  refine wpAny_bind (sliceApplied_revG (n := l.toArray.size) (by rw [List.size_toArray]; exact hn) hs pl pu ps ?_)
  have hno : ¬ ((((l.toArray.size : Nat) : Int) - 1 == 0 && (-1 : Int) == 1 && l.toArray.size == l.toArray.size) = true) := by
    intro q
    rw [Bool.and_eq_true, Bool.and_eq_true] at q
    exact absurd q.1.2 (by decide)
  show wpAny _ _ (if (((l.toArray.size : Nat) : Int) - 1 == 0 && (-1 : Int) == 1 && l.toArray.size == l.toArray.size) = true then _ else _) _ _ s
  rw [if_neg hno]
  have pick : ((List.range l.toArray.size).filterMap fun (m : Nat) => l.toArray[((((l.toArray.size : Nat) : Int) - 1) + (m : Int) * (-1)).toNat]?).toArray = l.reverse.toArray := by
    rw [List.size_toArray]
    exact congrArg List.toArray (rev_pick l)
  rw [pick]
  first
    | exact wpAny_bind (m := Builtin.Tuple.tupleExact _) (wpAny_newObj_type (wpAny_pure ⟨_, rfl, wpAny_pure h⟩) htake)
    | exact wpAny_bind (m := Builtin.Tuple.tupleExact _) (wpAny_newObj_type (wpAny_bind (wpAny_pure (wpAny_pure ⟨_, rfl, wpAny_pure h⟩))) htake)
    | exact wpAny_bind (wpAny_bind (m := Builtin.Tuple.tupleExact _) (wpAny_newObj_type (wpAny_pure (wpAny_pure ⟨_, rfl, wpAny_pure h⟩)) htake))
    | exact wpAny_bind (wpAny_bind (m := Builtin.Tuple.tupleExact _) (wpAny_newObj_type (wpAny_pure ⟨_, rfl, wpAny_pure h⟩) htake))
end
/-- t[::-1], t of one at least -/
def tRevG (K : PySem.W.Frag) (te : TE) : TE := fun σ H Q => te σ H fun x H1 => ∃ a xs, x = .ref a ∧ SqT K H1 a xs ∧ (1 ≤ xs.length ∧ xs.length ≤ 1000) ∧ ∀ p, H1 p = none → Q (.ref p) (upd H1 p (.tup xs.reverse))
theorem pe_revG {X : Cx} {e : Expr} {te : TE} {k : Nat} {p1 p2 p3 pos : Pos} (he : PE X e te) : PE X (.Subscript e (.Slice none none (some (.UnaryOp .USub (.Constant (.int 1) k p1) p2)) p3) pos) (tRevG X.K te) := by
  refine ⟨fun pins s σ H Q I h => ?_⟩
  refine Subscript_ (thn (he.run pins s σ H _ I h) fun v s1 ⟨x, H1, I1, r1, q1⟩ => ?_)
  obtain ⟨a, xs, ex, hx, hl, q⟩ := q1
  subst ex
  cases r1
  have hst : PO X (some (.UnaryOp .USub (.Constant (.int 1) k p1) p2)) (tPart (tUn (rU fun i => .int (-i)) (tC (.int 1)))) := po_some (pe_un un_neg pe_int)
  refine wpAny_Slice (thn (po_none.run pins s1 σ H1 (fun o H2 => o = none ∧ H2 = H1) I1 ⟨rfl, rfl⟩) fun vl s2 ⟨l, H2, I2, pl, el, e2⟩ => ?_)
  subst el e2
  refine thn (po_none.run pins s2 σ H2 (fun o H3 => o = none ∧ H3 = H2) I2 ⟨rfl, rfl⟩) fun vu s3 ⟨u, H3, I3, pu, eu, e3⟩ => ?_
  subst eu e3
  refine thn (hst.run pins s3 σ H3 (fun o H4 => o = some (-1) ∧ H4 = H3) I3 ⟨1, rfl, -1, rfl, rfl, rfl⟩) fun vs s4 ⟨o, H4, I4, ps, eo, e4⟩ => ?_
  subst eo e4
  have I5 : Inv X pins σ H4 { s4 with heap := s4.heap.push { cls := .type "slice", data := .fields #[vl, vu, vs] } } := I4.kept (t' := s4.toks) fun b ob q => Heap.get?_push_of_some _ q
  obtain ⟨its, r, ht, hz⟩ := I5.tuple hx
  have hlen := r.length
  show wpAny (model X.prog X.w) X.A (subscriptTail e (.Slice none none (some (.UnaryOp .USub (.Constant (.int 1) k p1) p2)) p3) (.ref a) (.ref s4.heap.objs.size)) (EP X pins σ Q) X.xe { s4 with heap := s4.heap.push { cls := .type "slice", data := .fields #[vl, vu, vs] } }
  refine tail_any (ops := [.ref a, .ref s4.heap.objs.size]) ht.typeIs (PyProof.Rows.slot_tuple_getitem.lookup) ?_ (by with_unfolding_all rfl)
  refine getItem_tuple_revG (by rw [← hlen]; exact hl.1) (by rw [← hlen]; exact hl.2) ht (Heap.IsSliceOf.new _ vl vu vs) pl pu ps ?_
  refine ⟨.ref _, _, I5.laid (t' := s4.toks) (o := .tup xs.reverse) (fun b ob q => Heap.get?_push_of_some _ q) (Nat.le_refl _) ?_, rfl, q _ (I5.hok.fresh (Nat.le_refl _))⟩
  exact ⟨by rw [List.length_reverse]; exact hz, _, r.reverse, IsTup.new _ _⟩
end Xq
/-! Polynomials of any degree: primitive, value_at. -/
namespace Xq
open PySem PySem.Spec PyProof.Rows L2
/-! ### how great -/
abbrev Sm (n : Nat) (i : Int) : Prop := i.natAbs < 2 ^ n
theorem sm_mul {i j : Int} {a b : Nat} (ha : Sm a i) (hb : Sm b j) : Sm (a + b) (i * j) := wide_lt ha hb
theorem sm_le {i : Int} {a b : Nat} (ha : Sm a i) (h : a ≤ b) : Sm b i := Nat.lt_of_lt_of_le ha (Nat.pow_le_pow_right (by decide) h)
theorem cm {i j : Int} {a b : Nat} (ha : Sm a i) (hb : Sm b j) (h0 : 0 < a := by decide) (h1 : 0 < b := by decide) (h : a + b ≤ 1000000 := by decide) : CMulW i j := wide_mul ha hb h0 h1 h
theorem iop_mulW {X : Cx} : OpR X (inplaceOp .Mult) (rI CMulW fun i j => .int (i * j)) := opI fun _ _ _ _ _ _ _ hc q => imul_int q hc.ok
section
variable {P : Program} {w : World} {K : PySem.W.Frag} {mg : Str → Option Value} {base : Heap}
theorem log_lt {n a : Nat} (h : n < 2 ^ a) (h0 : 0 < a) : n.log2 < a := by
  by_cases e : n = 0
  · subst e
    simpa using h0
  · exact (Nat.log2_lt e).mpr h
theorem c_primG (D : Df K mg "primitive" (top 23)) (B : Bl mg) (C : Cal P w K mg base 1 "common_divisor" ["terms"] spGcd) : Cal P w K mg base 2 "primitive" ["terms"] (Prm (α := Addr × List Int) (fun a => [.ref a.1]) (fun a H => TI H a.1 a.2 ∧ a.2.length ≤ 1000 ∧ Sm 9000 (gcdL a.2 : Nat)) (fun a H v H' => ∃ q, v = .ref q ∧ TI H' q (primL a.2))) := by
  refine mkC D s26 (fun _ _ _ _ _ _ us hl => match us, hl with | [_], _ => rfl) (fun _ => rfl) (fun f cdv A outer s H a Q E hr h k => ?_)
  obtain ⟨p, xs⟩ := a
  obtain ⟨h, hl, hb⟩ := h
  have hl : xs.length ≤ 1000 := hl
  have hb : Sm 9000 ((gcdL xs : Nat) : Int) := hb
  have h0 : H p = some (.tup (xs.map V.int)) := h
  refine ⟨_, pss_cons (ps_set (i := 1) s26.nd rfl (Or.inr rfl) (pe_cl C hr (pa_cons (pv 0) pa_nil))) (pss_one (ps_ret (pe_ifExp ((pt_cmpR op_gt (pv 1) pe_int (nomark _)))
    (pe_callTy call_tuple_of (by rfl) B.tuple_ PyProof.Rows.boot_tuple (pa_cons (pe_lc (own := [("term", 2)]) (g := gName 2) (tt := tYes) (te := tOp (rI CDivX fun i j => .int (i.fdiv j)) (tVar 2) (tVar 1)) rfl s26.nd (pi_tup (pv 0))
      (blkOk_by (N := ["terms", "common", "term"]) (sc := defScope (top 23)) (by decide +kernel)) (fun _ _ _ _ _ => (pg_name (i := 2) (FnScope.nd s26) rfl (Or.inl rfl))) (fun _ _ _ _ _ => pts_nil)
      (fun _ _ _ _ _ => pe_op op_fdivX (pv 2) (pv 1))) pa_nil)) (pv 0)))), ?_⟩
  refine ⟨_, rfl, (p, xs), rfl, .inr h, ?_⟩
  rintro _ H - ⟨rfl, rfl⟩
  refine ⟨_, rfl, _, _, rfl, rfl, _, rfl, ?_⟩
  by_cases hg : 1 < gcdL xs
  · rw [decide_eq_true (show ((gcdL xs : Nat) : Int) > 1 by omega)]
    have hq : SqT K H p (xs.map V.int) := SqT.of h
    have cd : CDivX 0 ((gcdL xs : Nat) : Int) := ⟨by omega, log_lt hb (by decide)⟩
    refine iteT ⟨_, rfl, p, rfl, ⟨_, hq⟩, fun D hD => lc_tup (xs := xs.map V.int) (fun i H' => H' = upd H D (.lst (((xs.take i).map fun x => Int.fdiv x (gcdL xs : Nat)).map V.int))) rfl (fun i H' _ e => by rw [e]; exact SqT.of ((same_new hD) _ _ h0)) (fun i x H' hx e => ?_) (fun H' e => ?_)⟩
    · subst e
      obtain ⟨z, hz, rfl⟩ := at_map hx
      refine ⟨rfl, ?_⟩
      simp only [tYes, if_true]
      refine ⟨_, rfl, _, rfl, _, _, rfl, rfl, cd, _, upd_same, ?_, ?_⟩
      · rw [List.length_map, List.length_map, List.length_take]
        exact sz_lt (by omega)
      · rw [upd_upd, take_map hz]
    · subst e
      rw [List.length_map, List.take_length]
      refine ⟨D, _, rfl, .inl ⟨SqL.of upd_same, fun q hq2 => k _ _ (Same.new (same_new hD) hq2) ⟨q, rfl, ?_⟩⟩⟩
      show upd _ q _ q = _
      rw [upd_same]
      unfold primL
      rw [if_pos hg]
  · rw [decide_eq_false (show ¬ ((gcdL xs : Nat) : Int) > 1 by omega)]
    refine iteF ⟨_, rfl, k _ _ (Same.refl _) ⟨p, rfl, ?_⟩⟩
    unfold primL
    rw [if_neg hg]
    exact h
/-! ### value_at -/
def stV (t b : Int) (a : Int × Int) (x : Int) : Int × Int := (a.1 * t + x * a.2, a.2 * b)
def foV (t b : Int) (l : List Int) : Int × Int := l.foldl (stV t b) (0, 1)
/-- what value_at tells -/
def valL (xs : List Int) (t b : Int) : Int := (foV t b xs.reverse).1
theorem foV_succ {t b : Int} {l : List Int} {i : Nat} {z : Int} (h : l[i]? = some z) : foV t b (l.take (i + 1)) = stV t b (foV t b (l.take i)) z := by
  unfold foV
  rw [List.take_succ, h, List.foldl_append]
  rfl
/-- what is reckoned on the way is not too great -/
def okV (n : Nat) (xs : List Int) (t b : Int) : Prop := Sm n t ∧ Sm n b ∧ (∀ x ∈ xs, Sm n x) ∧ ∀ i, i < xs.length → Sm n (foV t b (xs.reverse.take i)).1 ∧ Sm n (foV t b (xs.reverse.take i)).2
abbrev nVa : List Str := ["terms", "top", "bottom", "value", "scale", "term"]
theorem g33 : FnScope nVa ["terms", "top", "bottom"] (defScope (top 26)) := (⟨rfl, rfl, rfl, by decide +kernel, rfl, by decide +kernel, by decide +kernel⟩)
abbrev spValG : Sp := Prm (α := Addr × List Int × Int × Int) (fun a => [.ref a.1, .int a.2.2.1, .int a.2.2.2]) (fun a H => TI H a.1 a.2.1 ∧ 1 ≤ a.2.1.length ∧ a.2.1.length ≤ 1000 ∧ okV 400000 a.2.1 a.2.2.1 a.2.2.2) (fun a H v H' => v = .int (valL a.2.1 a.2.2.1 a.2.2.2))
theorem c_valG (D : Df K mg "value_at" (top 26)) : Cal P w K mg base 1 "value_at" ["terms", "top", "bottom"] spValG := by
  refine mkC D g33 (fun _ _ _ _ _ _ us hl => match us, hl with | [_, _, _], _ => rfl) (fun _ => rfl) (fun f cdv A outer s H a Q E hr h k => ?_)
  obtain ⟨p, xs, t, b⟩ := a
  obtain ⟨h, h1, hl, ht, hb, hx, ho⟩ := h
  have ht : Sm 400000 t := ht
  have hb : Sm 400000 b := hb
  have h0 : H p = some (.tup (xs.map V.int)) := h
  refine ⟨_, pss_cons (ps_asg (pe_tup (pa_cons pe_int (pa_cons pe_int pa_nil))) (pg_tup rfl (pgs_cons ((pg_name (i := 3) (FnScope.nd g33) rfl (Or.inl rfl))) (pgs_cons ((pg_name (i := 4) (FnScope.nd g33) rfl (Or.inl rfl))) pgs_nil))))
    (pss_cons (ps_for PassesOwn.never rfl (pi_tup (pe_revG (pv 0))) ((pg_name (i := 5) (FnScope.nd g33) rfl (Or.inl rfl)))
      (pss_cons ((ps_set (i := 3) (FnScope.nd g33) rfl (Or.inl rfl) (pe_op op_add (pe_op op_mulW (pv 3) (pv 1)) (pe_op op_mulW (pv 5) (pv 4))))) (pss_one (ps_aug (i := 4) g33.nd rfl (Or.inl rfl) (pv 2) iop_mulW))))
    (pss_one (ps_ret (pv 3)))), ?_⟩
  refine ⟨by decide, fun z hz => ⟨z, _, rfl, SqT.of upd_same, rfl, _, _, rfl, _, _, rfl, rfl, ?_⟩⟩
  have s0 := same_new (o := .tup [.int 0, .int 1]) hz
  have hL : (xs.map V.int).length = xs.length := List.length_map ..
  refine ⟨_, rfl, p, _, rfl, SqT.of (s0 _ _ h0), ⟨by rw [hL]; exact h1, by rw [hL]; exact hl⟩, fun q hq => ?_⟩
  rw [← List.map_reverse]
  have s1 := Same.new (o := .tup (xs.reverse.map V.int)) s0 hq
  have hu := upd_same (H := upd H z (.tup [.int 0, .int 1])) (a := q) (o := .tup (xs.reverse.map V.int))
  refine ⟨q, rfl, ⟨_, SqT.of hu⟩, for_tup (xs := xs.reverse.map V.int) (fun i σ H' => H' = upd (upd H z (.tup [.int 0, .int 1])) q (.tup (xs.reverse.map V.int)) ∧ ∃ y, σ = [some (.ref p), some (.int t), some (.int b), some (.int (foV t b (xs.reverse.take i)).1), some (.int (foV t b (xs.reverse.take i)).2), y]) ⟨rfl, none, rfl⟩ (fun i σ H' _ e => by rw [e.1]; exact SqT.of hu) ?_ ?_⟩
  · rintro i x σ H' hx2 ⟨rfl, y, rfl⟩
    obtain ⟨c, hc, rfl⟩ := at_map hx2
    have hi : i < xs.length := by
      rcases Nat.lt_or_ge i xs.reverse.length with hlt | hge
      · rw [List.length_reverse] at hlt
        exact hlt
      · rw [List.getElem?_eq_none hge] at hc
        cases hc
    obtain ⟨o1, o2⟩ := ho i hi
    have oc : Sm 400000 c := hx c (List.mem_reverse.mp (List.mem_of_getElem? hc))
    refine ⟨_, rfl, _, rfl, _, _, rfl, rfl, cm o1 ht, _, rfl, _, rfl, _, _, rfl, rfl, cm oc o2, _, _, rfl, rfl, ?_⟩
    refine ⟨_, rfl, _, rfl, _, _, rfl, rfl, cm o2 hb, ?_⟩
    refine ⟨rfl, some (.int c), ?_⟩
    rw [foV_succ hc]
    rfl
  · rintro σ H' ⟨rfl, y, rfl⟩
    refine ⟨_, rfl, k _ _ s1 ?_⟩
    rw [List.length_map, List.take_length]
    rfl
end
end Xq
/-! Polynomials of any degree: combined, multiplied. -/
namespace Xq
open PySem PySem.Spec PyProof.Rows L2
section
variable {g : TG} {tb : TS} {D : Ends}
theorem for_enum {K : PySem.W.Frag} {a : Addr} {xs : List V} {σ : L2.St} {H : Hp} (Pv : Nat → L2.St → Hp → Prop) (h0 : Pv 0 σ H) (hl : ∀ i σ H, i ≤ xs.length → Pv i σ H → SqT K H a xs)
    (hs : ∀ i x σ H, xs[i]? = some x → Pv i σ H → ∀ T, H T = none → g (.ref T) σ (upd H T (.tup [.int (i : Nat), x])) fun σ2 H2 => tb { D with nx := Pv (i + 1), ct := Pv (i + 1), bk := D.nx } σ2 H2) (hd : ∀ σ H, Pv xs.length σ H → D.nx σ H) :
    ∃ W : Nat → Nat → L2.St → Hp → Prop, (∃ m, W 0 m σ H) ∧ ∀ i m σ H, W i m σ H →
      ((IteT K a).stop i H ∧ D.nx σ H) ∨ ((IteT K a).go i H ∧ ∃ N : L2.St → Hp → Prop, (∀ σ' H', N σ' H' → ∃ m', m' < m ∧ W (i + 1) m' σ' H') ∧ ∀ x H', (IteT K a).yld i H x H' → g x σ H' fun σ2 H2 => tb { D with nx := N, ct := N, bk := D.nx } σ2 H2) := by
  refine ⟨fun i m σ H => m = xs.length - i ∧ i ≤ xs.length ∧ Pv i σ H, ⟨xs.length, by simp, Nat.zero_le _, h0⟩, ?_⟩
  rintro i m σ H ⟨rfl, hi, p⟩
  have q := hl i σ H hi p
  by_cases hlt : i < xs.length
  · refine .inr ⟨⟨xs, xs[i], q, by simp [hlt]⟩, Pv (i + 1), fun σ' H' p' => ⟨xs.length - (i + 1), by omega, rfl, hlt, p'⟩, fun x H' y => ?_⟩
    obtain ⟨T, z, rfl, hT, rfl, y⟩ := y
    exact hs i z σ H (y xs q) p T hT
  · have e : i = xs.length := by omega
    subst e
    exact .inl ⟨⟨xs, q, Nat.le_refl _⟩, hd σ H p⟩
end
/-- places i + sh of a turned by g, term by term -/
def stG (g : Int → Int → Int) (xs : List Int) (sh : Nat) (a : List Int) : Nat → List Int
  | 0 => a
  | i + 1 => (stG g xs sh a i).set (i + sh) (g ((stG g xs sh a i).getD (i + sh) 0) (xs.getD i 0))
theorem stG_len (g : Int → Int → Int) (xs : List Int) (sh : Nat) (a : List Int) : ∀ i, (stG g xs sh a i).length = a.length
  | 0 => rfl
  | i + 1 => by
    show (List.set _ _ _).length = _
    rw [List.length_set, stG_len g xs sh a i]
theorem zeros (n : Nat) : (List.replicate n [V.int 0]).flatten = (List.replicate n (0 : Int)).map V.int := by
  induction n with
  | zero => rfl
  | succ n ih => rw [List.replicate_succ, List.flatten_cons, ih, List.replicate_succ, List.map_cons]; rfl
theorem getD_map {xs : List Int} {i : Nat} (h : i < xs.length) : (xs.map V.int)[i]? = some (V.int (xs.getD i 0)) := by
  rw [List.getElem?_map, List.getElem?_eq_getElem h, List.getD_eq_getElem?_getD, List.getElem?_eq_getElem h]
  rfl
theorem getD_of {xs : List Int} {i : Nat} {z : Int} (h : xs[i]? = some z) : xs.getD i 0 = z := by
  rw [List.getD_eq_getElem?_getD, h]
  rfl
theorem lt_of_at {xs : List Int} {i : Nat} {z : Int} (h : xs[i]? = some z) : i < xs.length := by
  rcases Nat.lt_or_ge i xs.length with q | q
  · exact q
  · rw [List.getElem?_eq_none q] at h
    cases h
theorem set_map (xs : List Int) (i : Nat) (z : Int) : (xs.map V.int).set i (V.int z) = (xs.set i z).map V.int := by
  rw [List.map_set]
theorem ixN_nat {n i : Nat} (h : i < n) : ixN n (i : Int) = some i := by
  unfold ixN
  simp
  omega
def combA (c : Int) (xs : List Int) (ys : List Int) (sh : Nat) : List Int := stG (fun o x => o + c * x) xs 0 (List.replicate (max xs.length (ys.length + sh)) 0) xs.length
def combL (c : Int) (xs : List Int) (wt : Int) (ys : List Int) (sh : Nat) : List Int := trimI (stG (fun o y => o - wt * y) ys sh (combA c xs ys sh) ys.length)
section
variable {P : Program} {w : World} {K : PySem.W.Frag} {mg : Str → Option Value} {base : Heap}
abbrev nCo : List Str := ["factor", "one", "weight", "other", "shift", "result", "at", "term"]
theorem g35 : FnScope nCo ["factor", "one", "weight", "other", "shift"] (defScope (top 27)) := (⟨rfl, rfl, rfl, by decide +kernel, rfl, by decide +kernel, by decide +kernel⟩)
abbrev spCombG : Sp := Prm (α := Int × Addr × Int × Addr × Nat × List Int × List Int) (fun ⟨c, p, wt, q, sh, xs, ys⟩ => [.int c, .ref p, .int wt, .ref q, .int (sh : Int)])
  (fun ⟨c, p, wt, q, sh, xs, ys⟩ H => TI H p xs ∧ TI H q ys ∧ Sm 400000 c ∧ Sm 400000 wt ∧ (∀ x ∈ xs, Sm 400000 x) ∧ (∀ y ∈ ys, Sm 400000 y) ∧ xs.length ≤ 1000 ∧ ys.length + sh ≤ 1000)
  (fun ⟨c, p, wt, q, sh, xs, ys⟩ H v H' => ∃ r, v = .ref r ∧ TI H' r (combL c xs wt ys sh))
theorem c_combG (D : Df K mg "combined" (top 27)) (B : Bl mg) (C : Cal P w K mg base 1 "trimmed" ["terms"] spTrim) : Cal P w K mg base 2 "combined" ["factor", "one", "weight", "other", "shift"] spCombG := by
  refine mkC D g35 (fun _ _ _ _ _ _ us hl => match us, hl with | [_, _, _, _, _], _ => rfl) (fun _ => rfl) (fun f cdv A outer s H a Q E hr h k => ?_)
  obtain ⟨c, p, wt, q, sh, xs, ys⟩ := a
  obtain ⟨h1, h2, bc, bw, bx, by', lx, ly⟩ := h
  refine ⟨_, pss_cons ((ps_set (i := 5) (FnScope.nd g35) rfl (Or.inl rfl) (pe_op op_rep (pe_lst (pa_cons pe_int pa_nil)) (pe_callB (call_max2 rfl) (by rfl) B.max_ PyProof.Rows.boot_max (pa_cons ((pe_callB call_len_seq (by rfl) (Bl.len_ B) PySem.boot_len (pa_cons (pv 1) pa_nil))) (pa_cons (pe_op op_add ((pe_callB call_len_seq (by rfl) (Bl.len_ B) PySem.boot_len (pa_cons (pv 3) pa_nil))) (pv 4)) pa_nil))))))
    (pss_cons (ps_for PassesOwn.never rfl (pi_enumT (by rfl) B.enumerate_ (pa_cons (pv 1) pa_nil)) (pg_tup rfl (pgs_cons ((pg_name (i := 6) (FnScope.nd g35) rfl (Or.inl rfl))) (pgs_cons ((pg_name (i := 7) (FnScope.nd g35) rfl (Or.inl rfl))) pgs_nil)))
        (pss_one (ps_augS (pv 5) (pv 6) get_list (pe_op op_mulW (pv 0) (pv 7)) ip_add set_list)))
    (pss_cons (ps_for PassesOwn.never rfl (pi_enumT (by rfl) B.enumerate_ (pa_cons (pv 3) pa_nil)) (pg_tup rfl (pgs_cons ((pg_name (i := 6) (FnScope.nd g35) rfl (Or.inl rfl))) (pgs_cons ((pg_name (i := 7) (FnScope.nd g35) rfl (Or.inl rfl))) pgs_nil)))
        (pss_one (ps_augS (pv 5) (pe_op op_add (pv 6) (pv 4)) get_list (pe_op op_mulW (pv 2) (pv 7)) ip_sub set_list)))
    (pss_one (ps_ret (pe_cl C hr (pa_cons (pv 5) pa_nil)))))), ?_⟩
  have h10 : H p = some (.tup (xs.map V.int)) := h1
  have h20 : H q = some (.tup (ys.map V.int)) := h2
  have lx' : (xs.map V.int).length = xs.length := List.length_map ..
  have ly' : (ys.map V.int).length = ys.length := List.length_map ..
  refine ⟨by decide, fun l hl => ?_⟩
  have s1 := same_new (o := .lst [.int 0]) hl
  have n1 : (if (((ys.map V.int).length : Nat) : Int) + (sh : Int) > (((xs.map V.int).length : Nat) : Int) then (((ys.map V.int).length : Nat) : Int) + (sh : Int) else (((xs.map V.int).length : Nat) : Int)) = ((max xs.length (ys.length + sh) : Nat) : Int) := by
    rw [lx', ly']
    split <;> omega
  have nm : max xs.length (ys.length + sh) ≤ 1000 := by omega
  refine ⟨_, rfl, p, _, rfl, .inr (SqT.of (s1 _ _ h10)), _, rfl, q, _, rfl, .inr (SqT.of (s1 _ _ h20)), _, rfl, _, _, rfl, rfl, _, _, rfl, ?_⟩
  refine ⟨l, ((max xs.length (ys.length + sh) : Nat) : Int), _, rfl, congrArg V.int n1, upd_same, by omega, by omega, ?_, fun m hm => ?_⟩
  · show 1 * ((max xs.length (ys.length + sh) : Nat) : Int).toNat ≤ sizeLine
    have : 1000 ≤ sizeLine := by decide
    omega
  have s2 := Same.new (o := .lst (List.replicate ((max xs.length (ys.length + sh) : Nat) : Int).toNat [V.int 0]).flatten) s1 hm
  have hm0 : H m = none := new_of s1 hm
  have em := upd_same (H := upd H l (.lst [.int 0])) (a := m) (o := .lst (List.replicate ((max xs.length (ys.length + sh) : Nat) : Int).toNat [V.int 0]).flatten)
  generalize upd (upd H l (.lst [.int 0])) m (.lst (List.replicate ((max xs.length (ys.length + sh) : Nat) : Int).toNat [V.int 0]).flatten) = H2 at *
  rw [zeros, Int.toNat_natCast] at em
  have la : (combA c xs ys sh).length = max xs.length (ys.length + sh) := by
    unfold combA
    rw [stG_len, List.length_replicate]
  refine ⟨_, rfl, p, _, rfl, SqT.of (s2 _ _ h10), for_enum (xs := xs.map V.int) (fun i σ H' => Same H H' ∧ H' m = some (.lst ((stG (fun o x => o + c * x) xs 0 (List.replicate (max xs.length (ys.length + sh)) 0) i).map V.int)) ∧ ∃ y z : Option V, σ = [some (.int c), some (.ref p), some (.int wt), some (.ref q), some (.int (sh : Int)), some (.ref m), y, z]) ⟨s2, em, none, none, rfl⟩ (fun i σ H' _ e => SqT.of (e.1 _ _ h10)) ?_ ?_⟩
  · rintro i x σ H3 hx ⟨s3, e3, y, z, rfl⟩ T hT
    obtain ⟨b, hb, rfl⟩ := at_map hx
    have hi := lt_of_at hb
    have s4 := Same.new (o := .tup [.int (i : Nat), .int b]) s3 hT
    have nT : m ≠ T := ne_of_none e3 hT
    have e4 : upd H3 T (.tup [.int (i : Nat), .int b]) m = _ := (upd_ne nT).trans e3
    have li : i < (stG (fun o x => o + c * x) xs 0 (List.replicate (max xs.length (ys.length + sh)) 0) i).length := by
      rw [stG_len, List.length_replicate]
      omega
    refine ⟨T, _, rfl, SqT.of upd_same, rfl, _, _, rfl, _, _, rfl, rfl, _, rfl, _, rfl, m, _, _, _, rfl, rfl, SqL.of e4, atI_nat (getD_map li), ?_⟩
    refine ⟨_, rfl, _, rfl, _, _, rfl, rfl, cm bc (bx b (List.mem_of_getElem? hb)), _, _, rfl, rfl, m, _, _, i, rfl, rfl, e4, ixN_nat (by rw [List.length_map]; exact li), ?_⟩
    refine ⟨Same.put s4 hm0, ?_, _, _, rfl⟩
    rw [upd_same, set_map]
    show some (HO.lst _) = some (HO.lst (List.map V.int (List.set _ (i + 0) _)))
    rw [getD_of hb]
    rfl
  · rintro σ H3 ⟨s3, e3, y, z, rfl⟩
    rw [lx'] at e3
    have e3 : H3 m = some (.lst ((combA c xs ys sh).map V.int)) := e3
    refine ⟨_, rfl, q, _, rfl, SqT.of (s3 _ _ h20), for_enum (xs := ys.map V.int) (fun i σ H' => Same H H' ∧ H' m = some (.lst ((stG (fun o y => o - wt * y) ys sh (combA c xs ys sh) i).map V.int)) ∧ ∃ y z : Option V, σ = [some (.int c), some (.ref p), some (.int wt), some (.ref q), some (.int (sh : Int)), some (.ref m), y, z]) ⟨s3, e3, y, z, rfl⟩ (fun i σ H' _ e => SqT.of (e.1 _ _ h20)) ?_ ?_⟩
    · rintro i x σ H4 hx ⟨s4, e4, y, z, rfl⟩ T hT
      obtain ⟨b, hb, rfl⟩ := at_map hx
      have hi := lt_of_at hb
      have s5 := Same.new (o := .tup [.int (i : Nat), .int b]) s4 hT
      have nT : m ≠ T := ne_of_none e4 hT
      have e5 : upd H4 T (.tup [.int (i : Nat), .int b]) m = _ := (upd_ne nT).trans e4
      have li : i + sh < (stG (fun o y => o - wt * y) ys sh (combA c xs ys sh) i).length := by
        rw [stG_len, la]
        omega
      have ei : ((i : Int) + (sh : Int)) = ((i + sh : Nat) : Int) := by omega
      refine ⟨T, _, rfl, SqT.of upd_same, rfl, _, _, rfl, _, _, rfl, rfl, _, rfl, _, rfl, _, rfl, _, _, rfl, rfl, m, _, _, V.int ((stG (fun o y => o - wt * y) ys sh (combA c xs ys sh) i).getD (i + sh) 0), rfl, rfl, SqL.of e5, by rw [ei]; exact atI_nat (getD_map li), ?_⟩
      refine ⟨_, rfl, _, rfl, _, _, rfl, rfl, cm bw (by' b (List.mem_of_getElem? hb)), _, _, rfl, rfl, m, _, _, i + sh, rfl, rfl, e5, by rw [ei]; exact ixN_nat (by rw [List.length_map]; exact li), ?_⟩
      refine ⟨Same.put s5 hm0, ?_, _, _, rfl⟩
      rw [upd_same, set_map]
      show some (HO.lst _) = some (HO.lst (List.map V.int (List.set _ (i + sh) _)))
      rw [getD_of hb]
    · rintro σ H4 ⟨s4, e4, y, z, rfl⟩
      rw [ly'] at e4
      refine ⟨_, rfl, (m, _), rfl, .inl e4, ?_⟩
      rintro _ H9 s9 ⟨r, rfl, hr9⟩
      exact k _ _ (s4.trans s9) ⟨r, rfl, hr9⟩
end
end Xq
/-! Polynomials of any degree: remainder. -/
namespace Xq
open PySem PySem.Spec PyProof.Rows L2
def tWhI (t : TT) (tb : TS) : TS := fun D σ H => ∃ W : Nat → L2.St → Hp → Prop, (∃ m, W m σ H) ∧ ∀ m σ H, W m σ H → t σ H fun b H1 =>
  if b = true then tb { D with nx := fun σ' H' => ∃ m', m' < m ∧ W m' σ' H', ct := fun σ' H' => ∃ m', m' < m ∧ W m' σ' H', bk := D.nx } σ H1 else D.nx σ H1
/-- while, by a word that counts down -/
theorem ps_whI {X : Cx} {c : Expr} {body : List Stmt} {tc : TT} {tb : TS} {pos : Pos} (hp : PassesOwn (model X.prog X.w) X.A X.env X.xe) (hc : PT X c tc) (hb : PSs X body tb) : PS X (.While c body [] pos) (tWhI tc tb) := by
  have h := ps_while (pos := pos) hp (pt_mn hc) hb
  refine ⟨fun pins s σ H D I hq => h.run pins s σ H D I ?_⟩
  obtain ⟨W, w0, hw⟩ := hq
  refine ⟨W, w0, fun m σ H p => ⟨_, hw m σ H p, fun b H1 q => ?_⟩⟩
  cases b with
  | true => exact ⟨fun σ' H' => ∃ m', m' < m ∧ W m' σ' H', fun σ' H' p' => p', q⟩
  | false => exact q
theorem at_lastD {xs : List Int} (h : 1 ≤ xs.length) : atI (xs.map V.int) (-1) = some (V.int (xs.getLastD 0)) := by
  rcases List.eq_nil_or_concat xs with e | ⟨l, z, e⟩
  · rw [e] at h
    exact absurd h (by decide)
  · rw [e, List.concat_eq_append, List.map_append]
    rw [show List.map V.int [z] = [V.int z] from rfl, atI_last]
    simp
def smB (n : Nat) (xs : List Int) : Bool := xs.all fun x => decide (x.natAbs < 2 ^ n)
theorem smB_ok {n : Nat} {xs : List Int} (h : smB n xs = true) {a : Nat} (ha : n ≤ a) : ∀ x ∈ xs, Sm a x := fun x hx => sm_le (of_decide_eq_true (List.all_eq_true.mp h x hx)) ha
theorem last_mem {xs : List Int} (h : 1 ≤ xs.length) : xs.getLastD 0 ∈ xs := by
  rcases List.eq_nil_or_concat xs with e | ⟨l, z, e⟩
  · rw [e] at h
    exact absurd h (by decide)
  · rw [e, List.concat_eq_append]
    simp
/-- one turn of remainder -/
def nxt (ys xs : List Int) : List Int := combL (if ys.getLastD 0 < 0 then -(ys.getLastD 0) else ys.getLastD 0) xs (if ys.getLastD 0 > 0 then xs.getLastD 0 else -(xs.getLastD 0)) ys (xs.length - ys.length)
def remS (ys : List Int) : Nat → List Int → List Int
  | 0, xs => xs
  | n + 1, xs => if xs.length < ys.length then xs else remS ys n (nxt ys xs)
/-- so many turns are enough, and nothing grows too great -/
def okR (ys : List Int) : Nat → List Int → Bool
  | 0, xs => decide (xs.length < ys.length) && decide (gcdL xs < 2 ^ 9000)
  | n + 1, xs => (decide (xs.length < ys.length) && decide (gcdL xs < 2 ^ 9000)) || (decide (ys.length ≤ xs.length) && smB 4000 xs && decide (xs.length ≤ 1000) && okR ys n (nxt ys xs))
/-- what remainder tells -/
def remL (ys : List Int) (n : Nat) (xs : List Int) : List Int := primL (remS ys n xs)
theorem nxt_sm {b c : Int} {n : Nat} (h : Sm n b) : Sm n (if c < 0 then -b else b) := by
  split
  · unfold Sm at *
    rw [Int.natAbs_neg]
    exact h
  · exact h
section
variable {P : Program} {w : World} {K : PySem.W.Frag} {mg : Str → Option Value} {base : Heap}
abbrev nRe : List Str := ["one", "other", "factor", "weight"]
theorem g36 : FnScope nRe ["one", "other"] (defScope (top 28)) := (⟨rfl, rfl, rfl, by decide +kernel, rfl, by decide +kernel, by decide +kernel⟩)
abbrev spPrimH : Sp := Prm (α := Addr × List Int) (fun a => [.ref a.1]) (fun a H => TI H a.1 a.2 ∧ a.2.length ≤ 1000 ∧ Sm 9000 (gcdL a.2 : Nat)) (fun a H v H' => ∃ q, v = .ref q ∧ TI H' q (primL a.2))
abbrev spRemG : Sp := Prm (α := Addr × Addr × List Int × List Int × Nat) (fun ⟨p, q, xs, ys, n⟩ => [.ref p, .ref q])
  (fun ⟨p, q, xs, ys, n⟩ H => TI H p xs ∧ TI H q ys ∧ 1 ≤ ys.length ∧ ys.length ≤ 1000 ∧ smB 4000 ys = true ∧ okR ys n xs = true) (fun ⟨p, q, xs, ys, n⟩ H v H' => ∃ r, v = .ref r ∧ TI H' r (remL ys n xs))
theorem c_remG (D : Df K mg "remainder" (top 28)) (B : Bl mg) (C : Cal P w K mg base 2 "combined" ["factor", "one", "weight", "other", "shift"] spCombG) (CP : Cal P w K mg base 2 "primitive" ["terms"] spPrimH) : Cal P w K mg base 3 "remainder" ["one", "other"] spRemG := by
  refine mkC D g36 (fun _ _ _ _ _ _ us hl => match us, hl with | [_, _], _ => rfl) (fun _ => rfl) (fun f cdv A outer s H a Q E hr h k => ?_)
  obtain ⟨p, q, xs, ys, n⟩ := a
  obtain ⟨h1, h2, l1, l2, by', ok⟩ := h
  refine ⟨_, pss_cons ((ps_set (i := 2) (FnScope.nd g36) rfl (Or.inl rfl) (pe_callB call_abs (by rfl) B.abs_ PyProof.Rows.boot_abs (pa_cons ((pe_ix ix_tup (pv 1) (pe_un un_neg pe_int) (fun _ _ => rfl))) pa_nil))))
    (pss_cons (ps_whI PassesOwn.never ((pt_cmpR op_ge ((pe_callB call_len_seq (by rfl) (Bl.len_ B) PySem.boot_len (pa_cons (pv 0) pa_nil))) ((pe_callB call_len_seq (by rfl) (Bl.len_ B) PySem.boot_len (pa_cons (pv 1) pa_nil))) (nomark _)))
      (pss_cons ((ps_set (i := 3) (FnScope.nd g36) rfl (Or.inl rfl) (pe_ifExp ((pt_cmpR op_gt ((pe_ix ix_tup (pv 1) (pe_un un_neg pe_int) (fun _ _ => rfl))) pe_int (nomark _))) ((pe_ix ix_tup (pv 0) (pe_un un_neg pe_int) (fun _ _ => rfl))) (pe_un un_neg ((pe_ix ix_tup (pv 0) (pe_un un_neg pe_int) (fun _ _ => rfl)))))))
      (pss_one ((ps_set (i := 0) (FnScope.nd g36) rfl (Or.inl rfl) (pe_cl C hr (pa_cons (pv 2) (pa_cons (pv 0) (pa_cons (pv 3) (pa_cons (pv 1) (pa_cons (pe_op op_sub ((pe_callB call_len_seq (by rfl) (Bl.len_ B) PySem.boot_len (pa_cons (pv 0) pa_nil))) ((pe_callB call_len_seq (by rfl) (Bl.len_ B) PySem.boot_len (pa_cons (pv 1) pa_nil)))) pa_nil)))))))))))
    (pss_one (ps_ret (pe_cl CP hr (pa_cons (pv 0) pa_nil))))), ?_⟩
  have h20 : H q = some (.tup (ys.map V.int)) := h2
  have sy := smB_ok (a := 400000) by' (by decide)
  have sl := sy _ (last_mem l1)
  refine ⟨_, rfl, _, rfl, q, _, _, _, rfl, rfl, SqT.of h20, at_lastD l1, _, rfl, ?_⟩
  refine ⟨fun m σ H' => ∃ xs' p' z, σ = [some (.ref p'), some (.ref q), some (.int (if ys.getLastD 0 < 0 then -(ys.getLastD 0) else ys.getLastD 0)), z] ∧ Same H H' ∧ TI H' p' xs' ∧ okR ys m xs' = true ∧ primL (remS ys m xs') = remL ys n xs, ⟨n, xs, p, none, rfl, Same.refl _, h1, ok, rfl⟩, ?_⟩
  rintro m σ H1 ⟨xs', p', z, rfl, s1, h1', ok1, e1⟩
  have h10 : H1 p' = some (.tup (xs'.map V.int)) := h1'
  have h21 := s1 _ _ h20
  have lx' : (xs'.map V.int).length = xs'.length := List.length_map ..
  have ly' : (ys.map V.int).length = ys.length := List.length_map ..
  refine ⟨_, rfl, p', _, rfl, .inr (SqT.of h10), _, rfl, q, _, rfl, .inr (SqT.of h21), _, _, rfl, rfl, _, rfl, ?_⟩
  by_cases hlt : xs'.length < ys.length
  · rw [decide_eq_false (show ¬ ((((xs'.map V.int).length : Nat) : Int) ≥ (((ys.map V.int).length : Nat) : Int)) by rw [lx', ly']; omega)]
    have er : remS ys m xs' = xs' := by
      cases m with
      | zero => rfl
      | succ m => exact if_pos hlt
    have gb : gcdL xs' < 2 ^ 9000 := by
      cases m with
      | zero => exact of_decide_eq_true (Bool.and_eq_true_iff.mp ok1).2
      | succ m =>
        rcases Bool.or_eq_true_iff.mp ok1 with z | z
        · exact of_decide_eq_true (Bool.and_eq_true_iff.mp z).2
        · have z1 := (Bool.and_eq_true_iff.mp (Bool.and_eq_true_iff.mp (Bool.and_eq_true_iff.mp z).1).1).1
          exact absurd (of_decide_eq_true z1) (by omega)
    rw [er] at e1
    refine iteF ⟨_, rfl, (p', xs'), rfl, ⟨h1', by show xs'.length ≤ 1000; omega, gb⟩, ?_⟩
    rintro _ H9 s9 ⟨r, rfl, hr9⟩
    refine k _ _ (s1.trans s9) ⟨r, rfl, ?_⟩
    rw [← e1]
    exact hr9
  · rw [decide_eq_true (show ((((xs'.map V.int).length : Nat) : Int) ≥ (((ys.map V.int).length : Nat) : Int)) by rw [lx', ly']; omega)]
    cases m with
    | zero =>
      exact absurd (of_decide_eq_true (Bool.and_eq_true_iff.mp ok1).1) hlt
    | succ m =>
      have z : (decide (ys.length ≤ xs'.length) && smB 4000 xs' && decide (xs'.length ≤ 1000) && okR ys m (nxt ys xs')) = true := by
        rcases Bool.or_eq_true_iff.mp ok1 with z | z
        · exact absurd (of_decide_eq_true (Bool.and_eq_true_iff.mp z).1) hlt
        · exact z
      obtain ⟨z3, z4⟩ := Bool.and_eq_true_iff.mp z
      obtain ⟨z1, z3⟩ := Bool.and_eq_true_iff.mp z3
      obtain ⟨z0, z2⟩ := Bool.and_eq_true_iff.mp z1
      have sx := smB_ok (a := 400000) z2 (by decide)
      have lx : xs'.length ≤ 1000 := of_decide_eq_true z3
      have l1x : 1 ≤ xs'.length := by omega
      have er : remS ys (m + 1) xs' = remS ys m (nxt ys xs') := if_neg hlt
      rw [er] at e1
      have sw : Sm 400000 (if ys.getLastD 0 > 0 then xs'.getLastD 0 else -(xs'.getLastD 0)) := by
        have := sx _ (last_mem l1x)
        split
        · exact this
        · unfold Sm at *
          rw [Int.natAbs_neg]
          exact this
      have en : ((((xs'.map V.int).length : Nat) : Int) - (((ys.map V.int).length : Nat) : Int)) = ((xs'.length - ys.length : Nat) : Int) := by
        rw [lx', ly']
        omega
      refine iteT ⟨_, rfl, _, rfl, q, _, _, _, rfl, rfl, SqT.of h21, at_lastD l1, _, _, rfl, rfl, _, rfl, ?_⟩
      by_cases hp : ys.getLastD 0 > 0
      · rw [decide_eq_true hp]
        have ew : xs'.getLastD 0 = (if ys.getLastD 0 > 0 then xs'.getLastD 0 else -(xs'.getLastD 0)) := (if_pos hp).symm
        refine iteT ⟨_, rfl, _, rfl, p', _, _, _, rfl, rfl, SqT.of h10, at_lastD l1x, ?_⟩
        refine ⟨_, rfl, _, rfl, _, rfl, _, rfl, _, rfl, p', _, rfl, .inr (SqT.of h10), _, rfl, q, _, rfl, .inr (SqT.of h21), _, _, rfl, rfl, ?_⟩
        refine ⟨((if ys.getLastD 0 < 0 then -(ys.getLastD 0) else ys.getLastD 0), p', xs'.getLastD 0, q, xs'.length - ys.length, xs', ys), ?_, ⟨h1', TI.same s1 h2, nxt_sm sl, by rw [ew]; exact sw, sx, sy, lx, by show ys.length + (xs'.length - ys.length) ≤ 1000; omega⟩, ?_⟩
        · show [V.int _, V.ref p', V.int _, V.ref q, V.int ((((xs'.map V.int).length : Nat) : Int) - (((ys.map V.int).length : Nat) : Int))] = _
          rw [en]
        rintro _ H2 s2 ⟨r, rfl, hr2⟩
        refine ⟨m, Nat.lt_succ_self m, nxt ys xs', r, _, rfl, s1.trans s2, ?_, z4, e1⟩
        unfold nxt
        rw [← ew]
        exact hr2
      · rw [decide_eq_false hp]
        have ew : -(xs'.getLastD 0) = (if ys.getLastD 0 > 0 then xs'.getLastD 0 else -(xs'.getLastD 0)) := (if_neg hp).symm
        refine iteF ⟨_, rfl, _, rfl, p', _, _, _, rfl, rfl, SqT.of h10, at_lastD l1x, _, rfl, ?_⟩
        refine ⟨_, rfl, _, rfl, _, rfl, _, rfl, _, rfl, p', _, rfl, .inr (SqT.of h10), _, rfl, q, _, rfl, .inr (SqT.of h21), _, _, rfl, rfl, ?_⟩
        refine ⟨((if ys.getLastD 0 < 0 then -(ys.getLastD 0) else ys.getLastD 0), p', -(xs'.getLastD 0), q, xs'.length - ys.length, xs', ys), ?_, ⟨h1', TI.same s1 h2, nxt_sm sl, by rw [ew]; exact sw, sx, sy, lx, by show ys.length + (xs'.length - ys.length) ≤ 1000; omega⟩, ?_⟩
        · show [V.int _, V.ref p', V.int _, V.ref q, V.int ((((xs'.map V.int).length : Nat) : Int) - (((ys.map V.int).length : Nat) : Int))] = _
          rw [en]
        rintro _ H2 s2 ⟨r, rfl, hr2⟩
        refine ⟨m, Nat.lt_succ_self m, nxt ys xs', r, _, rfl, s1.trans s2, ?_, z4, e1⟩
        unfold nxt
        rw [← ew]
        exact hr2
end
end Xq
/-! Polynomials of any degree: sturm_chain. -/
namespace Xq
open PySem PySem.Spec PyProof.Rows L2
/-- rows of ints at places -/
inductive Rw (H : Hp) : List Addr → List (List Int) → Prop
  | nil : Rw H [] []
  | cons {p : Addr} {ps : List Addr} {xs : List Int} {cs : List (List Int)} : TI H p xs → Rw H ps cs → Rw H (p :: ps) (xs :: cs)
theorem Rw.same {H H' : Hp} (s : Same H H') {ps : List Addr} {cs : List (List Int)} (h : Rw H ps cs) : Rw H' ps cs := by
  induction h with
  | nil => exact .nil
  | cons h _ ih => exact .cons (TI.same s h) ih
theorem Rw.put {H : Hp} {c : Addr} {zs : List V} {o : HO} (hc : H c = some (.lst zs)) {ps : List Addr} {cs : List (List Int)} (h : Rw H ps cs) : Rw (upd H c o) ps cs := by
  induction h with
  | nil => exact .nil
  | @cons p _ xs _ h _ ih =>
    refine .cons ?_ ih
    have n : p ≠ c := fun e => by
      have h0 : H p = some (.tup (xs.map V.int)) := h
      rw [e, hc] at h0
      cases h0
    exact (upd_ne n).trans h
theorem Rw.len {H : Hp} {ps : List Addr} {cs : List (List Int)} (h : Rw H ps cs) : ps.length = cs.length := by
  induction h with
  | nil => rfl
  | cons _ _ ih => rw [List.length_cons, List.length_cons, ih]
def dT (xs : List Int) : PyData := .tuple (xs.map PyData.int)
theorem dp_ints {K : PySem.W.Frag} {H : Hp} : ∀ xs : List Int, DpAll K H (xs.map V.int) (xs.map PyData.int)
  | [] => .nil
  | x :: xs => .cons (.int x) (dp_ints xs)
/-- the chain, its last one first, after so many turns -/
def chS : Nat → List (List Int) → List (List Int)
  | n + 1, b :: a :: r => if b.isEmpty then b :: a :: r else chS n (((remL b 20 a).map fun x => -x) :: b :: a :: r)
  | _, c => c
def okC : Nat → List (List Int) → Bool
  | n + 1, b :: a :: r => SeqAt.shaped (dT b) && (PyData.eqv (dT b) (.tuple []) == b.isEmpty) && (b.isEmpty || (decide (b.length ≤ 1000) && smB 4000 b && okR b 20 a && decide ((remL b 20 a).length ≤ 1000) && decide (r.length ≤ 100) && okC n (((remL b 20 a).map fun x => -x) :: b :: a :: r)))
  | 0, b :: _ => SeqAt.shaped (dT b) && (PyData.eqv (dT b) (.tuple []) == b.isEmpty) && b.isEmpty
  | _, _ => false
/-- what sturm_chain tells -/
def sturmL (xs : List Int) : List (List Int) := (chS 10 [derL xs, xs]).tail.reverse
def okS (xs : List Int) : Bool := decide (2 ≤ xs.length) && decide (xs.length ≤ 1000) && okC 10 [derL xs, xs]
theorem atI_last2 {α : Type} (xs : List α) (u v : α) : atI (xs ++ [u] ++ [v]) (-2) = some u := by
  have hl : (xs ++ [u] ++ [v]).length = xs.length + 2 := by simp
  have e : ixN (xs ++ [u] ++ [v]).length (-2) = some xs.length := by
    unfold ixN
    rw [hl, if_neg (by decide), if_pos (by omega)]
    congr 1
    omega
  unfold atI
  rw [e]
  simp
theorem rev2 (q p : Addr) (ps : List Addr) : ((q :: p :: ps).reverse.map V.ref) = (ps.reverse.map V.ref ++ [V.ref p]) ++ [V.ref q] := by simp
section
variable {P : Program} {w : World} {K : PySem.W.Frag} {mg : Str → Option Value} {base : Heap}
theorem g40 : FnScope ["terms", "chain"] ["terms"] (defScope (top 32)) := (⟨rfl, rfl, rfl, by decide +kernel, rfl, by decide +kernel, by decide +kernel⟩)
/-- a chain's list at c -/
def Chn (H : Hp) (c : Addr) (cs : List (List Int)) : Prop := ∃ ps, H c = some (.lst (ps.map V.ref)) ∧ Rw H ps cs
abbrev spSturmG : Sp := Prm (α := Addr × List Int) (fun a => [.ref a.1]) (fun a H => TI H a.1 a.2 ∧ okS a.2 = true) (fun a H v H' => ∃ c, v = .ref c ∧ Chn H' c (sturmL a.2))
theorem Rw.snoc {H : Hp} {p : Addr} {xs : List Int} {ps : List Addr} {cs : List (List Int)} (h : Rw H ps cs) (t : TI H p xs) : Rw H (ps ++ [p]) (cs ++ [xs]) := by
  induction h with
  | nil => exact .cons t .nil
  | cons h _ ih => exact .cons h ih
theorem Rw.rev {H : Hp} {ps : List Addr} {cs : List (List Int)} (h : Rw H ps cs) : Rw H ps.reverse cs.reverse := by
  induction h with
  | nil => exact .nil
  | cons h _ ih =>
    rw [List.reverse_cons, List.reverse_cons]
    exact ih.snoc h
theorem c_sturmG (D : Df K mg "sturm_chain" (top 32)) (B : Bl mg) (CD : Cal P w K mg base 1 "derivative" ["terms"] spDerG) (CR : Cal P w K mg base 3 "remainder" ["one", "other"] spRemG) (CN : Cal P w K mg base 1 "negative" ["terms"] spNegG) : Cal P w K mg base 4 "sturm_chain" ["terms"] spSturmG := by
  refine mkC D g40 (fun _ _ _ _ _ _ us hl => match us, hl with | [_], _ => rfl) (fun _ => rfl) (fun f cdv A outer s H a Q E hr h k => ?_)
  obtain ⟨p00, xs⟩ := a
  obtain ⟨h1, ok⟩ := h
  have h1 : TI H p00 xs := h1
  have ok : okS xs = true := ok
  obtain ⟨ok, okc⟩ := Bool.and_eq_true_iff.mp ok
  obtain ⟨l2, l1⟩ := Bool.and_eq_true_iff.mp ok
  have l2 : 2 ≤ xs.length := of_decide_eq_true l2
  have l1 : xs.length ≤ 1000 := of_decide_eq_true l1
  have hu : (A.deeper (envOfC "sturm_chain" (defScope (top 32)) s.heap.objs.size f cdv)).units + 64 < cLine := by have := hr.un; omega
  refine ⟨_, pss_cons ((ps_set (i := 1) (FnScope.nd g40) rfl (Or.inl rfl) (pe_lst (pa_cons (pv 0) (pa_cons (pe_cl CD hr (pa_cons (pv 0) pa_nil)) pa_nil)))))
    (pss_cons (ps_whI PassesOwn.never (pt_cmpR (op_neD hu) ((pe_ix ix_list (pv 1) (pe_un un_neg pe_int) (fun _ _ => rfl))) (pe_tup pa_nil) (nomark _))
      (pss_one (ps_expr (pe_bm PySem.F.plainAttrs_list PySem.F.slot_list_append PySem.F.type_list_append mt_append (pv 1) (pa_cons (pe_cl CN hr (pa_cons (pe_cl CR hr (pa_cons ((pe_ix ix_list (pv 1) (pe_un un_neg pe_int) (fun _ _ => rfl))) (pa_cons ((pe_ix ix_list (pv 1) (pe_un un_neg pe_int) (fun _ _ => rfl))) pa_nil))) pa_nil)) pa_nil)))))
    (pss_cons (ps_expr (pe_bm0 PySem.F.plainAttrs_list PySem.F.slot_list_pop PySem.F.type_list_pop mt_pop (pv 1)))
    (pss_one (ps_ret (pv 1))))), ?_⟩
  refine ⟨_, rfl, _, rfl, (p00, xs), rfl, ⟨h1, by show 1 ≤ xs.length; omega, l1⟩, ?_⟩
  rintro _ H1 s1 ⟨q, rfl, hq⟩
  refine ⟨(by show 2 ≤ sizeLine; decide), fun c hc => ?_⟩
  have s2 := Same.new (o := .lst [.ref p00, .ref q]) s1 hc
  have c0 : H c = none := new_of s1 hc
  have r2 : Rw (upd H1 c (.lst [.ref p00, .ref q])) [q, p00] [derL xs, xs] := .cons (TI.same (same_new hc) hq) (.cons (TI.same s2 h1) .nil)
  refine ⟨fun m σ H' => ∃ b a r q p ps, σ = [some (.ref p00), some (.ref c)] ∧ Same H H' ∧ H' c = some (.lst ((q :: p :: ps).reverse.map V.ref)) ∧ Rw H' (q :: p :: ps) (b :: a :: r) ∧ okC m (b :: a :: r) = true ∧ chS m (b :: a :: r) = chS 10 [derL xs, xs], ⟨10, derL xs, xs, [], q, p00, [], rfl, s2, upd_same, r2, okc, rfl⟩, ?_⟩
  rintro m σ H2 ⟨b, a, r, q, p', ps, rfl, s3, e3, r3, ok3, ch3⟩
  rw [rev2] at e3
  have hb : TI H2 q b := by cases r3; assumption
  have ha : TI H2 p' a := by
    cases r3 with
    | cons _ r4 => cases r4; assumption
  have hb0 : H2 q = some (.tup (b.map V.int)) := hb
  refine ⟨_, rfl, _, rfl, c, _, _, .ref q, rfl, rfl, SqL.of e3, atI_last _ _, by decide, fun z hz => ?_⟩
  have s4 := Same.new (o := .tup []) s3 hz
  have t4 := same_new (o := .tup []) hz
  have c4 := t4 _ _ e3
  have eqb : (PyData.eqv (dT b) (.tuple []) == b.isEmpty) = true ∧ SeqAt.shaped (dT b) = true := by
    cases m with
    | zero =>
      obtain ⟨x, _⟩ := Bool.and_eq_true_iff.mp ok3
      obtain ⟨y, x⟩ := Bool.and_eq_true_iff.mp x
      exact ⟨x, y⟩
    | succ m =>
      obtain ⟨x, _⟩ := Bool.and_eq_true_iff.mp ok3
      obtain ⟨y, x⟩ := Bool.and_eq_true_iff.mp x
      exact ⟨x, y⟩
  have eb : PyData.eqv (dT b) (.tuple []) = b.isEmpty := beq_iff_eq.mp eqb.1
  refine ⟨dT b, .tuple [], .tup (SqT.of (t4 _ _ hb0)) (dp_ints b), .tup (SqT.of upd_same) .nil, eqb.2, rfl, _, rfl, ?_⟩
  rw [eb]
  cases hbe : b.isEmpty with
  | true =>
    have er : chS m (b :: a :: r) = b :: a :: r := by
      cases m with
      | zero => rfl
      | succ m => exact if_pos hbe
    rw [er] at ch3
    refine ⟨_, rfl, .inl ⟨rfl, _, SqL.of c4⟩, c, _, .ref q, rfl, rfl, c4, ?_, ?_⟩
    · simp
    refine ⟨_, rfl, k _ _ (Same.put s4 c0) ⟨c, rfl, (p' :: ps).reverse, ?_, ?_⟩⟩
    · rw [upd_same, List.dropLast_concat]
      simp
    · have r5 : Rw (upd (upd H2 z (.tup [])) c (.lst ((ps.reverse.map V.ref ++ [V.ref p'] ++ [V.ref q]).dropLast))) (p' :: ps) (a :: r) := Rw.put c4 (Rw.same t4 (by cases r3; assumption))
      unfold sturmL
      rw [← ch3]
      exact r5.rev
  | false =>
    cases m with
    | zero =>
      have z := (Bool.and_eq_true_iff.mp ok3).2
      rw [hbe] at z
      cases z
    | succ m =>
      have z := (Bool.and_eq_true_iff.mp ok3).2
      rw [hbe, Bool.false_or] at z
      obtain ⟨z, z6⟩ := Bool.and_eq_true_iff.mp z
      obtain ⟨z, z5⟩ := Bool.and_eq_true_iff.mp z
      obtain ⟨z, z4⟩ := Bool.and_eq_true_iff.mp z
      obtain ⟨z, z3⟩ := Bool.and_eq_true_iff.mp z
      obtain ⟨z1, z2⟩ := Bool.and_eq_true_iff.mp z
      have lr : r.length ≤ 100 := of_decide_eq_true z5
      have er : chS (m + 1) (b :: a :: r) = chS m (((remL b 20 a).map fun x => -x) :: b :: a :: r) := by
        show (if b.isEmpty then b :: a :: r else chS m (((remL b 20 a).map fun x => -x) :: b :: a :: r)) = _
        rw [hbe]
        rfl
      have b1 : 1 ≤ b.length := by
        cases b with
        | nil => cases hbe
        | cons _ _ => simp
      refine iteT ⟨_, rfl, .inl ⟨rfl, _, SqL.of c4⟩, ?_⟩
      refine ⟨_, rfl, _, rfl, c, _, _, .ref p', rfl, rfl, SqL.of c4, atI_last2 _ _ _, ?_⟩
      refine ⟨_, rfl, _, rfl, c, _, _, .ref q, rfl, rfl, SqL.of c4, atI_last _ _, ?_⟩
      refine ⟨(p', q, a, b, 20), rfl, ⟨TI.same t4 ha, TI.same t4 hb, b1, of_decide_eq_true z1, z2, z3⟩, ?_⟩
      rintro _ H4 s5 ⟨r5, rfl, hr5⟩
      refine ⟨(r5, remL b 20 a), rfl, ⟨hr5, of_decide_eq_true z4⟩, ?_⟩
      rintro _ H5 s6 ⟨r6, rfl, hr6⟩
      have c6 := s6 _ _ (s5 _ _ c4)
      have lz := r3.len
      refine ⟨c, _, _, rfl, rfl, c6, ?_, ?_⟩
      · rw [← rev2, List.length_map, List.length_reverse, lz]
        exact sz_lt (by simp; omega)
      refine ⟨m, Nat.lt_succ_self m, ((remL b 20 a).map fun x => -x), b, a :: r, r6, q, p' :: ps, rfl, Same.put (s4.trans (s5.trans s6)) c0, ?_, ?_, z6, er.symm.trans ch3⟩
      · rw [upd_same]
        simp
      · exact Rw.put c6 (.cons hr6 (Rw.same (t4.trans (s5.trans s6)) r3))
end
end Xq
/-! Polynomials of any degree: changes. -/
namespace Xq
open PySem PySem.Spec PyProof.Rows L2
theorem lc_zipI {g : TG} {K : PySem.W.Frag} {a b : Addr} {xs ys : List V} {tt : TT} {te : TE} {vs : List Nat} {σ : L2.St} {H1 : Hp} {D : Addr} {Qd : Hp → Prop} (Pv : Nat → Hp → Prop) (h0 : Pv 0 (upd H1 D (.lst []))) (hq : ∀ i H, Pv i H → SqL K H a xs ∧ SqL K H b ys)
    (hs : ∀ i x y H, xs[i]? = some x → ys[i]? = some y → Pv i H → ∀ T, H T = none → g (.ref T) (wipe σ vs) (upd H T (.tup [x, y])) fun σ2 H2 => wipe σ2 vs = wipe σ vs ∧ tt σ2 H2 fun b H3 =>
      if b = true then te σ2 H3 fun y H4 => ∃ acc, H4 D = some (.lst acc) ∧ acc.length < sizeLine ∧ Pv (i + 1) (upd H4 D (.lst (acc ++ [y]))) else Pv (i + 1) H3) (hd : ∀ H, Pv (min xs.length ys.length) H → Qd H) :
    ∃ W : Nat → Nat → Hp → Prop, (∃ m, W 0 m (upd H1 D (.lst []))) ∧ ∀ i m H, W i m H →
      ((Itz K a b).stop i H ∧ Qd H) ∨ ((Itz K a b).go i H ∧ ∃ Nx : Hp → Prop, (∀ H', Nx H' → ∃ m', m' < m ∧ W (i + 1) m' H') ∧ ∀ x H', (Itz K a b).yld i H x H' → g x (wipe σ vs) H' fun σ2 H2 => wipe σ2 vs = wipe σ vs ∧ tt σ2 H2 fun b H3 =>
        if b = true then te σ2 H3 fun y H4 => ∃ acc, H4 D = some (.lst acc) ∧ acc.length < sizeLine ∧ Nx (upd H4 D (.lst (acc ++ [y]))) else Nx H3) := by
  refine ⟨fun i m H => m = min xs.length ys.length - i ∧ i ≤ min xs.length ys.length ∧ Pv i H, ⟨min xs.length ys.length, by simp, Nat.zero_le _, h0⟩, ?_⟩
  rintro i m H ⟨rfl, hi, p⟩
  obtain ⟨gx, gy⟩ := hq i H p
  by_cases hlt : i < min xs.length ys.length
  · have h1 : i < xs.length := by omega
    have h2 : i < ys.length := by omega
    refine .inr ⟨⟨xs, ys, xs[i], ys[i], gx, gy, List.getElem?_eq_getElem h1, List.getElem?_eq_getElem h2⟩, Pv (i + 1), fun H' p' => ⟨min xs.length ys.length - (i + 1), by omega, rfl, hlt, p'⟩, fun x H' y => ?_⟩
    obtain ⟨T, u, v, rfl, hT, rfl, y1, y2⟩ := y
    exact hs i u v H (y1 xs gx) (y2 ys gy) p T hT
  · have e : i = min xs.length ys.length := by omega
    subst e
    exact .inl ⟨⟨xs, ys, gx, gy, by omega⟩, hd H p⟩
theorem cut_1 (xs : List V) : cutV xs (some 1) none = xs.drop 1 := by
  unfold cutV
  have e1 : HT.sIx xs.length xs.length none = xs.length := rfl
  rw [e1, show (1 : Int) = ((1 : Nat) : Int) from rfl, HT.sIx_nat]
  by_cases h : 1 ≤ xs.length
  · rw [Nat.min_eq_left h, List.take_of_length_le (by rw [List.length_drop]; omega)]
  · rw [Nat.min_eq_right (by omega), List.drop_length, List.drop_eq_nil_of_le (by omega), List.take_nil]
/-- the signs of those that are not 0 -/
def sgn1 (v : Int) : List Bool := if v = 0 then [] else [decide (0 < v)]
def sgnL : List Int → List Bool
  | [] => []
  | v :: r => sgn1 v ++ sgnL r
theorem sgnL_app (a b : List Int) : sgnL (a ++ b) = sgnL a ++ sgnL b := by
  induction a with
  | nil => rfl
  | cons v r ih => show sgn1 v ++ sgnL (r ++ b) = _; rw [ih, ← List.append_assoc]; rfl
theorem sgnL_len (a : List Int) : (sgnL a).length ≤ a.length := by
  induction a with
  | nil => exact Nat.le_refl _
  | cons v r ih =>
    show (sgn1 v ++ sgnL r).length ≤ r.length + 1
    rw [List.length_append]
    have : (sgn1 v).length ≤ 1 := by unfold sgn1; split <;> simp
    omega
theorem sgnL_succ {vs : List Int} {i : Nat} {v : Int} (h : vs[i]? = some v) : sgnL (vs.take (i + 1)) = sgnL (vs.take i) ++ sgn1 v := by
  rw [List.take_succ, h, sgnL_app]
  show sgnL _ ++ (sgn1 v ++ []) = _
  rw [List.append_nil]
/-- the left ones of the unlike pairs -/
def dif1 (p : Bool × Bool) : List Bool := if p.1 = p.2 then [] else [p.1]
def difL : List (Bool × Bool) → List Bool
  | [] => []
  | p :: r => dif1 p ++ difL r
theorem difL_app (a b : List (Bool × Bool)) : difL (a ++ b) = difL a ++ difL b := by
  induction a with
  | nil => rfl
  | cons v r ih => show dif1 v ++ difL (r ++ b) = _; rw [ih, ← List.append_assoc]; rfl
theorem difL_len (a : List (Bool × Bool)) : (difL a).length ≤ a.length := by
  induction a with
  | nil => exact Nat.le_refl _
  | cons v r ih =>
    show (dif1 v ++ difL r).length ≤ r.length + 1
    rw [List.length_append]
    have : (dif1 v).length ≤ 1 := by unfold dif1; split <;> simp
    omega
theorem difL_succ {vs : List (Bool × Bool)} {i : Nat} {v : Bool × Bool} (h : vs[i]? = some v) : difL (vs.take (i + 1)) = difL (vs.take i) ++ dif1 v := by
  rw [List.take_succ, h, difL_app]
  show difL _ ++ (dif1 v ++ []) = _
  rw [List.append_nil]
/-- what changes tells -/
def chgL (cs : List (List Int)) (t b : Int) : Int := ((difL ((sgnL (cs.map fun xs => valL xs t b)).zip ((sgnL (cs.map fun xs => valL xs t b)).drop 1))).length : Nat)
theorem at_bl {xs : List Bool} {i : Nat} {x : V} (h : (xs.map V.bl)[i]? = some x) : ∃ z, xs[i]? = some z ∧ x = .bl z := by
  rw [List.getElem?_map] at h
  cases e : xs[i]? with
  | none => rw [e] at h; cases h
  | some z => rw [e] at h; exact ⟨z, rfl, (Option.some.inj h).symm⟩
theorem Rw.at {H : Hp} {ps : List Addr} {cs : List (List Int)} (h : Rw H ps cs) : ∀ {i : Nat} {p : Addr}, ps[i]? = some p → ∃ xs, cs[i]? = some xs ∧ TI H p xs := by
  induction h with
  | nil => intro i p e; simp at e
  | @cons q ps xs cs h _ ih =>
    intro i p e
    cases i with
    | zero =>
      rw [List.getElem?_cons_zero] at e
      cases e
      exact ⟨xs, List.getElem?_cons_zero, h⟩
    | succ i =>
      rw [List.getElem?_cons_succ] at e
      obtain ⟨ys, e2, t⟩ := ih e
      exact ⟨ys, by rw [List.getElem?_cons_succ]; exact e2, t⟩
theorem Chn.same {H H' : Hp} {c : Addr} {cs : List (List Int)} (s : Same H H') (h : Chn H c cs) : Chn H' c cs := by
  obtain ⟨ps, e, r⟩ := h
  exact ⟨ps, s _ _ e, r.same s⟩
/-- what is reckoned on the way is not too great -/
def okCh (cs : List (List Int)) (t b : Int) : Prop := cs.length ≤ 100 ∧ ∀ xs ∈ cs, 1 ≤ xs.length ∧ xs.length ≤ 1000 ∧ okV 400000 xs t b
section
variable {P : Program} {w : World} {K : PySem.W.Frag} {mg : Str → Option Value} {base : Heap}
abbrev nCh : List Str := ["chain", "top", "bottom", "values", "signs", "terms", "value", "left", "right"]
theorem g41 : FnScope nCh ["chain", "top", "bottom"] (defScope (top 33)) := (⟨rfl, rfl, rfl, by decide +kernel, rfl, by decide +kernel, by decide +kernel⟩)
abbrev spChgG : Sp := Prm (α := Addr × List (List Int) × Int × Int) (fun a => [.ref a.1, .int a.2.2.1, .int a.2.2.2]) (fun a H => Chn H a.1 a.2.1 ∧ okCh a.2.1 a.2.2.1 a.2.2.2) (fun a H v H' => v = .int (chgL a.2.1 a.2.2.1 a.2.2.2))
theorem c_chgG (D : Df K mg "changes" (top 33)) (B : Bl mg) (C : Cal P w K mg base 1 "value_at" ["terms", "top", "bottom"] spValG) : Cal P w K mg base 2 "changes" ["chain", "top", "bottom"] spChgG := by
  refine mkC D g41 (fun _ _ _ _ _ _ us hl => match us, hl with | [_, _, _], _ => rfl) (fun _ => rfl) (fun f cdv A outer s H a Q E hr h k => ?_)
  obtain ⟨c, cs, t, b⟩ := a
  obtain ⟨⟨ps, hc, rw⟩, lc, ho⟩ := h
  have lc : cs.length ≤ 100 := lc
  have hc : H c = some (.lst (ps.map V.ref)) := hc
  have k : ∀ v H', Same H H' → v = .int (chgL cs t b) → Q v H' := k
  have lp := rw.len
  refine ⟨_, pss_cons (ps_setLc (i := 3) (own := [("terms", 5)]) (g := gName 5) (tt := tYes) (te := tCall spValG [] E0 (tCons (tVar 5) (tCons (tVar 1) (tCons (tVar 2) tNil)))) rfl g41.nd rfl rfl (sw_true rfl rfl rfl (by decide +kernel)) (pi_list (pv 0))
      (blkOk_by (N := nCh) (sc := defScope (top 33)) (by decide +kernel)) (fun _ _ _ _ _ => (pg_name (i := 5) (FnScope.nd g41) rfl (Or.inl rfl))) (fun _ _ _ _ _ => pts_nil)
      (fun _ _ _ _ _ => pe_cl C hr (pa_cons (pv 5) (pa_cons (pv 1) (pa_cons (pv 2) pa_nil)))))
    (pss_cons (ps_setLc (i := 4) (own := [("value", 6)]) (g := gName 6) (tt := tTest (tOp rNe (tVar 6) (tC (.int 0)))) (te := tOp (rI0 fun i j => .bl (decide (j < i))) (tVar 6) (tC (.int 0))) rfl g41.nd rfl rfl (sw_true rfl rfl rfl (by decide +kernel)) (pi_list (pv 3))
      (blkOk_by (N := nCh) (sc := defScope (top 33)) (by decide +kernel)) (fun _ _ _ _ _ => (pg_name (i := 6) (FnScope.nd g41) rfl (Or.inl rfl))) (fun _ _ _ _ _ => pts_one ((pt_cmpR op_ne (pv 6) pe_int (nomark _))))
      (fun _ _ _ _ _ => pe_cmpR op_gt (pv 6) pe_int (nomark _)))
    (pss_one (ps_ret ((pe_callB call_len_seq (by rfl) (Bl.len_ B) PySem.boot_len (pa_cons (pe_lc (own := [("left", 7), ("right", 8)]) (g := gTup K 2 (gCons (gName 7) (gCons (gName 8) gNil))) (tt := tTest (tOp rNe (tVar 7) (tVar 8))) (te := tVar 7) rfl g41.nd (pi_zip (by rfl) B.zip_ (pa_cons (pv 4) (pa_cons (pe_slice sl_list (pv 4) (po_some pe_int) po_none) pa_nil)))
      (blkOk_by (N := nCh) (sc := defScope (top 33)) (by decide +kernel)) (fun _ _ _ _ _ => pg_tup rfl (pgs_cons ((pg_name (i := 7) (FnScope.nd g41) rfl (Or.inl rfl))) (pgs_cons ((pg_name (i := 8) (FnScope.nd g41) rfl (Or.inl rfl))) pgs_nil))) (fun _ _ _ _ _ => pts_one ((pt_cmpR op_ne (pv 7) (pv 8) (nomark _))))
      (fun _ _ _ _ _ => pv 7)) pa_nil)))))), ?_⟩
  -- the values
  refine ⟨_, rfl, c, rfl, ⟨_, SqL.of hc⟩, fun D hD => lc_list (xs := ps.map V.ref) (fun i H' => Same H H' ∧ H' D = some (.lst (((cs.take i).map fun xs => valL xs t b).map V.int))) ⟨same_new hD, upd_same⟩ (fun i H' _ e => SqL.of (e.1 _ _ hc)) (fun i x H' hx e => ?_) (fun H' e => ?_)⟩
  · obtain ⟨s1, e1⟩ := e
    rw [List.getElem?_map] at hx
    obtain ⟨p, hp, rfl⟩ : ∃ p, ps[i]? = some p ∧ x = .ref p := by
      cases e : ps[i]? with
      | none => rw [e] at hx; cases hx
      | some z => rw [e] at hx; exact ⟨z, rfl, (Option.some.inj hx).symm⟩
    obtain ⟨xs, hxs, tx⟩ := rw.at hp
    obtain ⟨o1, o2, o3⟩ := ho xs (List.mem_of_getElem? hxs)
    refine ⟨rfl, ?_⟩
    simp only [tYes, if_true]
    refine ⟨_, rfl, _, rfl, _, rfl, (p, xs, t, b), rfl, ⟨TI.same s1 tx, o1, o2, o3⟩, ?_⟩
    rintro _ H2 s2 rfl
    refine ⟨_, s2 _ _ e1, ?_, Same.put (s1.trans s2) hD, ?_⟩
    · rw [List.length_map, List.length_map, List.length_take]
      exact sz_lt (by omega)
    · rw [upd_same, List.take_succ, hxs]
      simp
  obtain ⟨s1, e1⟩ := e
  rw [List.length_map, lp, List.take_length] at e1
  -- the signs
  refine ⟨_, rfl, D, rfl, ⟨_, SqL.of e1⟩, fun G hG => lc_list (xs := (cs.map fun xs => valL xs t b).map V.int) (fun i H2 => Same H H2 ∧ Same H' H2 ∧ H2 G = some (.lst ((sgnL ((cs.map fun xs => valL xs t b).take i)).map V.bl))) ⟨Same.new s1 hG, same_new hG, upd_same⟩ (fun i H2 _ e => SqL.of (e.2.1 _ _ e1)) (fun i x H2 hx e => ?_) (fun H2 e => ?_)⟩
  · obtain ⟨s2, t2, e2⟩ := e
    obtain ⟨v, hv, rfl⟩ := at_map hx
    have g0 : H G = none := new_of s1 hG
    have lv := lt_of_at hv
    rw [List.length_map] at lv
    refine ⟨rfl, ?_⟩
    refine ⟨_, rfl, rfl, _, rfl, ?_⟩
    by_cases h0 : v = 0
    · rw [decide_eq_true (show V.int v = V.int 0 by rw [h0])]
      refine iteF ⟨s2, t2, ?_⟩
      rw [e2, sgnL_succ hv]
      unfold sgn1
      rw [if_pos h0, List.append_nil]
    · rw [decide_eq_false (show ¬ V.int v = V.int 0 from fun z => h0 (by injection z))]
      refine iteT ⟨_, rfl, _, _, rfl, rfl, _, e2, ?_, Same.put s2 g0, Same.put t2 hG, ?_⟩
      · rw [List.length_map]
        refine sz_lt (Nat.le_trans (sgnL_len _) ?_)
        rw [List.length_take, List.length_map]
        omega
      · rw [upd_same, sgnL_succ hv]
        unfold sgn1
        rw [if_neg h0, List.map_append]
        rfl
  obtain ⟨s2, t2, e2⟩ := e
  rw [List.length_map, List.take_length] at e2
  -- the unlike ones
  refine ⟨_, rfl, _, rfl, _, rfl, G, _, rfl, SqL.of e2, fun R hR => ?_⟩
  have s3 := Same.new (o := .lst (cutV ((sgnL (cs.map fun xs => valL xs t b)).map V.bl) (some 1) none)) s2 hR
  have e3 := same_new (o := .lst (cutV ((sgnL (cs.map fun xs => valL xs t b)).map V.bl) (some 1) none)) hR _ _ e2
  have r3 := upd_same (H := H2) (a := R) (o := .lst (cutV ((sgnL (cs.map fun xs => valL xs t b)).map V.bl) (some 1) none))
  generalize upd H2 R (.lst (cutV ((sgnL (cs.map fun xs => valL xs t b)).map V.bl) (some 1) none)) = H3 at *
  rw [cut_1, ← List.map_drop] at r3
  have ls : (sgnL (cs.map fun xs => valL xs t b)).length ≤ 100 := by
    refine Nat.le_trans (sgnL_len _) ?_
    rw [List.length_map]
    exact lc
  refine ⟨G, R, _, _, rfl, SqL.of e3, SqL.of r3, fun M hM => lc_zipI (xs := (sgnL (cs.map fun xs => valL xs t b)).map V.bl) (ys := ((sgnL (cs.map fun xs => valL xs t b)).drop 1).map V.bl) (fun i H4 => Same H H4 ∧ Same H3 H4 ∧ H4 M = some (.lst ((difL (((sgnL (cs.map fun xs => valL xs t b)).zip ((sgnL (cs.map fun xs => valL xs t b)).drop 1)).take i)).map V.bl)))
    ⟨Same.new s3 hM, same_new hM, upd_same⟩ (fun i H4 e => ⟨SqL.of (e.2.1 _ _ e3), SqL.of (e.2.1 _ _ r3)⟩) (fun i x y H4 hx hy e T hT => ?_) (fun H4 e => ?_)⟩
  · obtain ⟨s4, t4, e4⟩ := e
    obtain ⟨u, hu, rfl⟩ := at_bl hx
    obtain ⟨v, hv, rfl⟩ := at_bl hy
    have m0 : H M = none := new_of s3 hM
    have nT : M ≠ T := ne_of_none e4 hT
    have e5 : upd H4 T (.tup [.bl u, .bl v]) M = _ := (upd_ne nT).trans e4
    have s5 := Same.new (o := .tup [.bl u, .bl v]) s4 hT
    have t5 := Same.new (o := .tup [.bl u, .bl v]) t4 hT
    have hz : ((sgnL (cs.map fun xs => valL xs t b)).zip ((sgnL (cs.map fun xs => valL xs t b)).drop 1))[i]? = some (u, v) := by
      rw [List.getElem?_zip_eq_some]
      exact ⟨hu, hv⟩
    refine ⟨T, _, rfl, SqT.of upd_same, rfl, _, _, rfl, _, _, rfl, rfl, rfl, ?_⟩
    refine ⟨_, rfl, _, rfl, rfl, _, rfl, ?_⟩
    by_cases huv : u = v
    · subst huv
      rw [decide_eq_true rfl]
      refine iteF ⟨s5, t5, ?_⟩
      rw [e5, difL_succ hz]
      unfold dif1
      rw [if_pos rfl, List.append_nil]
    · rw [decide_eq_false (show ¬ V.bl u = V.bl v from fun z => huv (by injection z))]
      refine iteT ⟨_, rfl, _, e5, ?_, Same.put s5 m0, Same.put t5 hM, ?_⟩
      · rw [List.length_map]
        refine sz_lt (Nat.le_trans (difL_len _) ?_)
        rw [List.length_take, List.length_zip]
        omega
      · rw [upd_same, difL_succ hz]
        unfold dif1
        rw [if_neg huv, List.map_append]
        rfl
  obtain ⟨s4, t4, e4⟩ := e
  have lz : min ((sgnL (cs.map fun xs => valL xs t b)).map V.bl).length (((sgnL (cs.map fun xs => valL xs t b)).drop 1).map V.bl).length = ((sgnL (cs.map fun xs => valL xs t b)).zip ((sgnL (cs.map fun xs => valL xs t b)).drop 1)).length := by
    rw [List.length_map, List.length_map, List.length_zip]
  rw [lz, List.take_length] at e4
  refine ⟨M, _, rfl, .inl (SqL.of e4), k _ _ s4 ?_⟩
  rw [List.length_map]
  rfl
end
end Xq
/-! Polynomials of any degree: reach, roots_up_to, roots_in_all. -/
namespace Xq
open PySem PySem.Spec PyProof.Rows L2
def absI (x : Int) : Int := if x < 0 then -x else x
def mxL : List Int → Int
  | [] => 0
  | x :: r => if mxL r < x then x else mxL r
theorem mxL_le : ∀ {l : List Int} {x : Int}, x ∈ l → x ≤ mxL l
  | y :: r, x, h => by
    show x ≤ (if mxL r < y then y else mxL r)
    rcases List.mem_cons.mp h with rfl | h
    · split <;> omega
    · have := mxL_le h
      split <;> omega
theorem mxL_mem : ∀ {l : List Int}, l ≠ [] → (∀ x ∈ l, 0 ≤ x) → mxL l ∈ l
  | [], h, _ => absurd rfl h
  | [y], _, p => by
    have := p y (List.mem_singleton.mpr rfl)
    show (if (0 : Int) < y then y else 0) ∈ [y]
    split
    · exact List.mem_singleton.mpr rfl
    · exact List.mem_singleton.mpr (by omega)
  | y :: z :: r, _, p => by
    have ih := mxL_mem (l := z :: r) (by simp) fun x hx => p x (List.mem_cons_of_mem _ hx)
    show (if mxL (z :: r) < y then y else mxL (z :: r)) ∈ y :: z :: r
    split
    · exact List.mem_cons_self ..
    · exact List.mem_cons_of_mem _ ih
/-- what reach tells -/
def reachL (xs : List Int) : Int := 1 + mxL (xs.map absI)
/-- what roots_up_to, roots_in_all tell -/
def upL (cs : List (List Int)) (t b : Int) : Int := chgL cs (-(reachL (cs.headD []))) 1 - chgL cs t b
def allL (cs : List (List Int)) : Int := upL cs (reachL (cs.headD [])) 1
theorem Chn.head {H : Hp} {c : Addr} {cs : List (List Int)} (h : Chn H c cs) (n : cs ≠ []) : ∃ p ps, H c = some (.lst (V.ref p :: ps)) ∧ TI H p (cs.headD []) := by
  obtain ⟨ps, e, r⟩ := h
  cases r with
  | nil => exact absurd rfl n
  | @cons p ps xs cs t r => exact ⟨p, ps.map V.ref, e, t⟩
section
variable {P : Program} {w : World} {K : PySem.W.Frag} {mg : Str → Option Value} {base : Heap}
theorem g42 : FnScope ["terms", "term"] ["terms"] (defScope (top 34)) := (⟨rfl, rfl, rfl, by decide +kernel, rfl, by decide +kernel, by decide +kernel⟩)
abbrev spReachG : Sp := Prm (α := Addr × List Int) (fun a => [.ref a.1]) (fun a H => TI H a.1 a.2 ∧ 1 ≤ a.2.length ∧ a.2.length ≤ 1000) (fun a H v H' => v = .int (reachL a.2))
theorem c_reachG (D : Df K mg "reach" (top 34)) (B : Bl mg) : Cal P w K mg base 1 "reach" ["terms"] spReachG := by
  refine mkC D g42 (fun _ _ _ _ _ _ us hl => match us, hl with | [_], _ => rfl) (fun _ => rfl) (fun f cdv A outer s H a Q E hr h k => ?_)
  obtain ⟨p, xs⟩ := a
  obtain ⟨h1, l1, l2⟩ := h
  have l1 : 1 ≤ xs.length := l1
  have l2 : xs.length ≤ 1000 := l2
  have k : ∀ v H', Same H H' → v = .int (reachL xs) → Q v H' := k
  have h10 : H p = some (.tup (xs.map V.int)) := h1
  refine ⟨_, pss_one (ps_ret (pe_op op_add pe_int (pe_callB (cr_max rfl) (by rfl) B.max_ PyProof.Rows.boot_max (pa_cons
    (pe_lc (own := [("term", 1)]) (g := gName 1) (tt := tYes) (te := tCB (fun xs H Q => ∃ i, xs = [.int i] ∧ Q (.int (if i < 0 then -i else i)) H) (tCons (tVar 1) tNil)) rfl g42.nd (pi_tup (pv 0))
      (blkOk_by (N := ["terms", "term"]) (sc := defScope (top 34)) (by decide +kernel)) (fun _ _ _ _ _ => (pg_name (i := 1) (FnScope.nd g42) rfl (Or.inl rfl))) (fun _ _ _ _ _ => pts_nil)
      (fun _ _ _ _ _ => pe_callB call_abs (by rfl) B.abs_ PyProof.Rows.boot_abs (pa_cons (pv 1) pa_nil))) pa_nil)))), ?_⟩
  refine ⟨_, rfl, p, rfl, ⟨_, SqT.of h10⟩, fun D hD => lc_tup (xs := xs.map V.int) (fun i H' => H' = upd H D (.lst (((xs.take i).map absI).map V.int))) rfl (fun i H' _ e => by rw [e]; exact SqT.of ((same_new hD) _ _ h10)) (fun i x H' hx e => ?_) (fun H' e => ?_)⟩
  · subst e
    obtain ⟨z, hz, rfl⟩ := at_map hx
    refine ⟨rfl, ?_⟩
    simp only [tYes, if_true]
    refine ⟨_, rfl, z, rfl, _, upd_same, ?_, ?_⟩
    · rw [List.length_map, List.length_map, List.length_take]
      exact sz_lt (by omega)
    · rw [upd_upd, take_map hz]
      rfl
  · subst e
    rw [List.length_map, List.take_length]
    refine ⟨D, xs.map absI, rfl, SqL.of upd_same, (by rw [List.length_map]; omega), fun m hm hle => ?_⟩
    refine ⟨_, _, rfl, rfl, k _ _ (same_new hD) ?_⟩
    have nn : ∀ x ∈ xs.map absI, 0 ≤ x := by
      intro x hx
      obtain ⟨y, _, rfl⟩ := List.mem_map.mp hx
      unfold absI
      split <;> omega
    have ne : xs.map absI ≠ [] := by
      intro z
      rw [List.map_eq_nil_iff.mp z] at l1
      exact absurd l1 (by decide)
    have e1 := hle _ (mxL_mem ne nn)
    have e2 := mxL_le hm
    show V.int (1 + m) = V.int (1 + mxL (xs.map absI))
    rw [show m = mxL (xs.map absI) by omega]
theorem g43 : FnScope ["chain", "top", "bottom"] ["chain", "top", "bottom"] (defScope (top 35)) := (⟨rfl, rfl, rfl, by decide +kernel, rfl, by decide +kernel, by decide +kernel⟩)
/-- what is asked of a chain ahead of its roots -/
def okU (cs : List (List Int)) : Prop := cs ≠ [] ∧ 1 ≤ (cs.headD []).length ∧ (cs.headD []).length ≤ 1000 ∧ okCh cs (-(reachL (cs.headD []))) 1
abbrev spUpG : Sp := Prm (α := Addr × List (List Int) × Int × Int) (fun a => [.ref a.1, .int a.2.2.1, .int a.2.2.2]) (fun a H => Chn H a.1 a.2.1 ∧ okU a.2.1 ∧ okCh a.2.1 a.2.2.1 a.2.2.2) (fun a H v H' => v = .int (upL a.2.1 a.2.2.1 a.2.2.2))
theorem c_upG (D : Df K mg "roots_up_to" (top 35)) (C : Cal P w K mg base 2 "changes" ["chain", "top", "bottom"] spChgG) (CR : Cal P w K mg base 1 "reach" ["terms"] spReachG) : Cal P w K mg base 3 "roots_up_to" ["chain", "top", "bottom"] spUpG := by
  refine mkC D g43 (fun _ _ _ _ _ _ us hl => match us, hl with | [_, _, _], _ => rfl) (fun _ => rfl) (fun f cdv A outer s H a Q E hr h k => ?_)
  obtain ⟨c, cs, t, b⟩ := a
  obtain ⟨hc, ⟨n, l1, l2, o1⟩, o2⟩ := h
  have hc : Chn H c cs := hc
  obtain ⟨p, ps, e, t0⟩ := hc.head n
  refine ⟨_, pss_one (ps_ret (pe_op op_sub (pe_cl C hr (pa_cons (pv 0) (pa_cons (pe_un un_neg (pe_cl CR hr (pa_cons ((pe_ix ix_list (pv 0) pe_int (fun _ _ => rfl))) pa_nil))) (pa_cons pe_int pa_nil)))) (pe_cl C hr (pa_cons (pv 0) (pa_cons (pv 1) (pa_cons (pv 2) pa_nil)))))), ?_⟩
  refine ⟨_, rfl, _, rfl, c, _, _, .ref p, rfl, rfl, SqL.of e, atI_nat (j := 0) rfl, ?_⟩
  refine ⟨(p, cs.headD []), rfl, ⟨t0, l1, l2⟩, ?_⟩
  rintro _ H1 s1 rfl
  refine ⟨_, rfl, (c, cs, -(reachL (cs.headD [])), 1), rfl, ⟨hc.same s1, o1⟩, ?_⟩
  rintro _ H2 s2 rfl
  refine ⟨_, rfl, _, rfl, _, rfl, (c, cs, t, b), rfl, ⟨hc.same (s1.trans s2), o2⟩, ?_⟩
  rintro _ H3 s3 rfl
  exact ⟨_, _, rfl, rfl, k _ _ (s1.trans (s2.trans s3)) rfl⟩
theorem g44 : FnScope ["chain"] ["chain"] (defScope (top 36)) := (⟨rfl, rfl, rfl, by decide +kernel, rfl, by decide +kernel, by decide +kernel⟩)
abbrev spAllG : Sp := Prm (α := Addr × List (List Int)) (fun a => [.ref a.1]) (fun a H => Chn H a.1 a.2 ∧ okU a.2 ∧ okCh a.2 (reachL (a.2.headD [])) 1) (fun a H v H' => v = .int (allL a.2))
theorem c_allG (D : Df K mg "roots_in_all" (top 36)) (C : Cal P w K mg base 3 "roots_up_to" ["chain", "top", "bottom"] spUpG) (CR : Cal P w K mg base 1 "reach" ["terms"] spReachG) : Cal P w K mg base 4 "roots_in_all" ["chain"] spAllG := by
  refine mkC D g44 (fun _ _ _ _ _ _ us hl => match us, hl with | [_], _ => rfl) (fun _ => rfl) (fun f cdv A outer s H a Q E hr h k => ?_)
  obtain ⟨c, cs⟩ := a
  obtain ⟨hc, o, o2⟩ := h
  have hc : Chn H c cs := hc
  have o : okU cs := o
  obtain ⟨p, ps, e, t0⟩ := hc.head o.1
  refine ⟨_, pss_one (ps_ret (pe_cl C hr (pa_cons (pv 0) (pa_cons (pe_cl CR hr (pa_cons ((pe_ix ix_list (pv 0) pe_int (fun _ _ => rfl))) pa_nil)) (pa_cons pe_int pa_nil))))), ?_⟩
  refine ⟨_, rfl, _, rfl, c, _, _, .ref p, rfl, rfl, SqL.of e, atI_nat (j := 0) rfl, ?_⟩
  refine ⟨(p, cs.headD []), rfl, ⟨t0, o.2.1, o.2.2.1⟩, ?_⟩
  rintro _ H1 s1 rfl
  refine ⟨(c, cs, reachL (cs.headD []), 1), rfl, ⟨hc.same s1, o, o2⟩, ?_⟩
  rintro _ H2 s2 rfl
  exact k _ _ (s1.trans s2) rfl
end
end Xq
/-! Polynomials of any degree: guessed, refined. -/
namespace Xq
open PySem PySem.Spec PyProof.Rows L2
theorem sm_neg {i : Int} {a : Nat} (ha : Sm a i) : Sm a (-i) := by
  unfold Sm
  rw [Int.natAbs_neg]
  exact ha
theorem sm_add {i j : Int} {a : Nat} (ha : Sm a i) (hb : Sm a j) : Sm (a + 1) (i + j) := by
  have h := Int.natAbs_add_le i j
  have e : 2 ^ (a + 1) = 2 ^ a + 2 ^ a := by rw [Nat.pow_succ]; omega
  unfold Sm at *
  omega
theorem sm_sub {i j : Int} {a : Nat} (ha : Sm a i) (hb : Sm a j) : Sm (a + 1) (i - j) := by
  rw [Int.sub_eq_add_neg]
  exact sm_add ha (sm_neg hb)
def smI (n : Nat) (x : Int) : Bool := decide (x.natAbs < 2 ^ n)
theorem smI_ok {n : Nat} {x : Int} (h : smI n x = true) {a : Nat} (ha : n ≤ a) : Sm a x := sm_le (of_decide_eq_true h) ha
theorem foV_sm {t b : Int} (ht : Sm 4000 t) (hb : Sm 4000 b) : ∀ (l : List Int), (∀ x ∈ l, Sm 4000 x) → ∀ (k : Nat) (a : Int × Int), Sm k a.1 → Sm k a.2 → Sm (k + 4001 * l.length) (l.foldl (stV t b) a).1 ∧ Sm (k + 4001 * l.length) (l.foldl (stV t b) a).2
  | [], _, k, a, h1, h2 => ⟨h1, h2⟩
  | x :: l, hx, k, a, h1, h2 => by
    have hx0 := hx x List.mem_cons_self
    have q := foV_sm ht hb l (fun y hy => hx y (List.mem_cons_of_mem _ hy)) (k + 4001) (stV t b a x) (sm_add (sm_mul h1 ht) (sm_le (sm_mul hx0 h2) (by omega))) (sm_le (sm_mul h2 hb) (by omega))
    have e : k + 4001 + 4001 * l.length = k + 4001 * (x :: l).length := by
      rw [List.length_cons]
      omega
    rw [e] at q
    exact q
/-- eight terms at most, and none of 4,000 bits: then nothing on the way is too great -/
def okVB (xs : List Int) (t b : Int) : Bool := decide (1 ≤ xs.length) && decide (xs.length ≤ 8) && smI 4000 t && smI 4000 b && smB 4000 xs
theorem okVB_ok {xs : List Int} {t b : Int} (h : okVB xs t b = true) : 1 ≤ xs.length ∧ xs.length ≤ 1000 ∧ okV 400000 xs t b := by
  unfold okVB at h
  simp only [Bool.and_eq_true] at h
  obtain ⟨⟨⟨⟨h1, h2⟩, h3⟩, h4⟩, h5⟩ := h
  have h2 : xs.length ≤ 8 := of_decide_eq_true h2
  refine ⟨of_decide_eq_true h1, by omega, smI_ok h3 (by decide), smI_ok h4 (by decide), smB_ok h5 (by decide), fun i hi => ?_⟩
  have q := foV_sm (smI_ok h3 (Nat.le_refl _)) (smI_ok h4 (Nat.le_refl _)) (xs.reverse.take i) (fun x hx => smB_ok h5 (Nat.le_refl _) x (List.mem_reverse.mp (List.mem_of_mem_take hx))) 1 (0, 1) (by decide) (by decide)
  have l8 : (xs.reverse.take i).length ≤ 8 := by
    rw [List.length_take, List.length_reverse]
    omega
  exact ⟨sm_le q.1 (by omega), sm_le q.2 (by omega)⟩
def pw (b : Nat) : Int := 1 * 2 ^ b
def ng (xs : List Int) (t b : Int) : Bool := decide (valL xs t b < 0)
/-- where it is looked for first -/
def plc (xs : List Int) (near : Int) (b s : Nat) : Int := near * 2 ^ s + (valL xs near (pw b) * 2 ^ s).fdiv (valL xs near (pw b) - valL xs (near + 1) (pw b))
def adj (xs : List Int) (near : Int) (b s : Nat) : Int :=
  if ng xs (plc xs near b s) (pw (b + s)) = ng xs near (pw b) then (if ng xs (plc xs near b s + 1) (pw (b + s)) = ng xs near (pw b) then plc xs near b s + 1 else plc xs near b s) else plc xs near b s - 1
/-- what guessed tells -/
def gueL (xs : List Int) (near : Int) (b s : Nat) : Option Int :=
  if ng xs (adj xs near b s) (pw (b + s)) = ng xs near (pw b) then (if ng xs (adj xs near b s + 1) (pw (b + s)) = ng xs near (pw b) then none else some (adj xs near b s)) else none
def okG (xs : List Int) (near : Int) (b s : Nat) : Bool :=
  smI 4000 near && decide (b + s < 4000) && okVB xs near (pw b) && okVB xs (near + 1) (pw b) && !decide (valL xs near (pw b) - valL xs (near + 1) (pw b) = 0) && smI 8000 (valL xs near (pw b)) && smI 8000 (valL xs near (pw b) - valL xs (near + 1) (pw b)) &&
    okVB xs (plc xs near b s) (pw (b + s)) && okVB xs (plc xs near b s + 1) (pw (b + s)) && okVB xs (adj xs near b s) (pw (b + s)) && okVB xs (adj xs near b s + 1) (pw (b + s))
section
variable {P : Program} {w : World} {K : PySem.W.Frag} {mg : Str → Option Value} {base : Heap}
abbrev nG : List Str := ["equation", "near", "bits", "step", "low", "high", "bottom", "place", "starts", "ends"]
theorem g50 : FnScope nG ["equation", "near", "bits", "step"] (defScope (top 42)) := (⟨rfl, rfl, rfl, by decide +kernel, rfl, by decide +kernel, by decide +kernel⟩)
def oV : Option Int → V
  | some z => .int z
  | none => .non
abbrev spGueG : Sp := Prm (α := Addr × List Int × Int × Nat × Nat) (fun ⟨p, xs, near, b, s⟩ => [.ref p, .int near, .int (b : Int), .int (s : Int)]) (fun ⟨p, xs, near, b, s⟩ H => TI H p xs ∧ okG xs near b s = true) (fun ⟨p, xs, near, b, s⟩ H v H' => v = oV (gueL xs near b s))
theorem c_gueG (D : Df K mg "guessed" (top 42)) (C : Cal P w K mg base 1 "value_at" ["terms", "top", "bottom"] spValG) : Cal P w K mg base 2 "guessed" ["equation", "near", "bits", "step"] spGueG := by
  refine mkC D g50 (fun _ _ _ _ _ _ us hl => match us, hl with | [_, _, _, _], _ => rfl) (fun _ => rfl) (fun f cdv A outer s H a Q E hr h k => ?_)
  obtain ⟨p, xs, near, b, st⟩ := a
  obtain ⟨h, hg⟩ := h
  have h : TI H p xs := h
  have k : ∀ v H', Same H H' → v = oV (gueL xs near b st) → Q v H' := k
  have hg : okG xs near b st = true := hg
  unfold okG at hg
  simp only [Bool.and_eq_true, decide_eq_true_eq, Bool.not_eq_true', decide_eq_false_iff_not] at hg
  obtain ⟨⟨⟨⟨⟨⟨⟨⟨⟨⟨g1, g2⟩, g3⟩, g4⟩, g5⟩, g6⟩, g7⟩, g8⟩, g9⟩, g10⟩, g11⟩ := hg
  -- a call
  have call : ∀ {H1 : Hp} {t bb : Int} {Qv : VK}, Same H H1 → okVB xs t bb = true → (∀ H2, Same H H2 → Qv (.int (valL xs t bb)) H2) → spValG [.ref p, .int t, .int bb] H1 Qv E0 := fun {H1 t bb Qv} s1 o kk => by
    refine ⟨(p, xs, t, bb), rfl, ⟨TI.same s1 h, okVB_ok o⟩, ?_⟩
    rintro _ H2 s2 rfl
    exact kk _ (s1.trans s2)
  refine ⟨_, pss_cons ((ps_set (i := 4) (FnScope.nd g50) rfl (Or.inl rfl) (pe_cl C hr (pa_cons (pv 0) (pa_cons (pv 1) (pa_cons (pe_op op_shlN pe_int (pv 2)) pa_nil))))))
    (pss_cons ((ps_set (i := 5) (FnScope.nd g50) rfl (Or.inl rfl) (pe_cl C hr (pa_cons (pv 0) (pa_cons (pe_op op_add (pv 1) pe_int) (pa_cons (pe_op op_shlN pe_int (pv 2)) pa_nil))))))
    (pss_cons ((ps_set (i := 6) (FnScope.nd g50) rfl (Or.inl rfl) (pe_op op_shlN pe_int (pe_op op_add (pv 2) (pv 3)))))
    (pss_cons ((ps_set (i := 7) (FnScope.nd g50) rfl (Or.inl rfl) (pe_op op_add (pe_op op_shlN (pv 1) (pv 3)) (pe_op op_fdivX (pe_op op_shlN (pv 4) (pv 3)) (pe_op op_sub (pv 4) (pv 5))))))
    (C8.pss_cut (ps_if ((pt_cmpR op_ne (pe_cmpR op_lt (pe_cl C hr (pa_cons (pv 0) (pa_cons (pv 7) (pa_cons (pv 6) pa_nil)))) pe_int (nomark _)) (pe_cmpR op_lt (pv 4) pe_int (nomark _)) (nomark _)))
        (pss_one (ps_aug (i := 7) g50.nd rfl (Or.inl rfl) pe_int ip_sub))
        (pss_one (ps_if ((pt_cmpR op_eq (pe_cmpR op_lt (pe_cl C hr (pa_cons (pv 0) (pa_cons (pe_op op_add (pv 7) pe_int) (pa_cons (pv 6) pa_nil)))) pe_int (nomark _)) (pe_cmpR op_lt (pv 4) pe_int (nomark _)) (nomark _)))
          (pss_one (ps_aug (i := 7) g50.nd rfl (Or.inl rfl) pe_int ip_add)) pss_nil)))
    (pss_cons ((ps_set (i := 8) (FnScope.nd g50) rfl (Or.inl rfl) (pe_cmpR op_eq (pe_cmpR op_lt (pe_cl C hr (pa_cons (pv 0) (pa_cons (pv 7) (pa_cons (pv 6) pa_nil)))) pe_int (nomark _)) (pe_cmpR op_lt (pv 4) pe_int (nomark _)) (nomark _))))
    (pss_cons ((ps_set (i := 9) (FnScope.nd g50) rfl (Or.inl rfl) (pe_cmpR op_ne (pe_cmpR op_lt (pe_cl C hr (pa_cons (pv 0) (pa_cons (pe_op op_add (pv 7) pe_int) (pa_cons (pv 6) pa_nil)))) pe_int (nomark _)) (pe_cmpR op_lt (pv 4) pe_int (nomark _)) (nomark _))))
    (pss_one (ps_ret (pe_ifExp (PW.pt (pw_and (pt_val (pv 8)) (pw_and1 (pt_val (pv 9))))) (pv 7) pe_non))))))))), ?_⟩
  have cs1 : CShl 1 (b : Int) := shl_ok (n := 2) (by decide) (by omega)
  refine ⟨_, rfl, _, rfl, _, rfl, 1, b, rfl, rfl, cs1, call (Same.refl _) g3 fun H1 s1 => ?_⟩
  refine ⟨_, rfl, _, rfl, _, _, rfl, rfl, _, rfl, 1, b, rfl, rfl, cs1, call s1 g4 fun H2 s2 => ?_⟩
  have cs2 : CShl 1 ((b + st : Nat) : Int) := shl_ok (n := 2) (by decide) (by omega)
  refine ⟨_, rfl, _, rfl, _, _, rfl, rfl, 1, b + st, rfl, rfl, cs2, ?_⟩
  have cs3 : CShl near (st : Int) := shl_ok (n := 4000) (of_decide_eq_true g1) (by omega)
  have cs4 : CShl (valL xs near (pw b)) (st : Int) := shl_ok (n := 8000) (of_decide_eq_true g6) (by omega)
  have dv : CDivX (valL xs near (pw b) * 2 ^ st) (valL xs near (pw b) - valL xs (near + 1) (pw b)) :=
    ⟨g5, Nat.lt_of_lt_of_le (log_lt (of_decide_eq_true g7) (by decide)) (by decide)⟩
  refine ⟨_, rfl, _, rfl, near, st, rfl, rfl, cs3, _, rfl, _, rfl, _, st, rfl, rfl, cs4, _, rfl, _, rfl, _, _, rfl, rfl, _, _, rfl, rfl, dv, _, _, rfl, rfl, ?_⟩
  have dT : ∀ x y : Bool, x = y → decide (V.bl x = V.bl y) = true := fun x y e => by rw [e]; exact decide_eq_true rfl
  have dF : ∀ x y : Bool, ¬ x = y → decide (V.bl x = V.bl y) = false := fun x y e => decide_eq_false fun q => e (V.bl.inj q)
  refine ⟨fun σ' H' => σ' = [some (.ref p), some (.int near), some (.int (b : Int)), some (.int (st : Int)), some (.int (valL xs near (pw b))), some (.int (valL xs (near + 1) (pw b))), some (.int (pw (b + st))), some (.int (adj xs near b st)), none, none] ∧ Same H H', ?_, ?_⟩
  · refine ⟨_, rfl, _, rfl, _, rfl, call s2 g8 fun H3 s3 => ⟨_, _, rfl, rfl, _, rfl, _, _, rfl, rfl, rfl, _, rfl, ?_⟩⟩
    show (if (!decide (V.bl (ng xs (plc xs near b st) (pw (b + st))) = V.bl (ng xs near (pw b)))) = true then _ else _)
    by_cases e : ng xs (plc xs near b st) (pw (b + st)) = ng xs near (pw b)
    · rw [dT _ _ e]
      refine iteF ⟨_, rfl, _, rfl, _, _, rfl, rfl, _, rfl, call s3 g9 fun H4 s4 => ⟨_, _, rfl, rfl, _, rfl, _, _, rfl, rfl, rfl, _, rfl, ?_⟩⟩
      show (if decide (V.bl (ng xs (plc xs near b st + 1) (pw (b + st))) = V.bl (ng xs near (pw b))) = true then _ else _)
      by_cases e2 : ng xs (plc xs near b st + 1) (pw (b + st)) = ng xs near (pw b)
      · rw [dT _ _ e2]
        have ez : plc xs near b st + 1 = adj xs near b st := by rw [adj, if_pos e, if_pos e2]
        refine iteT ⟨_, rfl, _, _, rfl, rfl, ?_, s4⟩
        rw [← ez]
        rfl
      · rw [dF _ _ e2]
        have ez : plc xs near b st = adj xs near b st := by rw [adj, if_pos e, if_neg e2]
        refine iteF ⟨?_, s4⟩
        rw [← ez]
        rfl
    · rw [dF _ _ e]
      have ez : plc xs near b st - 1 = adj xs near b st := by rw [adj, if_neg e]
      refine iteT ⟨_, rfl, _, _, rfl, rfl, ?_, s3⟩
      rw [← ez]
      rfl
  · rintro σ' H5 ⟨rfl, s5⟩
    refine ⟨_, rfl, _, rfl, _, rfl, call s5 g10 fun H6 s6 => ⟨_, _, rfl, rfl, _, rfl, _, _, rfl, rfl, rfl, ?_⟩⟩
    refine ⟨_, rfl, _, rfl, _, _, rfl, rfl, _, rfl, call s6 g11 fun H7 s7 => ⟨_, _, rfl, rfl, _, rfl, _, _, rfl, rfl, rfl, ?_⟩⟩
    refine ⟨_, rfl, _, rfl, ?_⟩
    show (if decide (V.bl (ng xs (adj xs near b st) (pw (b + st))) = V.bl (ng xs near (pw b))) = true then _ else _)
    by_cases e : ng xs (adj xs near b st) (pw (b + st)) = ng xs near (pw b)
    · rw [dT _ _ e]
      refine iteT ⟨_, rfl, _, rfl, ?_⟩
      show (if (!decide (V.bl (ng xs (adj xs near b st + 1) (pw (b + st))) = V.bl (ng xs near (pw b)))) = true then _ else _)
      by_cases e2 : ng xs (adj xs near b st + 1) (pw (b + st)) = ng xs near (pw b)
      · rw [dT _ _ e2]
        refine iteF (k _ _ s7 ?_)
        rw [gueL, if_pos e, if_pos e2]
        rfl
      · rw [dF _ _ e2]
        refine iteT ⟨_, rfl, k _ _ s7 ?_⟩
        rw [gueL, if_pos e, if_neg e2]
        rfl
    · rw [dF _ _ e]
      refine iteF (k _ _ s7 ?_)
      rw [gueL, if_neg e]
      rfl
/-- the state of refined after so many turns: near, bits, step -/
def refS (xs : List Int) (wd : Nat) : Nat → Int → Nat → Nat → Int × Nat
  | 0, near, b, _ => (near, b)
  | n + 1, near, b, st => if wd ≤ b then (near, b) else match gueL xs near b (min st (wd - b)) with
    | some z => refS xs wd n z (b + min st (wd - b)) (2 * min st (wd - b))
    | none => refS xs wd n near b (min st (wd - b) / 2)
def okF (xs : List Int) (wd : Nat) : Nat → Int → Nat → Nat → Bool
  | 0, _, b, _ => decide (wd ≤ b)
  | n + 1, near, b, st => decide (wd ≤ b) || (okG xs near b (min st (wd - b)) && match gueL xs near b (min st (wd - b)) with
    | some z => okF xs wd n z (b + min st (wd - b)) (2 * min st (wd - b))
    | none => okF xs wd n near b (min st (wd - b) / 2))
/-- what refined tells -/
def refL (xs : List Int) (near : Int) (b wd : Nat) : Int := if xs.length = 2 then (-(xs.getD 0 0) * 2 ^ wd).fdiv (xs.getD 1 0) else (refS xs wd 20000 near b 1).1 / 2 ^ ((refS xs wd 20000 near b 1).2 - wd)
def okRf (xs : List Int) (near : Int) (b wd : Nat) : Bool := decide (xs.length ≤ 1000) && decide (wd ≤ 4000) && if xs.length = 2 then smI 4000 (xs.getD 0 0) && smI 4000 (xs.getD 1 0) && !decide (xs.getD 1 0 = 0) else okF xs wd 20000 near b 1
abbrev nR : List Str := ["equation", "near", "bits", "wanted", "step", "closer"]
theorem g49 : FnScope nR ["equation", "near", "bits", "wanted"] (defScope (top 41)) := (⟨rfl, rfl, rfl, by decide +kernel, rfl, by decide +kernel, by decide +kernel⟩)
abbrev spRefG : Sp := Prm (α := Addr × List Int × Int × Nat × Nat) (fun ⟨p, xs, near, b, wd⟩ => [.ref p, .int near, .int (b : Int), .int (wd : Int)]) (fun ⟨p, xs, near, b, wd⟩ H => TI H p xs ∧ okRf xs near b wd = true) (fun ⟨p, xs, near, b, wd⟩ H v H' => v = .int (refL xs near b wd))
theorem c_refG (D : Df K mg "refined" (top 41)) (B : Bl mg) (C : Cal P w K mg base 2 "guessed" ["equation", "near", "bits", "step"] spGueG) : Cal P w K mg base 3 "refined" ["equation", "near", "bits", "wanted"] spRefG := by
  refine mkC D g49 (fun _ _ _ _ _ _ us hl => match us, hl with | [_, _, _, _], _ => rfl) (fun _ => rfl) (fun f cdv A outer s H a Q E hr h k => ?_)
  obtain ⟨p, xs, near, b, wd⟩ := a
  obtain ⟨h, ok⟩ := h
  have h : TI H p xs := h
  have h0 : H p = some (.tup (xs.map V.int)) := h
  have k : ∀ v H', Same H H' → v = .int (refL xs near b wd) → Q v H' := k
  have ok : okRf xs near b wd = true := ok
  obtain ⟨ok0, ok2⟩ := Bool.and_eq_true_iff.mp ok
  obtain ⟨lx, lw⟩ := Bool.and_eq_true_iff.mp ok0
  have lw : wd ≤ 4000 := of_decide_eq_true lw
  have hL : (xs.map V.int).length = xs.length := List.length_map ..
  refine ⟨_, pss_cons (ps_if ((pt_cmpR op_eq ((pe_callB call_len_seq (by rfl) (Bl.len_ B) PySem.boot_len (pa_cons (pv 0) pa_nil))) pe_int (nomark _))) (pss_one (ps_ret (pe_op op_fdivX (pe_op op_shlN (pe_un un_neg ((pe_ix ix_tup (pv 0) pe_int (fun _ _ => rfl)))) (pv 3)) ((pe_ix ix_tup (pv 0) pe_int (fun _ _ => rfl)))))) pss_nil)
    (pss_cons ((ps_set (i := 4) (FnScope.nd g49) rfl (Or.inl rfl) pe_int))
    (pss_cons (ps_whI PassesOwn.never ((pt_cmpR op_lt (pv 2) (pv 3) (nomark _)))
      (pss_cons ((ps_set (i := 4) (FnScope.nd g49) rfl (Or.inl rfl) (pe_callB (call_min2 rfl) (by rfl) B.min_ PyProof.Rows.boot_min (pa_cons (pv 4) (pa_cons (pe_op op_sub (pv 3) (pv 2)) pa_nil)))))
      (pss_cons ((ps_set (i := 5) (FnScope.nd g49) rfl (Or.inl rfl) (pe_cl C hr (pa_cons (pv 0) (pa_cons (pv 1) (pa_cons (pv 2) (pa_cons (pv 4) pa_nil)))))))
      (pss_one (ps_if (pt_cmpR op_isN (pv 5) pe_non (nomark _)) (pss_one (ps_aug (i := 4) g49.nd rfl (Or.inl rfl) pe_int iop_fdiv))
        (pss_one (ps_par3 (i := 1) (j := 2) (l := 4) rfl g49.nd rfl rfl rfl (by decide) (by decide) (by decide) rfl rfl rfl (pa_cons (pv 5) (pa_cons (pe_op op_add (pv 2) (pv 4)) (pa_cons (pe_op op_mul pe_int (pv 4)) pa_nil))) rfl)))))))
    (pss_one (ps_ret (pe_op op_shrN (pv 1) (pe_op op_sub (pv 2) (pv 3))))))), ?_⟩
  refine ⟨_, rfl, p, _, rfl, .inr (SqT.of h0), rfl, _, rfl, ?_⟩
  by_cases e2 : xs.length = 2
  · rw [if_pos e2] at ok2
    simp only [Bool.and_eq_true, Bool.not_eq_true', decide_eq_false_iff_not] at ok2
    obtain ⟨⟨o1, o2⟩, o3⟩ := ok2
    rw [decide_eq_true (show V.int (((xs.map V.int).length : Nat) : Int) = V.int 2 by rw [hL, e2]; rfl)]
    refine iteT ⟨_, rfl, p, _, _, _, rfl, rfl, SqT.of h0, atI_nat (j := 0) (getD_map (by omega)), _, rfl, _, rfl, _, wd, rfl, rfl, shl_ok (n := 4000) (of_decide_eq_true (by unfold smI at o1; rw [Int.natAbs_neg]; exact o1)) (by omega), ?_⟩
    refine ⟨_, rfl, p, _, _, _, rfl, rfl, SqT.of h0, atI_nat (j := 1) (getD_map (by omega)), _, _, rfl, rfl, ⟨o3, Nat.lt_of_lt_of_le (log_lt (of_decide_eq_true o2) (by decide)) (by decide)⟩, k _ _ (Same.refl _) ?_⟩
    rw [refL, if_pos e2]
  · rw [if_neg e2] at ok2
    rw [decide_eq_false (show ¬ V.int (((xs.map V.int).length : Nat) : Int) = V.int 2 from fun z => e2 (by rw [hL] at z; injection z with z; omega))]
    refine iteF ?_
    have hR : refL xs near b wd = (refS xs wd 20000 near b 1).1 / 2 ^ ((refS xs wd 20000 near b 1).2 - wd) := by rw [refL, if_neg e2]
    refine ⟨fun m σ H' => Same H H' ∧ ∃ (nr : Int) (bb st : Nat) (z5 : Option V), σ = [some (.ref p), some (.int nr), some (.int (bb : Int)), some (.int (wd : Int)), some (.int (st : Int)), z5] ∧ okF xs wd m nr bb st = true ∧ refS xs wd m nr bb st = refS xs wd 20000 near b 1,
      ⟨20000, Same.refl _, near, b, 1, none, rfl, ok2, rfl⟩, ?_⟩
    rintro m σ H1 ⟨s1, nr, bb, st, z5, rfl, ok3, er⟩
    refine ⟨_, rfl, _, rfl, _, _, rfl, rfl, _, rfl, ite2 (fun hb => ?_) (fun hb => ?_)⟩
    · have hb2 : bb < wd := by
        have q : (bb : Int) < (wd : Int) := of_decide_eq_true hb
        omega
      cases m with
      | zero => exact absurd (of_decide_eq_true ok3) (by omega)
      | succ m =>
        unfold okF at ok3
        rw [decide_eq_false (show ¬ wd ≤ bb by omega), Bool.false_or] at ok3
        obtain ⟨og, on⟩ := Bool.and_eq_true_iff.mp ok3
        unfold refS at er
        rw [if_neg (show ¬ wd ≤ bb by omega)] at er
        have em : (if (wd : Int) - (bb : Int) < (st : Int) then (wd : Int) - (bb : Int) else (st : Int)) = ((min st (wd - bb) : Nat) : Int) := by
          split <;> omega
        refine ⟨_, rfl, _, rfl, _, rfl, _, _, rfl, rfl, _, _, rfl, ?_⟩
        show tSeq _ _ _ [some (.ref p), some (.int nr), some (.int (bb : Int)), some (.int (wd : Int)), some (.int (if (wd : Int) - (bb : Int) < (st : Int) then (wd : Int) - (bb : Int) else (st : Int))), z5] H1
        rw [em]
        refine ⟨_, rfl, _, rfl, _, rfl, _, rfl, (p, xs, nr, bb, min st (wd - bb)), rfl, ⟨TI.same s1 h, og⟩, ?_⟩
        rintro _ H2 s2 rfl
        have lm : min st (wd - bb) ≤ 4000 := by omega
        cases hg : gueL xs nr bb (min st (wd - bb)) with
        | none =>
          rw [hg] at on er
          refine ⟨_, rfl, rfl, _, rfl, iteT ⟨_, rfl, _, _, rfl, rfl, ⟨by decide, by decide⟩, m, Nat.lt_succ_self m, s1.trans s2, nr, bb, min st (wd - bb) / 2, some (oV none), ?_, on, er⟩⟩
          show [some (V.ref p), some (V.int nr), some (V.int (bb : Int)), some (V.int (wd : Int)), some (V.int (((min st (wd - bb) : Nat) : Int) / 2)), some (oV none)] = _
          rw [show ((min st (wd - bb) : Nat) : Int) / 2 = ((min st (wd - bb) / 2 : Nat) : Int) by omega]
        | some z =>
          rw [hg] at on er
          refine ⟨_, rfl, rfl, _, rfl, iteF ?_⟩
          refine ⟨_, rfl, _, rfl, _, rfl, _, _, rfl, rfl, _, rfl, _, _, rfl, rfl, .inl ⟨by decide, by decide⟩, _, _, _, rfl, ?_⟩
          exact ⟨m, Nat.lt_succ_self m, s1.trans s2, z, bb + min st (wd - bb), 2 * min st (wd - bb), _, rfl, on, er⟩
    · have hb2 : wd ≤ bb := by
        have q : ¬ ((bb : Int) < (wd : Int)) := fun q => hb (decide_eq_true q)
        omega
      have e1 : refS xs wd m nr bb st = (nr, bb) := by
        cases m with
        | zero => rfl
        | succ m =>
          unfold refS
          rw [if_pos hb2]
      rw [e1] at er
      have en : ((bb : Int) - (wd : Int)) = ((bb - wd : Nat) : Int) := by omega
      refine ⟨_, rfl, _, rfl, _, rfl, _, _, rfl, rfl, nr, bb - wd, rfl, congrArg V.int en, k _ _ s1 ?_⟩
      rw [hR, ← er]
end
end Xq
/-! Polynomials of any degree: lonely_stretch, stretch_of. -/
namespace Xq
open PySem PySem.Spec PyProof.Rows L2
def okChB (cs : List (List Int)) (t b : Int) : Bool := decide (cs.length ≤ 100) && cs.all fun xs => okVB xs t b
theorem okChB_ok {cs : List (List Int)} {t b : Int} (h : okChB cs t b = true) : okCh cs t b :=
  ⟨of_decide_eq_true (Bool.and_eq_true_iff.mp h).1, fun xs hx => okVB_ok (List.all_eq_true.mp (Bool.and_eq_true_iff.mp h).2 xs hx)⟩
def okUB (cs : List (List Int)) : Bool := !cs.isEmpty && decide (1 ≤ (cs.headD []).length) && decide ((cs.headD []).length ≤ 1000) && okChB cs (-(reachL (cs.headD []))) 1
theorem okUB_ok {cs : List (List Int)} (h : okUB cs = true) : okU cs := by
  unfold okUB at h
  simp only [Bool.and_eq_true, Bool.not_eq_true', decide_eq_true_eq] at h
  obtain ⟨⟨⟨h1, h2⟩, h3⟩, h4⟩ := h
  refine ⟨fun e => ?_, h2, h3, okChB_ok h4⟩
  rw [e] at h1
  cases h1
/-- one turn of lonely_stretch -/
def lonT (lo hi : Int) (b : Nat) : Int × Int × Nat := if hi - lo = 1 then (2 * lo, 2 * hi, b + 1) else (lo, hi, b)
def lonM (lo hi : Int) (b : Nat) : Int := ((lonT lo hi b).1 + (lonT lo hi b).2.1) / 2
def lonGo (cs : List (List Int)) (lo hi : Int) (b : Nat) : Bool := decide (hi - lo > 1) || decide (chgL cs lo (pw b) - chgL cs hi (pw b) > 1)
def lonS (cs : List (List Int)) (rank : Int) : Nat → Int → Int → Nat → Int × Nat
  | 0, lo, _, b => (lo, b)
  | n + 1, lo, hi, b => if lonGo cs lo hi b then
      (if upL cs (lonM lo hi b) (pw (lonT lo hi b).2.2) > rank then lonS cs rank n (lonT lo hi b).1 (lonM lo hi b) (lonT lo hi b).2.2 else lonS cs rank n (lonM lo hi b) (lonT lo hi b).2.1 (lonT lo hi b).2.2)
    else (lo, b)
def okLo (cs : List (List Int)) (rank : Int) : Nat → Int → Int → Nat → Bool
  | 0, lo, hi, b => decide (b < 2000) && okChB cs lo (pw b) && okChB cs hi (pw b) && !lonGo cs lo hi b
  | n + 1, lo, hi, b => decide (b < 2000) && okChB cs lo (pw b) && okChB cs hi (pw b) && (!lonGo cs lo hi b || (okChB cs (lonM lo hi b) (pw (lonT lo hi b).2.2) &&
      if upL cs (lonM lo hi b) (pw (lonT lo hi b).2.2) > rank then okLo cs rank n (lonT lo hi b).1 (lonM lo hi b) (lonT lo hi b).2.2 else okLo cs rank n (lonM lo hi b) (lonT lo hi b).2.1 (lonT lo hi b).2.2))
/-- what lonely_stretch tells -/
def lonL (xs : List Int) (rank : Int) : Int × Nat := lonS (sturmL xs) rank 60 0 (reachL xs) 0
def okLon (xs : List Int) (rank : Int) : Bool := okS xs && okUB (sturmL xs) && okLo (sturmL xs) rank 60 0 (reachL xs) 0
/-- what stretch_of tells -/
def strL (xs : List Int) (rank : Int) : Int × Nat := (refL xs (lonL xs rank).1 (lonL xs rank).2 (max (lonL xs rank).2 64), max (lonL xs rank).2 64)
def okStr (xs : List Int) (rank : Int) : Bool := okLon xs rank && okRf xs (lonL xs rank).1 (lonL xs rank).2 (max (lonL xs rank).2 64)
section
variable {P : Program} {w : World} {K : PySem.W.Frag} {mg : Str → Option Value} {base : Heap}
abbrev nL : List Str := ["equation", "rank", "chain", "low", "high", "bits", "middle"]
theorem g48 : FnScope nL ["equation", "rank"] (defScope (top 40)) := (⟨rfl, rfl, rfl, by decide +kernel, rfl, by decide +kernel, by decide +kernel⟩)
abbrev spLoneG : Sp := Prm (α := Addr × List Int × Int) (fun a => [.ref a.1, .int a.2.2]) (fun a H => TI H a.1 a.2.1 ∧ okLon a.2.1 a.2.2 = true) (fun a H v H' => ∃ r, v = .ref r ∧ TI H' r [(lonL a.2.1 a.2.2).1, ((lonL a.2.1 a.2.2).2 : Int)])
theorem c_loneG (D : Df K mg "lonely_stretch" (top 40)) (CS : Cal P w K mg base 4 "sturm_chain" ["terms"] spSturmG) (CR : Cal P w K mg base 1 "reach" ["terms"] spReachG) (CC : Cal P w K mg base 2 "changes" ["chain", "top", "bottom"] spChgG) (CU : Cal P w K mg base 3 "roots_up_to" ["chain", "top", "bottom"] spUpG) : Cal P w K mg base 5 "lonely_stretch" ["equation", "rank"] spLoneG := by
  refine mkC D g48 (fun _ _ _ _ _ _ us hl => match us, hl with | [_, _], _ => rfl) (fun _ => rfl) (fun f cdv A outer s H a Q E hr h k => ?_)
  obtain ⟨p, xs, rank⟩ := a
  obtain ⟨h, ok⟩ := h
  have h : TI H p xs := h
  have ok : okLon xs rank = true := ok
  have k : ∀ v H', Same H H' → (∃ r, v = .ref r ∧ TI H' r [(lonL xs rank).1, ((lonL xs rank).2 : Int)]) → Q v H' := k
  obtain ⟨ok, oL⟩ := Bool.and_eq_true_iff.mp ok
  obtain ⟨oS, oU⟩ := Bool.and_eq_true_iff.mp ok
  have oU := okUB_ok oU
  have l12 : 1 ≤ xs.length ∧ xs.length ≤ 1000 := by
    obtain ⟨z, _⟩ := Bool.and_eq_true_iff.mp oS
    obtain ⟨z1, z2⟩ := Bool.and_eq_true_iff.mp z
    have z1 := of_decide_eq_true z1
    have z2 := of_decide_eq_true z2
    omega
  refine ⟨_, pss_cons ((ps_set (i := 2) (FnScope.nd g48) rfl (Or.inl rfl) (pe_cl CS hr (pa_cons (pv 0) pa_nil))))
    (pss_cons (ps_par3 (i := 3) (j := 4) (l := 5) rfl g48.nd rfl rfl rfl (by decide) (by decide) (by decide) rfl rfl rfl (pa_cons pe_int (pa_cons (pe_cl CR hr (pa_cons (pv 0) pa_nil)) (pa_cons pe_int pa_nil))) rfl)
    (pss_cons (ps_whI PassesOwn.never (PW.pt (pw_or ((pt_cmpR op_gt (pe_op op_sub (pv 4) (pv 3)) pe_int (nomark _))) (pw_or1 ((pt_cmpR op_gt (pe_op op_sub (pe_cl CC hr (pa_cons (pv 2) (pa_cons (pv 3) (pa_cons (pe_op op_shlN pe_int (pv 5)) pa_nil)))) (pe_cl CC hr (pa_cons (pv 2) (pa_cons (pv 4) (pa_cons (pe_op op_shlN pe_int (pv 5)) pa_nil))))) pe_int (nomark _))))))
      (C8.pss_cut (ps_if ((pt_cmpR op_eq (pe_op op_sub (pv 4) (pv 3)) pe_int (nomark _))) (pss_one (ps_par3 (i := 3) (j := 4) (l := 5) rfl g48.nd rfl rfl rfl (by decide) (by decide) (by decide) rfl rfl rfl (pa_cons (pe_op op_mul pe_int (pv 3)) (pa_cons (pe_op op_mul pe_int (pv 4)) (pa_cons (pe_op op_add (pv 5) pe_int) pa_nil))) rfl)) pss_nil)
      (pss_cons ((ps_set (i := 6) (FnScope.nd g48) rfl (Or.inl rfl) (pe_op op_fdiv (pe_op op_add (pv 3) (pv 4)) pe_int)))
      (pss_one (ps_if ((pt_cmpR op_gt (pe_cl CU hr (pa_cons (pv 2) (pa_cons (pv 6) (pa_cons (pe_op op_shlN pe_int (pv 5)) pa_nil)))) (pv 1) (nomark _))) (pss_one ((ps_set (i := 4) (FnScope.nd g48) rfl (Or.inl rfl) (pv 6)))) (pss_one ((ps_set (i := 3) (FnScope.nd g48) rfl (Or.inl rfl) (pv 6)))))))))
    (pss_one (ps_ret (pe_tup (pa_cons (pv 3) (pa_cons (pv 5) pa_nil))))))), ?_⟩
  refine ⟨_, rfl, (p, xs), rfl, ⟨h, oS⟩, ?_⟩
  rintro _ H1 s1 ⟨c, rfl, hc⟩
  have hc : Chn H1 c (sturmL xs) := hc
  refine ⟨_, rfl, (p, xs), rfl, ⟨TI.same s1 h, l12⟩, ?_⟩
  rintro _ H2 s2 rfl
  refine ⟨_, _, _, rfl, ?_⟩
  have hc2 := hc.same s2
  refine ⟨fun m σ H' => Same H2 H' ∧ ∃ (lo hi : Int) (b : Nat) (z : Option V), σ = [some (.ref p), some (.int rank), some (.ref c), some (.int lo), some (.int hi), some (.int (b : Int)), z] ∧ okLo (sturmL xs) rank m lo hi b = true ∧ lonS (sturmL xs) rank m lo hi b = lonL xs rank,
    ⟨60, Same.refl _, 0, reachL xs, 0, none, rfl, oL, rfl⟩, ?_⟩
  rintro m σ H3 ⟨s3, lo, hi, b, z, rfl, ok3, er⟩
  have oks : b < 2000 ∧ okChB (sturmL xs) lo (pw b) = true ∧ okChB (sturmL xs) hi (pw b) = true := by
    cases m with
    | zero =>
      obtain ⟨x, _⟩ := Bool.and_eq_true_iff.mp ok3
      obtain ⟨x, x3⟩ := Bool.and_eq_true_iff.mp x
      obtain ⟨x1, x2⟩ := Bool.and_eq_true_iff.mp x
      exact ⟨of_decide_eq_true x1, x2, x3⟩
    | succ m =>
      obtain ⟨x, _⟩ := Bool.and_eq_true_iff.mp ok3
      obtain ⟨x, x3⟩ := Bool.and_eq_true_iff.mp x
      obtain ⟨x1, x2⟩ := Bool.and_eq_true_iff.mp x
      exact ⟨of_decide_eq_true x1, x2, x3⟩
  obtain ⟨hb0, ol, oh⟩ := oks
  have hc3 := hc2.same s3
  have cs1 : CShl 1 (b : Int) := shl_ok (n := 2) (by decide) (by omega)
  -- what a turn leaves
  have turn : lonGo (sturmL xs) lo hi b = true → ∃ m', m = m' + 1 ∧ okChB (sturmL xs) (lonM lo hi b) (pw (lonT lo hi b).2.2) = true ∧
      (upL (sturmL xs) (lonM lo hi b) (pw (lonT lo hi b).2.2) > rank → okLo (sturmL xs) rank m' (lonT lo hi b).1 (lonM lo hi b) (lonT lo hi b).2.2 = true ∧ lonS (sturmL xs) rank m' (lonT lo hi b).1 (lonM lo hi b) (lonT lo hi b).2.2 = lonL xs rank) ∧
      (¬ upL (sturmL xs) (lonM lo hi b) (pw (lonT lo hi b).2.2) > rank → okLo (sturmL xs) rank m' (lonM lo hi b) (lonT lo hi b).2.1 (lonT lo hi b).2.2 = true ∧ lonS (sturmL xs) rank m' (lonM lo hi b) (lonT lo hi b).2.1 (lonT lo hi b).2.2 = lonL xs rank) := by
    intro hg
    cases m with
    | zero =>
      have x := (Bool.and_eq_true_iff.mp ok3).2
      rw [hg] at x
      cases x
    | succ m =>
      have x := (Bool.and_eq_true_iff.mp ok3).2
      rw [hg, Bool.not_true, Bool.false_or] at x
      obtain ⟨x1, x2⟩ := Bool.and_eq_true_iff.mp x
      unfold lonS at er
      rw [if_pos hg] at er
      refine ⟨m, rfl, x1, fun q => ?_, fun q => ?_⟩
      · rw [if_pos q] at x2 er
        exact ⟨x2, er⟩
      · rw [if_neg q] at x2 er
        exact ⟨x2, er⟩
  have b1 : (lonT lo hi b).2.2 < 2001 := by
    unfold lonT
    split
    · show b + 1 < 2001
      omega
    · show b < 2001
      omega
  have cs2 : CShl 1 (((lonT lo hi b).2.2 : Nat) : Int) := shl_ok (n := 2) (by decide) (by omega)
  have stop : lonGo (sturmL xs) lo hi b = false → lonL xs rank = (lo, b) := by
    intro hg
    rw [← er]
    cases m with
    | zero => rfl
    | succ m =>
      unfold lonS
      rw [hg]
      rfl
  refine ⟨_, rfl, _, rfl, _, _, rfl, rfl, _, _, rfl, rfl, _, rfl, ?_⟩
  refine ite2 (fun hb => ?_) (fun hb => ?_)
  · have hb2 : hi - lo > 1 := of_decide_eq_true hb
    obtain ⟨m', em, om, t1, t2⟩ := turn (by unfold lonGo; rw [hb]; rfl)
    refine ⟨fun σ' H' => σ' = [some (.ref p), some (.int rank), some (.ref c), some (.int (lonT lo hi b).1), some (.int (lonT lo hi b).2.1), some (.int (((lonT lo hi b).2.2 : Nat) : Int)), z] ∧ H' = H3, ?_, ?_⟩
    · refine ⟨_, rfl, _, rfl, _, _, rfl, rfl, rfl, _, rfl, ?_⟩
      have n1 : ¬ (hi - lo = 1) := by omega
      rw [decide_eq_false (show ¬ V.int (hi - lo) = V.int 1 from fun q => n1 (by injection q))]
      refine iteF ⟨?_, rfl⟩
      rw [lonT, if_neg n1]
    · rintro σ' H4 ⟨rfl, rfl⟩
      refine ⟨_, rfl, _, rfl, _, _, rfl, rfl, _, _, rfl, rfl, ⟨by decide, by decide⟩, ?_⟩
      refine ⟨_, rfl, _, rfl, _, rfl, 1, (lonT lo hi b).2.2, rfl, rfl, cs2, (c, sturmL xs, lonM lo hi b, pw (lonT lo hi b).2.2), rfl, ⟨hc3, oU, okChB_ok om⟩, ?_⟩
      rintro _ H5 s5 rfl
      refine ⟨_, rfl, _, _, rfl, rfl, _, rfl, ?_⟩
      refine ite2 (fun hd => ?_) (fun hd => ?_)
      · obtain ⟨t1, t3⟩ := t1 (of_decide_eq_true hd)
        exact ⟨_, rfl, m', by omega, s3.trans s5, (lonT lo hi b).1, lonM lo hi b, (lonT lo hi b).2.2, _, rfl, t1, t3⟩
      · obtain ⟨t2, t3⟩ := t2 (fun q => hd (decide_eq_true q))
        exact ⟨_, rfl, m', by omega, s3.trans s5, lonM lo hi b, (lonT lo hi b).2.1, (lonT lo hi b).2.2, _, rfl, t2, t3⟩
  · have hb2 : ¬ hi - lo > 1 := fun q => hb (decide_eq_true q)
    have gb : lonGo (sturmL xs) lo hi b = decide (chgL (sturmL xs) lo (pw b) - chgL (sturmL xs) hi (pw b) > 1) := by
      unfold lonGo
      rw [decide_eq_false hb2]
      rfl
    refine ⟨_, rfl, _, rfl, _, rfl, 1, b, rfl, rfl, cs1, (c, sturmL xs, lo, pw b), rfl, ⟨hc3, okChB_ok ol⟩, ?_⟩
    rintro _ H4 s4 rfl
    refine ⟨_, rfl, _, rfl, _, rfl, 1, b, rfl, rfl, cs1, (c, sturmL xs, hi, pw b), rfl, ⟨hc3.same s4, okChB_ok oh⟩, ?_⟩
    rintro _ H5 s5 rfl
    have s45 := s4.trans s5
    refine ⟨_, _, rfl, rfl, _, _, rfl, rfl, _, rfl, ?_⟩
    refine ite2 (fun hd => ?_) (fun hd => ?_)
    · obtain ⟨m', em, om, t1, t2⟩ := turn (gb.trans hd)
      refine ⟨fun σ' H' => σ' = [some (.ref p), some (.int rank), some (.ref c), some (.int (lonT lo hi b).1), some (.int (lonT lo hi b).2.1), some (.int (((lonT lo hi b).2.2 : Nat) : Int)), z] ∧ H' = H5, ?_, ?_⟩
      · refine ⟨_, rfl, _, rfl, _, _, rfl, rfl, rfl, _, rfl, ?_⟩
        by_cases n1 : hi - lo = 1
        · rw [decide_eq_true (show V.int (hi - lo) = V.int 1 by rw [n1])]
          refine iteT ⟨_, rfl, _, _, rfl, rfl, .inl ⟨by decide, by decide⟩, _, rfl, _, _, rfl, rfl, .inl ⟨by decide, by decide⟩, _, rfl, _, _, rfl, rfl, _, _, _, rfl, ?_, rfl⟩
          rw [lonT, if_pos n1]
          rfl
        · rw [decide_eq_false (show ¬ V.int (hi - lo) = V.int 1 from fun q => n1 (by injection q))]
          refine iteF ⟨?_, rfl⟩
          rw [lonT, if_neg n1]
      · rintro σ' H6 ⟨rfl, rfl⟩
        refine ⟨_, rfl, _, rfl, _, _, rfl, rfl, _, _, rfl, rfl, ⟨by decide, by decide⟩, ?_⟩
        refine ⟨_, rfl, _, rfl, _, rfl, 1, (lonT lo hi b).2.2, rfl, rfl, cs2, (c, sturmL xs, lonM lo hi b, pw (lonT lo hi b).2.2), rfl, ⟨hc3.same s45, oU, okChB_ok om⟩, ?_⟩
        rintro _ H7 s7 rfl
        refine ⟨_, rfl, _, _, rfl, rfl, _, rfl, ?_⟩
        refine ite2 (fun hd => ?_) (fun hd => ?_)
        · obtain ⟨t1, t3⟩ := t1 (of_decide_eq_true hd)
          exact ⟨_, rfl, m', by omega, s3.trans (s45.trans s7), (lonT lo hi b).1, lonM lo hi b, (lonT lo hi b).2.2, _, rfl, t1, t3⟩
        · obtain ⟨t2, t3⟩ := t2 (fun q => hd (decide_eq_true q))
          exact ⟨_, rfl, m', by omega, s3.trans (s45.trans s7), lonM lo hi b, (lonT lo hi b).2.1, (lonT lo hi b).2.2, _, rfl, t2, t3⟩
    · have hd2 : lonGo (sturmL xs) lo hi b = false := by
        rw [gb]
        exact Bool.eq_false_iff.mpr hd
      have e := stop hd2
      refine ⟨_, rfl, _, rfl, (by show 2 ≤ sizeLine; decide), fun r hr2 => ?_⟩
      refine k _ _ (s1.trans (s2.trans (s3.trans (s4.trans (Same.new s5 hr2))))) ⟨r, rfl, ?_⟩
      rw [e]
      exact upd_same
abbrev nS : List Str := ["equation", "rank", "near", "bits", "wanted"]
theorem g47 : FnScope nS ["equation", "rank"] (defScope (top 39)) := (⟨rfl, rfl, rfl, by decide +kernel, rfl, by decide +kernel, by decide +kernel⟩)
abbrev spStrG : Sp := Prm (α := Addr × List Int × Int) (fun a => [.ref a.1, .int a.2.2]) (fun a H => TI H a.1 a.2.1 ∧ okStr a.2.1 a.2.2 = true) (fun a H v H' => ∃ r, v = .ref r ∧ TI H' r [(strL a.2.1 a.2.2).1, ((strL a.2.1 a.2.2).2 : Int)])
theorem c_strG (D : Df K mg "stretch_of" (top 39)) (B : Bl mg) (CL : Cal P w K mg base 5 "lonely_stretch" ["equation", "rank"] spLoneG) (CF : Cal P w K mg base 3 "refined" ["equation", "near", "bits", "wanted"] spRefG) : Cal P w K mg base 6 "stretch_of" ["equation", "rank"] spStrG := by
  refine mkC D g47 (fun _ _ _ _ _ _ us hl => match us, hl with | [_, _], _ => rfl) (fun _ => rfl) (fun f cdv A outer s H a Q E hr h k => ?_)
  obtain ⟨p, xs, rank⟩ := a
  obtain ⟨h, ok⟩ := h
  have h : TI H p xs := h
  obtain ⟨o1, o2⟩ := Bool.and_eq_true_iff.mp (show okStr xs rank = true from ok)
  obtain ⟨tb, htb⟩ := B.bits_
  refine ⟨_, pss_cons (ps_asg (pe_cl CL hr (pa_cons (pv 0) (pa_cons (pv 1) pa_nil))) (pg_tup rfl (pgs_cons ((pg_name (i := 2) (FnScope.nd g47) rfl (Or.inl rfl))) (pgs_cons ((pg_name (i := 3) (FnScope.nd g47) rfl (Or.inl rfl))) pgs_nil))))
    (pss_cons ((ps_set (i := 4) (FnScope.nd g47) rfl (Or.inl rfl) (pe_callB (call_max2 rfl) (by rfl) B.max_ PyProof.Rows.boot_max (pa_cons (pv 3) (pa_cons (pe_glob (v := .int 64) (by rfl) htb ⟨_, rfl⟩) pa_nil)))))
    (pss_one (ps_ret (pe_tup (pa_cons (pe_cl CF hr (pa_cons (pv 0) (pa_cons (pv 2) (pa_cons (pv 3) (pa_cons (pv 4) pa_nil))))) (pa_cons (pv 4) pa_nil)))))), ?_⟩
  refine ⟨_, rfl, _, rfl, (p, xs, rank), rfl, ⟨h, o1⟩, ?_⟩
  rintro _ H1 s1 ⟨r, rfl, hr1⟩
  refine ⟨r, _, rfl, SqT.of hr1, rfl, _, _, rfl, _, _, rfl, rfl, ?_⟩
  have em : (if (64 : Int) > ((lonL xs rank).2 : Int) then (64 : Int) else ((lonL xs rank).2 : Int)) = ((max (lonL xs rank).2 64 : Nat) : Int) := by
    split <;> omega
  refine ⟨_, rfl, _, _, rfl, ?_⟩
  refine ⟨_, rfl, _, rfl, _, rfl, _, rfl, (p, xs, (lonL xs rank).1, (lonL xs rank).2, max (lonL xs rank).2 64), ?_, ⟨TI.same s1 h, o2⟩, ?_⟩
  · show [V.ref p, V.int _, V.int _, V.int (if (64 : Int) > ((lonL xs rank).2 : Int) then (64 : Int) else ((lonL xs rank).2 : Int))] = [V.ref p, V.int _, V.int _, V.int ((max (lonL xs rank).2 64 : Nat) : Int)]
    rw [em]
  rintro _ H2 s2 rfl
  refine ⟨_, rfl, (by show 2 ≤ sizeLine; decide), fun r2 hr2 => ?_⟩
  refine k _ _ (s1.trans (Same.new s2 hr2)) ⟨r2, rfl, ?_⟩
  show upd H2 r2 (.tup [.int (refL xs (lonL xs rank).1 (lonL xs rank).2 (max (lonL xs rank).2 64)), .int (if (64 : Int) > ((lonL xs rank).2 : Int) then (64 : Int) else ((lonL xs rank).2 : Int))]) r2 = some (.tup [.int _, .int ((max (lonL xs rank).2 64 : Nat) : Int)])
  rw [em]
  exact upd_same
end
end Xq
/-! Polynomials of any degree: divisors. -/
namespace Xq
open PySem PySem.Spec PyProof.Rows L2
def dvS (n : Int) : Nat → List Int
  | 0 => []
  | k + 1 => dvS n k ++ (bif Nat.beq (n.natAbs % (1 + k)) 0 then [((1 + k : Nat) : Int)] else [])
theorem dv_iff (n : Int) (k : Nat) : n % ((1 + k : Nat) : Int) = 0 ↔ n.natAbs % (1 + k) = 0 := by
  rw [← Int.dvd_iff_emod_eq_zero, Int.ofNat_dvd_left, Nat.dvd_iff_mod_eq_zero]
theorem dv_yes {n : Int} {k : Nat} {α : Type} {a b : α} (h : n % ((1 + k : Nat) : Int) = 0) : (bif Nat.beq (n.natAbs % (1 + k)) 0 then a else b) = a := by
  rw [(dv_iff n k).mp h]
  rfl
theorem dv_no {n : Int} {k : Nat} {α : Type} {a b : α} (h : ¬ n % ((1 + k : Nat) : Int) = 0) : (bif Nat.beq (n.natAbs % (1 + k)) 0 then a else b) = b := by
  have e : Nat.beq (n.natAbs % (1 + k)) 0 = false := by
    cases z : Nat.beq (n.natAbs % (1 + k)) 0 with
    | false => rfl
    | true => exact absurd ((dv_iff n k).mpr (Nat.eq_of_beq_eq_true z)) h
  rw [e]
  rfl
theorem dvS_len (n : Int) : ∀ k, (dvS n k).length ≤ k
  | 0 => Nat.le_refl _
  | k + 1 => by
    have := dvS_len n k
    show (dvS n k ++ _).length ≤ k + 1
    rw [List.length_append]
    cases Nat.beq (n.natAbs % (1 + k)) 0
    · simp; omega
    · simp; omega
def dvG (m i : Nat) : List Nat := bif Nat.beq (Nat.mod m i) 0 then [i] else []
/-- the divisors of m from k down to 1, ahead of acc: a plain recursor over plain Nat operations, quick in the kernel -/
def dvR (m : Nat) (k : Nat) : Nat → List Nat → List Nat := Nat.rec (motive := fun _ => Nat → List Nat → List Nat) (fun _ acc => acc) (fun _ ih i acc => ih (Nat.pred i) (bif Nat.beq (Nat.mod m i) 0 then i :: acc else acc)) k
theorem dvR_eq (m : Nat) : ∀ k acc, dvR m k k acc = ((List.range k).flatMap fun j => dvG m (1 + j)) ++ acc
  | 0, acc => rfl
  | k + 1, acc => by
    have e : dvR m (k + 1) (k + 1) acc = dvR m k k (dvG m (1 + k) ++ acc) := by
      show dvR m k k (bif Nat.beq (Nat.mod m (k + 1)) 0 then (k + 1) :: acc else acc) = _
      unfold dvG
      rw [Nat.add_comm 1 k]
      cases Nat.beq (Nat.mod m (k + 1)) 0 <;> rfl
    rw [e, dvR_eq m k, List.range_succ, List.flatMap_append, List.append_assoc]
    congr 1
    simp
theorem dvS_eq (n : Int) : ∀ k, dvS n k = ((List.range k).flatMap fun j => dvG n.natAbs (1 + j)).map Int.ofNat
  | 0 => rfl
  | k + 1 => by
    rw [List.range_succ, List.flatMap_append, List.map_append, ← dvS_eq n k]
    show dvS n k ++ _ = _
    congr 1
    show (bif Nat.beq (n.natAbs % (1 + k)) 0 then [((1 + k : Nat) : Int)] else []) = List.map _ (List.flatMap _ [k])
    rw [List.flatMap_cons, List.flatMap_nil, List.append_nil]
    show _ = List.map _ (bif Nat.beq (n.natAbs % (1 + k)) 0 then [1 + k] else [])
    cases Nat.beq (n.natAbs % (1 + k)) 0 <;> rfl
/-- what divisors tells -/
def dvL (n : Int) : List Int := (dvR n.natAbs n.natAbs n.natAbs []).map Int.ofNat
theorem dvL_eq {n : Int} (h : n.natAbs ≤ 1000) : dvS n n.natAbs = dvL n := by
  unfold dvL
  rw [dvS_eq, dvR_eq, List.append_nil]
section
variable {P : Program} {w : World} {K : PySem.W.Frag} {mg : Str → Option Value} {base : Heap}
theorem g55 : FnScope ["number", "low"] ["number"] (defScope (top 47)) := (⟨rfl, rfl, rfl, by decide +kernel, rfl, by decide +kernel, by decide +kernel⟩)
abbrev spDivG : Sp := Prm (α := Int) (fun i => [.int i]) (fun i _ => i.natAbs ≤ 1000) (fun i H v H' => ∃ q, v = .ref q ∧ LI H' q (dvL i))
theorem c_divG (D : Df K mg "divisors" (top 47)) (B : Bl mg) : Cal P w K mg base 1 "divisors" ["number"] spDivG := by
  refine mkC D g55 (fun _ _ _ _ _ _ us hl => match us, hl with | [_], _ => rfl) (fun _ => rfl) (fun f cdv A outer s H n Q E hr h k => ?_)
  have h : n.natAbs ≤ 1000 := h
  refine ⟨_, pss_one (ps_ret (pe_lc (own := [("low", 1)]) (g := gName 1) (tt := tTest (tOp rEq (tOp (rI (fun _ j => 0 < j) fun i j => .int (i % j)) (tVar 0) (tVar 1)) (tC (.int 0)))) (te := tVar 1) rfl g55.nd
      (pi_range2 (by rfl) B.range_ (pa_cons pe_int (pa_cons (pe_op op_add (pe_callB call_abs (by rfl) B.abs_ PyProof.Rows.boot_abs (pa_cons (pv 0) pa_nil)) pe_int) pa_nil)))
      (blkOk_by (N := ["number", "low"]) (sc := defScope (top 47)) (by decide +kernel)) (fun _ _ _ _ _ => (pg_name (i := 1) (FnScope.nd g55) rfl (Or.inl rfl))) (fun _ _ _ _ _ => pts_one ((pt_cmpR op_eq (pe_op op_mod (pv 0) (pv 1)) pe_int (nomark _))))
      (fun _ _ _ _ _ => pv 1))), ?_⟩
  have ea : (if n < 0 then -n else n) = (n.natAbs : Int) := by
    split <;> omega
  have en : ((if n < 0 then -n else n) + 1 - 1).toNat = n.natAbs := by
    rw [ea]
    omega
  refine ⟨_, rfl, n, rfl, _, _, rfl, rfl, _, _, rfl, ⟨by decide, by decide, by omega, by omega⟩, fun D hD => ?_⟩
  rw [en]
  refine lc_range (lo := 1) (fun i H' => Same H H' ∧ H' D = some (.lst ((dvS n i).map V.int))) ⟨same_new hD, upd_same⟩ (fun i H' hi e => ?_) (fun H' e => k _ _ e.1 ⟨D, rfl, by rw [← dvL_eq h]; exact e.2⟩)
  obtain ⟨s1, e1⟩ := e
  have ei : ((1 : Int) + (i : Int)) = ((1 + i : Nat) : Int) := by omega
  refine ⟨rfl, ?_⟩
  refine ⟨_, rfl, _, rfl, _, _, rfl, rfl, (by show (0 : Int) < 1 + (i : Int); omega), rfl, _, rfl, ?_⟩
  by_cases hz : n % ((1 + i : Nat) : Int) = 0
  · rw [decide_eq_true (show V.int (n % (1 + (i : Int))) = V.int 0 by rw [ei, hz])]
    refine iteT ⟨_, rfl, _, e1, ?_, Same.put s1 hD, ?_⟩
    · rw [List.length_map]
      exact sz_lt (Nat.le_trans (dvS_len n i) (by omega))
    · rw [upd_same]
      show some (HO.lst _) = some (HO.lst (List.map V.int (dvS n i ++ _)))
      rw [dv_yes hz, List.map_append, ei]
      rfl
  · rw [decide_eq_false (show ¬ V.int (n % (1 + (i : Int))) = V.int 0 from fun q => hz (ei ▸ V.int.inj q))]
    refine iteF ⟨s1, ?_⟩
    rw [e1]
    show some (HO.lst _) = some (HO.lst (List.map V.int (dvS n i ++ _)))
    rw [dv_no hz, List.append_nil]
end
end Xq
/-! Polynomials of any degree: linear_factor, where there is none. -/
namespace Xq
open PySem PySem.Spec PyProof.Rows L2
/-- no fraction's root -/
def okLin (xs : List Int) : Bool := decide (2 ≤ xs.length) && decide (xs.length ≤ 1000) && decide ((xs.getD 0 0).natAbs ≤ 1000) && decide ((xs.getLastD 0).natAbs ≤ 1000) && !decide (xs.getD 0 0 = 0) &&
  (dvL (xs.getD 0 0)).all fun t => (dvL (xs.getLastD 0)).all fun b => !decide (Nat.gcd t.natAbs b.natAbs = 1) || (okVB xs t b && okVB xs (-t) b && !decide (valL xs t b = 0) && !decide (valL xs (-t) b = 0))
section
variable {P : Program} {w : World} {K : PySem.W.Frag} {mg : Str → Option Value} {base : Heap}
abbrev nLf : List Str := ["terms", "bottoms", "top", "bottom", "side"]
theorem g56 : FnScope nLf ["terms"] (defScope (top 48)) := (⟨rfl, rfl, rfl, by decide +kernel, rfl, by decide +kernel, by decide +kernel⟩)
abbrev spLinG : Sp := Prm (α := Addr × List Int) (fun a => [.ref a.1]) (fun a H => TI H a.1 a.2 ∧ okLin a.2 = true) (fun a H v H' => v = .non)
theorem c_linG (D : Df K mg "linear_factor" (top 48)) (B : Bl mg) (CD : Cal P w K mg base 1 "divisors" ["number"] spDivG) (C : Cal P w K mg base 1 "value_at" ["terms", "top", "bottom"] spValG) : Cal P w K mg base 2 "linear_factor" ["terms"] spLinG := by
  refine mkC D g56 (fun _ _ _ _ _ _ us hl => match us, hl with | [_], _ => rfl) (fun _ => rfl) (fun f cdv A outer s H a Q E hr h k => ?_)
  obtain ⟨p, xs⟩ := a
  obtain ⟨h, ok⟩ := h
  have h : TI H p xs := h
  have h0 : H p = some (.tup (xs.map V.int)) := h
  have k : ∀ v H', Same H H' → v = .non → Q v H' := k
  have ok : okLin xs = true := ok
  unfold okLin at ok
  simp only [Bool.and_eq_true, Bool.not_eq_true', decide_eq_true_eq, decide_eq_false_iff_not] at ok
  obtain ⟨⟨⟨⟨⟨l2, l1⟩, d0⟩, dl⟩, n0⟩, al⟩ := ok
  have call : ∀ {H1 : Hp} {t b : Int} {Qv : VK}, Same H H1 → okVB xs t b = true → (∀ H2, Same H1 H2 → Qv (.int (valL xs t b)) H2) → spValG [.ref p, .int t, .int b] H1 Qv E0 := fun {H1 t b Qv} s1 o kk => by
    refine ⟨(p, xs, t, b), rfl, ⟨TI.same s1 h, okVB_ok o⟩, ?_⟩
    rintro _ H2 s2 rfl
    exact kk _ s2
  refine ⟨_, pss_cons (ps_if ((pt_cmpR op_eq ((pe_ix ix_tup (pv 0) pe_int (fun _ _ => rfl))) pe_int (nomark _))) pss_nv pss_nil)
    (pss_cons ((ps_set (i := 1) (FnScope.nd g56) rfl (Or.inl rfl) (pe_cl CD hr (pa_cons ((pe_ix ix_tup (pv 0) (pe_un un_neg pe_int) (fun _ _ => rfl))) pa_nil))))
    (pss_cons (ps_for PassesOwn.never rfl (pi_list (pe_cl CD hr (pa_cons ((pe_ix ix_tup (pv 0) pe_int (fun _ _ => rfl))) pa_nil))) ((pg_name (i := 2) (FnScope.nd g56) rfl (Or.inl rfl)))
      (pss_one (ps_for PassesOwn.never rfl (pi_list (pv 1)) ((pg_name (i := 3) (FnScope.nd g56) rfl (Or.inl rfl)))
        (pss_cons (ps_if ((pt_cmpR op_ne (pe_callBfun cr_gcd (by rfl) B.gcd_ (pa_cons (pv 2) (pa_cons (pv 3) pa_nil))) pe_int (nomark _))) (pss_one ps_continue) pss_nil)
        (pss_one (ps_for PassesOwn.never rfl (pi_tup (pe_tup (pa_cons (pv 2) (pa_cons (pe_un un_neg (pv 2)) pa_nil)))) ((pg_name (i := 4) (FnScope.nd g56) rfl (Or.inl rfl)))
          (pss_one (ps_if ((pt_cmpR op_eq (pe_cl C hr (pa_cons (pv 0) (pa_cons (pv 4) (pa_cons (pv 3) pa_nil)))) pe_int (nomark _))) pss_nv pss_nil))))))))
    (pss_one (ps_ret pe_non)))), ?_⟩
  have nz : ∀ {v : Int}, ¬ v = 0 → decide (V.int v = V.int 0) = false := fun {v} e => decide_eq_false fun q => e (V.int.inj q)
  refine ⟨_, rfl, p, _, _, _, rfl, rfl, SqT.of h0, atI_nat (j := 0) (getD_map (by omega)), rfl, _, rfl, ?_⟩
  rw [nz n0]
  refine iteF ⟨_, rfl, _, rfl, p, _, _, _, rfl, rfl, SqT.of h0, at_lastD (by omega), xs.getLastD 0, rfl, dl, ?_⟩
  rintro _ H1 s1 ⟨bo, rfl, hbo⟩
  have hbo : H1 bo = some (.lst ((dvL (xs.getLastD 0)).map V.int)) := hbo
  have h1 := s1 _ _ h0
  refine ⟨_, rfl, p, _, _, _, rfl, rfl, SqT.of h1, atI_nat (j := 0) (getD_map (by omega)), xs.getD 0 0, rfl, d0, ?_⟩
  rintro _ H2 s2 ⟨to, rfl, hto⟩
  have hto : H2 to = some (.lst ((dvL (xs.getD 0 0)).map V.int)) := hto
  have hbo2 := s2 _ _ hbo
  have s12 := s1.trans s2
  refine ⟨to, rfl, ⟨_, SqL.of hto⟩, for_list (xs := (dvL (xs.getD 0 0)).map V.int) (fun i σ H' => Same H2 H' ∧ ∃ z2 z3 z4 : Option V, σ = [some (.ref p), some (.ref bo), z2, z3, z4]) ⟨Same.refl _, none, none, none, rfl⟩ (fun i σ H' _ e => SqL.of (e.1 _ _ hto)) ?_ ?_⟩
  · rintro i x σ H3 hx ⟨s3, z2, z3, z4, rfl⟩
    obtain ⟨t, ht, rfl⟩ := at_map hx
    have alt := List.all_eq_true.mp al t (List.mem_of_getElem? ht)
    have hbo3 := s3 _ _ hbo2
    refine ⟨_, rfl, bo, rfl, ⟨_, SqL.of hbo3⟩, for_list (xs := (dvL (xs.getLastD 0)).map V.int) (fun i σ H' => Same H2 H' ∧ ∃ z3 z4 : Option V, σ = [some (.ref p), some (.ref bo), some (.int t), z3, z4]) ⟨s3, z3, z4, rfl⟩ (fun i σ H' _ e => SqL.of (e.1 _ _ hbo2)) ?_ ?_⟩
    · rintro j y σ H4 hy ⟨s4, z3, z4, rfl⟩
      obtain ⟨b, hb, rfl⟩ := at_map hy
      have alb := List.all_eq_true.mp alt b (List.mem_of_getElem? hb)
      refine ⟨_, rfl, _, rfl, t, b, rfl, rfl, _, rfl, ?_⟩
      by_cases hg : Nat.gcd t.natAbs b.natAbs = 1
      · rw [decide_eq_true hg, Bool.not_true, Bool.false_or] at alb
        simp only [Bool.and_eq_true, Bool.not_eq_true', decide_eq_false_iff_not] at alb
        obtain ⟨⟨⟨o1, o2⟩, v1⟩, v2⟩ := alb
        rw [decide_eq_true (show V.int ((Nat.gcd t.natAbs b.natAbs : Nat) : Int) = V.int 1 by rw [hg]; rfl)]
        refine iteF ⟨_, rfl, _, rfl, t, rfl, (by show 2 ≤ sizeLine; decide), fun a na => ?_⟩
        have t1 := same_new (o := .tup [.int t, .int (-t)]) na
        have ha : upd H4 a (.tup [.int t, .int (-t)]) a = some (.tup [.int t, .int (-t)]) := upd_same
        have s5 := s12.trans (s4.trans t1)
        refine ⟨a, rfl, ⟨_, SqT.of ha⟩, for_unr (xs := [.int t, .int (-t)]) walk_tup ?_⟩
        refine ⟨SqT.of ha, ?_⟩
        refine ⟨_, rfl, _, rfl, _, rfl, call s5 o1 fun H6 s6 => ⟨rfl, _, rfl, ?_⟩⟩
        rw [nz v1]
        refine iteF ⟨SqT.of (s6 _ _ ha), ?_⟩
        refine ⟨_, rfl, _, rfl, _, rfl, call (s5.trans s6) o2 fun H7 s7 => ⟨rfl, _, rfl, ?_⟩⟩
        rw [nz v2]
        exact iteF ⟨SqT.of (s7 _ _ (s6 _ _ ha)), s4.trans (t1.trans (s6.trans s7)), _, _, rfl⟩
      · rw [decide_eq_false (show ¬ V.int ((Nat.gcd t.natAbs b.natAbs : Nat) : Int) = V.int 1 from fun q => hg (by have := V.int.inj q; omega))]
        exact iteT ⟨s4, _, _, rfl⟩
    · rintro σ H4 ⟨s4, z3, z4, rfl⟩
      exact ⟨s4, _, _, _, rfl⟩
  · rintro σ H3 ⟨s3, z2, z3, z4, rfl⟩
    exact k _ _ (s12.trans s3) rfl
end
end Xq
/-! whole_roots. -/
namespace Xq
open PySem PySem.Spec PyProof.Rows L2
theorem cr_isqrt {X : Cx} : CallR X (.builtin "math.isqrt") (fun vs H Q => ∃ a : Int, vs = [.int a] ∧ 0 ≤ a ∧ a < 2 ^ 64 ∧ Q (.int ((Float64.isqrt a.toNat : Nat) : Int)) H) := by
  intro pins s σ H vs us Q I r h
  obtain ⟨a, rfl, h0, h1, q⟩ := h
  cases r with
  | cons r1 r2 =>
  cases r2
  obtain ⟨t, rfl⟩ := r1
  exact PySem.W.mg_isqrt h0 h1 ⟨.int _, H, I.tok _, ⟨_, rfl⟩, q⟩
def inn (c l s : Int) : Int := l * l - 4 * s * c
def wid (c l s : Int) : Int := ((Float64.isqrt (inn c l s).toNat : Nat) : Int)
/-- what whole_roots tells -/
def wr1 (s t : Int) : List Int := if t % (2 * s) = 0 then [t.fdiv (2 * s)] else []
def wrL (c l s : Int) : List Int := if inn c l s < 0 then [] else if ¬ wid c l s * wid c l s = inn c l s then [] else wr1 s (wid c l s - l) ++ wr1 s (-(wid c l s) - l)
def okWr (c l s : Int) : Bool := smI 4000 c && smI 4000 l && smI 4000 s && decide (inn c l s < 2 ^ 64) && (decide (inn c l s < 0) || (smI 4000 (wid c l s) && (!decide (wid c l s * wid c l s = inn c l s) || !decide (s = 0))))
theorem fm0 (z d : Int) : z.fmod d = 0 ↔ z % d = 0 := by
  rw [← Int.dvd_iff_emod_eq_zero, ← Int.dvd_iff_fmod_eq_zero]
section
variable {P : Program} {w : World} {K : PySem.W.Frag} {mg : Str → Option Value} {base : Heap}
abbrev nWr : List Str := ["constant", "linear", "square", "inner", "width", "tops", "top"]
theorem g59 : FnScope nWr ["constant", "linear", "square"] (defScope (top 51)) := (⟨rfl, rfl, rfl, by decide +kernel, rfl, by decide +kernel, by decide +kernel⟩)
abbrev spWrG : Sp := Prm (α := Int × Int × Int) (fun ⟨c, l, s⟩ => [.int c, .int l, .int s]) (fun ⟨c, l, s⟩ H => okWr c l s = true) (fun ⟨c, l, s⟩ H v H' => ∃ q, v = .ref q ∧ LI H' q (wrL c l s))
theorem c_wrG (D : Df K mg "whole_roots" (top 51)) (B : Bl mg) (iq : mg "isqrt" = some (.builtin "math.isqrt")) : Cal P w K mg base 1 "whole_roots" ["constant", "linear", "square"] spWrG := by
  refine mkC D g59 (fun _ _ _ _ _ _ us hl => match us, hl with | [_, _, _], _ => rfl) (fun _ => rfl) (fun f cdv A outer s H a Q E hr ok k => ?_)
  obtain ⟨c, l, sq⟩ := a
  have ok : okWr c l sq = true := ok
  unfold okWr at ok
  simp only [Bool.and_eq_true, decide_eq_true_eq] at ok
  obtain ⟨⟨⟨⟨oc, ol⟩, os⟩, oi⟩, or'⟩ := ok
  have sc := smI_ok (a := 4000) oc (by decide)
  have sl := smI_ok (a := 4000) ol (by decide)
  have ss := smI_ok (a := 4000) os (by decide)
  have k : ∀ v H', Same H H' → (∃ q, v = .ref q ∧ LI H' q (wrL c l sq)) → Q v H' := k
  refine ⟨_, pss_cons ((ps_set (i := 3) (FnScope.nd g59) rfl (Or.inl rfl) (pe_op op_sub (pe_op op_mulW (pv 1) (pv 1)) (pe_op op_mulW (pe_op op_mulW pe_int (pv 2)) (pv 0)))))
    (pss_cons (ps_if ((pt_cmpR op_lt (pv 3) pe_int (nomark _))) (pss_one (ps_ret (pe_lst pa_nil))) pss_nil)
    (pss_cons ((ps_set (i := 4) (FnScope.nd g59) rfl (Or.inl rfl) (pe_callBfun cr_isqrt (by rfl) iq (pa_cons (pv 3) pa_nil))))
    (pss_cons (ps_if ((pt_cmpR op_ne (pe_op op_mulW (pv 4) (pv 4)) (pv 3) (nomark _))) (pss_one (ps_ret (pe_lst pa_nil))) pss_nil)
    (pss_cons ((ps_set (i := 5) (FnScope.nd g59) rfl (Or.inl rfl) (pe_tup (pa_cons (pe_op op_sub (pv 4) (pv 1)) (pa_cons (pe_op op_sub (pe_un un_neg (pv 4)) (pv 1)) pa_nil)))))
    (pss_one (ps_ret (pe_lc (own := [("top", 6)]) (g := gName 6) (tt := tTest (tOp rEq (tOp (rI (fun _ j => j ≠ 0) fun i j => .int (i.fmod j)) (tVar 6) (tOp (rI CMulW fun i j => .int (i * j)) (tC (.int 2)) (tVar 2))) (tC (.int 0)))) (te := tOp (rI CDivX fun i j => .int (i.fdiv j)) (tVar 6) (tOp (rI CMulW fun i j => .int (i * j)) (tC (.int 2)) (tVar 2))) rfl g59.nd
      (pi_tup (pv 5))
      (blkOk_by (N := nWr) (sc := defScope (top 51)) (by decide +kernel)) (fun _ _ _ _ _ => (pg_name (i := 6) (FnScope.nd g59) rfl (Or.inl rfl))) (fun _ _ _ _ _ => pts_one ((pt_cmpR op_eq (pe_op op_modN (pv 6) (pe_op op_mulW pe_int (pv 2))) pe_int (nomark _))))
      (fun _ _ _ _ _ => pe_op op_fdivX (pv 6) (pe_op op_mulW pe_int (pv 2)))))))))), ?_⟩
  have c4 : CMulW 4 sq := cm (a := 4) (by decide) ss
  have s4 : Sm 4004 (4 * sq) := sm_mul (a := 4) (by decide) ss
  have c2 : CMulW 2 sq := cm (a := 4) (by decide) ss
  have nil : ∀ {H' : Hp}, Same H H' → wrL c l sq = [] → ∀ q, H' q = none → Q (.ref q) (upd H' q (.lst [])) := fun {H'} s1 e q hq => by
    refine k _ _ (Same.new s1 hq) ⟨q, rfl, ?_⟩
    rw [e]
    exact upd_same
  refine ⟨_, rfl, _, rfl, _, _, rfl, rfl, cm sl sl, _, rfl, _, _, rfl, rfl, c4, _, rfl, _, _, rfl, rfl, cm s4 sc, _, _, rfl, rfl, ?_⟩
  refine ⟨_, rfl, _, _, rfl, rfl, _, rfl, ?_⟩
  by_cases h0 : inn c l sq < 0
  · rw [decide_eq_true (show (l * l - 4 * sq * c) < 0 from h0)]
    refine iteT ⟨by decide, fun q hq => nil (Same.refl _) ?_ q hq⟩
    unfold wrL
    rw [if_pos h0]
  rw [decide_eq_false (show ¬ (l * l - 4 * sq * c) < 0 from h0)]
  rw [decide_eq_false h0, Bool.false_or] at or'
  obtain ⟨ow, or2⟩ := Bool.and_eq_true_iff.mp or'
  have sw := smI_ok (a := 4000) ow (by decide)
  refine iteF ⟨_, rfl, _, rfl, (by show (0 : Int) ≤ inn c l sq; omega), oi, ?_⟩
  show tSeq _ _ _ [some (.int c), some (.int l), some (.int sq), some (.int (inn c l sq)), some (.int (wid c l sq)), none, none] H
  refine ⟨_, rfl, _, rfl, _, _, rfl, rfl, cm sw sw, _, rfl, rfl, _, rfl, ?_⟩
  by_cases h1 : wid c l sq * wid c l sq = inn c l sq
  · rw [decide_eq_true h1, Bool.not_true, Bool.false_or] at or2
    have hs : ¬ sq = 0 := by
      rw [Bool.not_eq_true'] at or2
      exact of_decide_eq_false or2
    rw [decide_eq_true (show V.int (wid c l sq * wid c l sq) = V.int (inn c l sq) by rw [h1])]
    refine iteF ⟨_, rfl, _, rfl, _, _, rfl, rfl, _, rfl, _, rfl, _, rfl, _, _, rfl, rfl, (by show 2 ≤ sizeLine; decide), fun t ht => ?_⟩
    have s1 := same_new (o := .tup [.int (wid c l sq - l), .int (-(wid c l sq) - l)]) ht
    have h10 : upd H t (.tup [.int (wid c l sq - l), .int (-(wid c l sq) - l)]) t = some (.tup ([wid c l sq - l, -(wid c l sq) - l].map V.int)) := upd_same
    generalize upd H t (.tup [.int (wid c l sq - l), .int (-(wid c l sq) - l)]) = H1 at *
    have ew : wrL c l sq = wr1 sq (wid c l sq - l) ++ wr1 sq (-(wid c l sq) - l) := by
      unfold wrL
      rw [if_neg h0, if_neg (fun z => z h1)]
    have dz : CDivX 0 (2 * sq) := ⟨by omega, Nat.lt_of_lt_of_le (log_lt (sm_mul (a := 4) (i := 2) (by decide) ss) (by decide)) (by decide)⟩
    refine ⟨_, rfl, t, rfl, ⟨_, SqT.of h10⟩, fun D hD => lc_tup (xs := [wid c l sq - l, -(wid c l sq) - l].map V.int) (fun i H' => Same H1 H' ∧ H' D = some (.lst ((([wid c l sq - l, -(wid c l sq) - l].take i).flatMap (wr1 sq)).map V.int))) ⟨same_new hD, upd_same⟩ (fun i H' _ e => SqT.of (e.1 _ _ h10)) (fun i x H' hx e => ?_) (fun H' e => ?_)⟩
    · obtain ⟨s2, e2⟩ := e
      obtain ⟨z, hz, rfl⟩ := at_map hx
      have li := lt_of_at hz
      have tk : (([wid c l sq - l, -(wid c l sq) - l].take (i + 1)).flatMap (wr1 sq)) = (([wid c l sq - l, -(wid c l sq) - l].take i).flatMap (wr1 sq)) ++ wr1 sq z := by
        rw [List.take_succ, hz, List.flatMap_append]
        simp
      have ll : ((([wid c l sq - l, -(wid c l sq) - l].take i).flatMap (wr1 sq)).map V.int).length ≤ 2 := by
        rw [List.length_map]
        have h1 : ∀ t, (wr1 sq t).length ≤ 1 := fun t => by unfold wr1; split <;> simp
        have := h1 (wid c l sq - l)
        have := h1 (-(wid c l sq) - l)
        match i, li with
        | 0, _ => simp
        | 1, _ => simp; omega
      refine ⟨rfl, ?_⟩
      refine ⟨_, rfl, _, rfl, _, _, rfl, rfl, c2, _, _, rfl, rfl, (by show 2 * sq ≠ 0; omega), rfl, _, rfl, ?_⟩
      by_cases hm : z % (2 * sq) = 0
      · rw [decide_eq_true (show V.int (z.fmod (2 * sq)) = V.int 0 by rw [(fm0 _ _).mpr hm])]
        refine iteT ⟨_, rfl, _, rfl, _, _, rfl, rfl, c2, _, _, rfl, rfl, dz, _, e2, Nat.lt_of_le_of_lt ll (by decide), Same.put s2 hD, ?_⟩
        rw [upd_same, tk, List.map_append]
        unfold wr1
        rw [if_pos hm]
        rfl
      · rw [decide_eq_false (show ¬ V.int (z.fmod (2 * sq)) = V.int 0 from fun q => hm ((fm0 _ _).mp (V.int.inj q)))]
        refine iteF ⟨s2, ?_⟩
        rw [e2, tk]
        unfold wr1
        rw [if_neg hm, List.append_nil]
    · obtain ⟨s2, e2⟩ := e
      refine k _ _ (s1.trans s2) ⟨D, rfl, ?_⟩
      rw [ew]
      have e3 := e2
      rw [List.length_map, List.take_length] at e3
      show H' D = _
      rw [e3]
      simp
  · rw [decide_eq_false (show ¬ V.int (wid c l sq * wid c l sq) = V.int (inn c l sq) from fun q => h1 (V.int.inj q))]
    refine iteT ⟨by decide, fun q hq => nil (Same.refl _) ?_ q hq⟩
    unfold wrL
    rw [if_neg h0, if_pos h1]
end
end Xq
/-! divided, where it tells None. -/
namespace Xq
open PySem PySem.Spec PySem.Calls PyProof.Rows L2
theorem truth_ints {prog : Program} {w : World} {A : Around} {ns : List Int} {its : List Value} (r : Vals (ns.map V.int) its) :
    TruthOf prog w A (fun i v => its.toArray[i]? = some v) (fun i => ns.getD i 0 != 0) := fun i v s Q E hv hq => by
  have hv' : its[i]? = some v := by simpa using hv
  have hl := r.length
  rw [List.length_map] at hl
  have hi : i < its.length := by
    rcases Nat.lt_or_ge i its.length with q | q
    · exact q
    · rw [List.getElem?_eq_none q] at hv'
      cases hv'
  obtain ⟨u, hu, ru⟩ := r.get (i := i) (x := V.int (ns.getD i 0)) (by
    have hi2 : i < ns.length := by omega
    rw [List.getElem?_map, List.getElem?_eq_getElem hi2, List.getD_eq_getElem?_getD, List.getElem?_eq_getElem hi2]
    rfl)
  rw [hv'] at hu
  cases hu
  obtain ⟨t, rfl⟩ := ru
  exact PyProof.Rows.truthy_int hq
theorem any_rangeI : ∀ ns : List Int, (List.range ns.length).any (fun i => ns.getD i 0 != 0) = ns.any fun x => x != 0
  | [] => rfl
  | b :: bs => by
    rw [List.length_cons, List.range_succ_eq_map, List.any_cons, List.any_map, List.any_cons, ← any_rangeI bs]
    all_goals rfl
/-- any, of ints -/
theorem cr_anyI {X : Cx} (hc : X.calm = true) : CallR X (.builtin "any") (fun vs H Q => ∃ (a : Addr) (ns : List Int), vs = [V.ref a] ∧ SqL X.K H a (ns.map V.int) ∧ Q (.bl (ns.any fun x => x != 0)) H) := by
  intro pins s σ H vs us Q I r h
  obtain ⟨a, ns, rfl, hs, q⟩ := h
  obtain ⟨its, rv, hl, _⟩ := I.list hs
  rw [Vals.ref1 r]
  have hb := rv.length
  rw [List.length_map] at hb
  refine call_any_walk (iter_any hl.isList fun s₂ e2 st hne => ?_)
  subst e2
  refine ⟨_, _, _, _, _, _, _, rfl, Walks.list (A := X.A.in1) (I.ok.hd hc) _ a hne its.toArray, st, truth_ints rv, fun h' tk hk => ?_⟩
  refine ⟨.bl _, H, I.kept fun b o eo => hk b o (fun hmem => ?_) (Heap.get?_push_of_some _ eo), ?_, q⟩
  · rcases List.mem_cons.mp hmem with e1 | hmem
    · exact absurd (e1 ▸ Heap.lt_size eo) (Nat.lt_irrefl _)
    · cases hmem
  · show Value.bool _ = Value.bool _
    rw [← any_rangeI, List.size_toArray, hb]
end Xq
/-! divided, where it tells None. -/
namespace Xq
open PySem PySem.Spec PySem.Calls PyProof.Rows L2
def qD (ys rest : List Int) : Int := rest.getLastD 0 / ys.getLastD 0
def nxD (ys rest : List Int) : List Int := (stG (fun o t => o - qD ys rest * t) ys (rest.length - ys.length) rest ys.length).dropLast
/-- so many turns, and None at the end -/
def divN (ys : List Int) : Nat → List Int → Bool
  | 0, rest => decide (rest.length < ys.length) && rest.any fun x => x != 0
  | n + 1, rest => (decide (rest.length < ys.length) && rest.any fun x => x != 0) ||
      (decide (ys.length ≤ rest.length) && smB 4000 rest && decide (rest.length ≤ 1000) && smI 4000 (qD ys rest) && (!decide (rest.getLastD 0 % ys.getLastD 0 = 0) || divN ys n (nxD ys rest)))
def okDv (xs ys : List Int) : Bool := decide (0 < ys.getLastD 0) && decide (1 ≤ ys.length) && decide (ys.length ≤ 1000) && smB 4000 ys && divN ys 20 xs
section
variable {P : Program} {w : World} {K : PySem.W.Frag} {mg : Str → Option Value} {base : Heap}
abbrev nDv : List Str := ["one", "other", "rest", "found", "factor", "left", "shift", "at", "term"]
theorem g37 : FnScope nDv ["one", "other"] (defScope (top 29)) := (⟨rfl, rfl, rfl, by decide +kernel, rfl, by decide +kernel, by decide +kernel⟩)
abbrev spDvG : Sp := Prm (α := Addr × Addr × List Int × List Int) (fun ⟨p, q, xs, ys⟩ => [.ref p, .ref q]) (fun ⟨p, q, xs, ys⟩ H => TI H p xs ∧ TI H q ys ∧ okDv xs ys = true) (fun ⟨p, q, xs, ys⟩ H v H' => v = .non)
theorem c_dvG (D : Df K mg "divided" (top 29)) (B : Bl mg) (wl : mg "list" = none) (wa : mg "any" = none) : Cal P w K mg base 1 "divided" ["one", "other"] spDvG := by
  refine mkC D g37 (fun _ _ _ _ _ _ us hl => match us, hl with | [_, _], _ => rfl) (fun _ => rfl) (fun f cdv A outer s H a Q E hr h k => ?_)
  obtain ⟨p, q, xs, ys⟩ := a
  obtain ⟨h1, h2, ok⟩ := h
  have h10 : H p = some (.tup (xs.map V.int)) := h1
  have h20 : H q = some (.tup (ys.map V.int)) := h2
  have k : ∀ v H', Same H H' → v = .non → Q v H' := k
  have ok : okDv xs ys = true := ok
  unfold okDv at ok
  simp only [Bool.and_eq_true, decide_eq_true_eq] at ok
  obtain ⟨⟨⟨⟨b0, b1⟩, b2⟩, b3⟩, b4⟩ := ok
  have sy := smB_ok (a := 400000) b3 (by decide)
  refine ⟨_, pss_cons (ps_par (i := 2) (j := 3) rfl g37.nd rfl rfl (by decide) rfl rfl (pa_cons (pe_callTy call_list_of (by rfl) wl PyProof.Rows.boot_list (pa_cons (pv 0) pa_nil)) (pa_cons (pe_lst pa_nil) pa_nil)) rfl)
    (pss_cons (ps_whI PassesOwn.never ((pt_cmpR op_ge ((pe_callB call_len_seq (by rfl) (Bl.len_ B) PySem.boot_len (pa_cons (pv 2) pa_nil))) ((pe_callB call_len_seq (by rfl) (Bl.len_ B) PySem.boot_len (pa_cons (pv 1) pa_nil))) (nomark _)))
      (pss_cons (ps_asg (pe_callB call_divmodW (by rfl) B.divmod_ PyProof.Rows.boot_divmod (pa_cons ((pe_ix ix_list (pv 2) (pe_un un_neg pe_int) (fun _ _ => rfl))) (pa_cons ((pe_ix ix_tup (pv 1) (pe_un un_neg pe_int) (fun _ _ => rfl))) pa_nil))) (pg_tup rfl (pgs_cons ((pg_name (i := 4) (FnScope.nd g37) rfl (Or.inl rfl))) (pgs_cons ((pg_name (i := 5) (FnScope.nd g37) rfl (Or.inl rfl))) pgs_nil))))
      (pss_cons (ps_if ((pt_cmpR op_ne (pv 5) pe_int (nomark _))) (pss_one (ps_ret pe_non)) pss_nil)
      (pss_cons (ps_expr (pe_bm PySem.F.plainAttrs_list PySem.F.slot_list_append PySem.F.type_list_append mt_append (pv 3) (pa_cons (pv 4) pa_nil)))
      (pss_cons ((ps_set (i := 6) (FnScope.nd g37) rfl (Or.inl rfl) (pe_op op_sub ((pe_callB call_len_seq (by rfl) (Bl.len_ B) PySem.boot_len (pa_cons (pv 2) pa_nil))) ((pe_callB call_len_seq (by rfl) (Bl.len_ B) PySem.boot_len (pa_cons (pv 1) pa_nil))))))
      (pss_cons (ps_for PassesOwn.never rfl (pi_enumT (by rfl) B.enumerate_ (pa_cons (pv 1) pa_nil)) (pg_tup rfl (pgs_cons ((pg_name (i := 7) (FnScope.nd g37) rfl (Or.inl rfl))) (pgs_cons ((pg_name (i := 8) (FnScope.nd g37) rfl (Or.inl rfl))) pgs_nil)))
        (pss_one (ps_augS (pv 2) (pe_op op_add (pv 6) (pv 7)) get_list (pe_op op_mulW (pv 4) (pv 8)) ip_sub set_list)))
      (pss_one (ps_expr (pe_bm0 PySem.F.plainAttrs_list PySem.F.slot_list_pop PySem.F.type_list_pop mt_pop (pv 2))))))))))
    (pss_cons (ps_if (pt_val (pe_callB (cr_anyI rfl) (by rfl) wa PyProof.Rows.boot_any (pa_cons (pv 2) pa_nil))) (pss_one (ps_ret pe_non)) pss_nil)
    (pss_one (ps_ret (pe_callTy call_tuple_of (by rfl) B.tuple_ PyProof.Rows.boot_tuple (pa_cons (pe_revG (pv 3)) pa_nil)))))), ?_⟩
  refine ⟨_, rfl, p, _, rfl, .inr (SqT.of h10), fun r hr0 => ⟨by decide, fun fd hfd => ⟨_, _, rfl, ?_⟩⟩⟩
  have s1 := same_new (o := .lst (xs.map V.int)) hr0
  have s2 := Same.new (o := .lst []) s1 hfd
  have nf : r ≠ fd := fun e => by rw [← e, upd_same] at hfd; cases hfd
  have f0 : H fd = none := new_of s1 hfd
  have r0 : H r = none := hr0
  have er : upd (upd H r (.lst (xs.map V.int))) fd (.lst []) r = some (.lst (xs.map V.int)) := by
    rw [upd_ne nf]
    exact upd_same
  have ef : upd (upd H r (.lst (xs.map V.int))) fd (.lst []) fd = some (.lst (([] : List Int).map V.int)) := upd_same
  generalize upd (upd H r (.lst (xs.map V.int))) fd (.lst []) = H0 at *
  show tSeq _ _ _ [some (.ref p), some (.ref q), some (.ref r), some (.ref fd), none, none, none, none, none] H0
  refine ⟨fun m σ H' => ∃ (rs fs : List Int) (z4 z5 z6 z7 z8 : Option V), σ = [some (.ref p), some (.ref q), some (.ref r), some (.ref fd), z4, z5, z6, z7, z8] ∧ Same H H' ∧ H' r = some (.lst (rs.map V.int)) ∧ H' fd = some (.lst (fs.map V.int)) ∧ divN ys m rs = true ∧ fs.length + m ≤ 20, ⟨20, xs, [], none, none, none, none, none, rfl, s2, er, ef, b4, by decide⟩, ?_⟩
  rintro m σ H1 ⟨rs, fs, z4, z5, z6, z7, z8, rfl, s3, e1, e2, ok1, lf⟩
  have h21 := s3 _ _ h20
  have lr' : (rs.map V.int).length = rs.length := List.length_map ..
  have ly' : (ys.map V.int).length = ys.length := List.length_map ..
  refine ⟨_, rfl, r, _, rfl, .inl (SqL.of e1), _, rfl, q, _, rfl, .inr (SqT.of h21), _, _, rfl, rfl, _, rfl, ?_⟩
  by_cases hlt : rs.length < ys.length
  · rw [decide_eq_false (show ¬ ((((rs.map V.int).length : Nat) : Int) ≥ (((ys.map V.int).length : Nat) : Int)) by rw [lr', ly']; omega)]
    have an : (rs.any fun x => x != 0) = true := by
      cases m with
      | zero => exact (Bool.and_eq_true_iff.mp ok1).2
      | succ m =>
        rcases Bool.or_eq_true_iff.mp ok1 with z | z
        · exact (Bool.and_eq_true_iff.mp z).2
        · have z1 := (Bool.and_eq_true_iff.mp (Bool.and_eq_true_iff.mp (Bool.and_eq_true_iff.mp (Bool.and_eq_true_iff.mp z).1).1).1).1
          exact absurd (of_decide_eq_true z1) (by omega)
    refine iteF ⟨_, rfl, r, rs, rfl, SqL.of e1, _, rfl, ?_⟩
    rw [an]
    exact iteT (k _ _ s3 rfl)
  · rw [decide_eq_true (show ((((rs.map V.int).length : Nat) : Int) ≥ (((ys.map V.int).length : Nat) : Int)) by rw [lr', ly']; omega)]
    cases m with
    | zero => exact absurd (of_decide_eq_true (Bool.and_eq_true_iff.mp ok1).1) hlt
    | succ m =>
      have z : (decide (ys.length ≤ rs.length) && smB 4000 rs && decide (rs.length ≤ 1000) && smI 4000 (qD ys rs) && (!decide (rs.getLastD 0 % ys.getLastD 0 = 0) || divN ys m (nxD ys rs))) = true := by
        rcases Bool.or_eq_true_iff.mp ok1 with z | z
        · exact absurd (of_decide_eq_true (Bool.and_eq_true_iff.mp z).1) hlt
        · exact z
      obtain ⟨z, z5⟩ := Bool.and_eq_true_iff.mp z
      obtain ⟨z, z4⟩ := Bool.and_eq_true_iff.mp z
      obtain ⟨z, z3⟩ := Bool.and_eq_true_iff.mp z
      obtain ⟨z1, z2⟩ := Bool.and_eq_true_iff.mp z
      have lx : rs.length ≤ 1000 := of_decide_eq_true z3
      have sr := smB_ok (a := 4000) z2 (by decide)
      have sq := smI_ok (a := 400000) z4 (by decide)
      have l1 : 1 ≤ rs.length := by omega
      have dp : CDivP (rs.getLastD 0) (ys.getLastD 0) := divp_ok b0 (Nat.le_trans (PyProof.Rows.intBits_le (sr _ (last_mem l1))) (by omega))
      refine iteT ⟨_, rfl, _, rfl, r, _, _, _, rfl, rfl, SqL.of e1, at_lastD l1, _, rfl, _, rfl, q, _, _, _, rfl, rfl, SqT.of h21, at_lastD b1, _, _, rfl, dp, fun t ht => ?_⟩
      have t1 := same_new (o := .tup [.int (rs.getLastD 0 / ys.getLastD 0), .int (rs.getLastD 0 % ys.getLastD 0)]) ht
      have nt1 : r ≠ t := ne_of_none e1 ht
      have nt2 : fd ≠ t := ne_of_none e2 ht
      have s4 := s3.trans t1
      have e3 := (upd_ne (o := .tup [.int (rs.getLastD 0 / ys.getLastD 0), .int (rs.getLastD 0 % ys.getLastD 0)]) (H := H1) nt1).trans e1
      have e4 := (upd_ne (o := .tup [.int (rs.getLastD 0 / ys.getLastD 0), .int (rs.getLastD 0 % ys.getLastD 0)]) (H := H1) nt2).trans e2
      refine ⟨t, _, rfl, SqT.of upd_same, rfl, _, _, rfl, _, _, rfl, rfl, ?_⟩
      generalize upd H1 t (.tup [.int (rs.getLastD 0 / ys.getLastD 0), .int (rs.getLastD 0 % ys.getLastD 0)]) = H2 at *
      refine ⟨_, rfl, rfl, _, rfl, ?_⟩
      by_cases hz : rs.getLastD 0 % ys.getLastD 0 = 0
      · rw [decide_eq_true (show V.int (rs.getLastD 0 % ys.getLastD 0) = V.int 0 by rw [hz])]
        have okn : divN ys m (nxD ys rs) = true := by
          rw [decide_eq_true hz] at z5
          exact z5
        have n3 : fd ≠ r := fun e => nf e.symm
        refine iteF ⟨_, rfl, .inl ⟨rfl, _, SqL.of e4⟩, _, rfl, fd, _, _, rfl, rfl, e4, ?_, ?_⟩
        · rw [List.length_map]
          exact Nat.lt_of_le_of_lt (show fs.length ≤ 20 by omega) (by decide)
        have s5 : Same H (upd H2 fd (.lst (fs.map V.int ++ [V.int (rs.getLastD 0 / ys.getLastD 0)]))) := Same.put s4 f0
        have e5 : upd H2 fd (.lst (fs.map V.int ++ [V.int (rs.getLastD 0 / ys.getLastD 0)])) r = some (.lst (rs.map V.int)) := by
          rw [upd_ne nf]
          exact e3
        have e6 : upd H2 fd (.lst (fs.map V.int ++ [V.int (rs.getLastD 0 / ys.getLastD 0)])) fd = some (.lst ((fs ++ [rs.getLastD 0 / ys.getLastD 0]).map V.int)) := by
          rw [upd_same, List.map_append]
          rfl
        generalize upd H2 fd (.lst (fs.map V.int ++ [V.int (rs.getLastD 0 / ys.getLastD 0)])) = H3 at *
        have h23 := s5 _ _ h20
        refine ⟨_, rfl, r, _, rfl, .inl (SqL.of e5), _, rfl, q, _, rfl, .inr (SqT.of h23), _, _, rfl, rfl, ?_⟩
        have en : ((((rs.map V.int).length : Nat) : Int) - (((ys.map V.int).length : Nat) : Int)) = ((rs.length - ys.length : Nat) : Int) := by
          rw [lr', ly']
          omega
        show (tSeq _ _) _ [some (.ref p), some (.ref q), some (.ref r), some (.ref fd), some (.int (qD ys rs)), some (.int (rs.getLastD 0 % ys.getLastD 0)), some (.int ((((rs.map V.int).length : Nat) : Int) - (((ys.map V.int).length : Nat) : Int))), z7, z8] H3
        rw [en]
        refine ⟨_, rfl, q, _, rfl, SqT.of h23, for_enum (xs := ys.map V.int) (fun i σ H' => Same H H' ∧ H' r = some (.lst ((stG (fun o t => o - qD ys rs * t) ys (rs.length - ys.length) rs i).map V.int)) ∧ H' fd = some (.lst ((fs ++ [qD ys rs]).map V.int)) ∧ ∃ y z : Option V, σ = [some (.ref p), some (.ref q), some (.ref r), some (.ref fd), some (.int (qD ys rs)), some (.int (rs.getLastD 0 % ys.getLastD 0)), some (.int ((rs.length - ys.length : Nat) : Int)), y, z]) ⟨s5, e5, e6, _, _, rfl⟩ (fun i σ H' _ e => SqT.of (e.1 _ _ h20)) ?_ ?_⟩
        · rintro i x σ H4 hx ⟨s6, e7, e8, y, z, rfl⟩ T hT
          obtain ⟨b, hb, rfl⟩ := at_map hx
          have hi := lt_of_at hb
          have s7 := Same.new (o := .tup [.int (i : Nat), .int b]) s6 hT
          have nT : r ≠ T := ne_of_none e7 hT
          have nT2 : fd ≠ T := ne_of_none e8 hT
          have e9 : upd H4 T (.tup [.int (i : Nat), .int b]) r = _ := (upd_ne nT).trans e7
          have e10 : upd H4 T (.tup [.int (i : Nat), .int b]) fd = _ := (upd_ne nT2).trans e8
          have li : i + (rs.length - ys.length) < (stG (fun o t => o - qD ys rs * t) ys (rs.length - ys.length) rs i).length := by
            rw [stG_len]
            omega
          have ei : (((rs.length - ys.length : Nat) : Int) + (i : Int)) = ((i + (rs.length - ys.length) : Nat) : Int) := by omega
          refine ⟨T, _, rfl, SqT.of upd_same, rfl, _, _, rfl, _, _, rfl, rfl, _, rfl, _, rfl, _, rfl, _, _, rfl, rfl, r, _, _, V.int ((stG (fun o t => o - qD ys rs * t) ys (rs.length - ys.length) rs i).getD (i + (rs.length - ys.length)) 0), rfl, rfl, SqL.of e9, by rw [ei]; exact atI_nat (getD_map li), ?_⟩
          refine ⟨_, rfl, _, rfl, _, _, rfl, rfl, cm sq (sy b (List.mem_of_getElem? hb)), _, _, rfl, rfl, r, _, _, i + (rs.length - ys.length), rfl, rfl, e9, by rw [ei]; exact ixN_nat (by rw [List.length_map]; exact li), ?_⟩
          refine ⟨Same.put s7 r0, ?_, ?_, _, _, rfl⟩
          · rw [upd_same, set_map]
            show some (HO.lst _) = some (HO.lst (List.map V.int (List.set _ _ _)))
            rw [getD_of hb]
          · rw [upd_ne n3]
            exact e10
        · rintro σ H4 ⟨s6, e7, e8, y, z, rfl⟩
          rw [ly'] at e7
          refine ⟨_, rfl, .inl ⟨rfl, _, SqL.of e7⟩, r, _, V.int ((stG (fun o t => o - qD ys rs * t) ys (rs.length - ys.length) rs ys.length).getD (rs.length - 1) 0), rfl, rfl, e7, ?_, ?_⟩
          · rw [List.length_map, stG_len]
            exact getD_map (by rw [stG_len]; omega)
          · refine ⟨m, Nat.lt_succ_self m, nxD ys rs, fs ++ [qD ys rs], _, _, _, _, _, rfl, Same.put s6 r0, ?_, ?_, okn, ?_⟩
            · rw [upd_same, ← List.map_dropLast]
              rfl
            · rw [upd_ne n3]
              exact e8
            · rw [List.length_append, List.length_singleton]
              omega
      · rw [decide_eq_false (show ¬ V.int (rs.getLastD 0 % ys.getLastD 0) = V.int 0 from fun q => hz (V.int.inj q))]
        exact iteT (k _ _ s4 rfl)
end
end Xq
/-! middles; quadratic_factor, where there is none. -/
namespace Xq
open PySem PySem.Spec PyProof.Rows L2
def mLo (xs : List Int) (f : Int) : Int := (xs.getD 0 0).fdiv f
def mHi (xs : List Int) (l : Int) : Int := (xs.getLastD 0).fdiv l
/-- what middles tells -/
def midL (xs : List Int) (f l : Int) : List Int :=
  if xs.length = 5 then wrL (f * (xs.getD 2 0 - f * mHi xs l - l * mLo xs f)) (-(xs.getD 1 0)) (mLo xs f)
  else wrL (f * (l * (xs.getD 2 0 - l * mLo xs f) - f * xs.getD 4 0)) (f * f * mHi xs l - l * xs.getD 1 0) (l * mLo xs f)
def okMid (xs : List Int) (f l : Int) : Bool :=
  decide (5 ≤ xs.length) && decide (xs.length ≤ 1000) && smB 4000 xs && smI 4000 f && smI 4000 l && !decide (f = 0) && !decide (l = 0) && smI 4000 (mLo xs f) && smI 4000 (mHi xs l) &&
  if xs.length = 5 then smI 4000 (xs.getD 2 0 - f * mHi xs l - l * mLo xs f) && okWr (f * (xs.getD 2 0 - f * mHi xs l - l * mLo xs f)) (-(xs.getD 1 0)) (mLo xs f)
  else smI 4000 (xs.getD 2 0 - l * mLo xs f) && smI 4000 (l * (xs.getD 2 0 - l * mLo xs f) - f * xs.getD 4 0) && okWr (f * (l * (xs.getD 2 0 - l * mLo xs f) - f * xs.getD 4 0)) (f * f * mHi xs l - l * xs.getD 1 0) (l * mLo xs f)
/-- no factor of degree 2 -/
def okQu (xs : List Int) : Bool := decide (5 ≤ xs.length) && decide (xs.length ≤ 1000) && decide ((xs.getD 0 0).natAbs ≤ 1000) && decide ((xs.getLastD 0).natAbs ≤ 1000) &&
  (dvL (xs.getD 0 0)).all fun s => (dvL (xs.getLastD 0)).all fun l => [s, -s].all fun f => okMid xs f l && (midL xs f l).all fun m => okDv xs [f, m, l]
theorem divx_ok {i j : Int} (h : ¬ j = 0) (hs : Sm 4000 j) : CDivX i j := ⟨h, Nat.lt_of_lt_of_le (log_lt hs (by decide)) (by decide)⟩
theorem getD_sm {xs : List Int} {n i : Nat} (h : ∀ x ∈ xs, Sm n x) (hi : i < xs.length) : Sm n (xs.getD i 0) := by
  rw [List.getD_eq_getElem?_getD, List.getElem?_eq_getElem hi]
  exact h _ (List.getElem_mem hi)
section
variable {P : Program} {w : World} {K : PySem.W.Frag} {mg : Str → Option Value} {base : Heap}
abbrev nMi : List Str := ["terms", "first", "last", "lowest", "highest", "constant"]
theorem g58 : FnScope nMi ["terms", "first", "last"] (defScope (top 50)) := (⟨rfl, rfl, rfl, by decide +kernel, rfl, by decide +kernel, by decide +kernel⟩)
abbrev spMidG : Sp := Prm (α := Addr × List Int × Int × Int) (fun ⟨p, xs, f, l⟩ => [.ref p, .int f, .int l]) (fun ⟨p, xs, f, l⟩ H => TI H p xs ∧ okMid xs f l = true) (fun ⟨p, xs, f, l⟩ H v H' => ∃ q, v = .ref q ∧ LI H' q (midL xs f l))
theorem c_midG (D : Df K mg "middles" (top 50)) (B : Bl mg) (CW : Cal P w K mg base 1 "whole_roots" ["constant", "linear", "square"] spWrG) : Cal P w K mg base 2 "middles" ["terms", "first", "last"] spMidG := by
  refine mkC D g58 (fun _ _ _ _ _ _ us hl => match us, hl with | [_, _, _], _ => rfl) (fun _ => rfl) (fun f cdv A outer s H a Q E hr h k => ?_)
  obtain ⟨p, xs, c, l⟩ := a
  obtain ⟨h, ok⟩ := h
  have h0 : H p = some (.tup (xs.map V.int)) := h
  have k : ∀ v H', Same H H' → (∃ q, v = .ref q ∧ LI H' q (midL xs c l)) → Q v H' := k
  have ok : okMid xs c l = true := ok
  unfold okMid at ok
  simp only [Bool.and_eq_true, decide_eq_true_eq, Bool.not_eq_true', decide_eq_false_iff_not] at ok
  obtain ⟨⟨⟨⟨⟨⟨⟨⟨⟨l5, l1⟩, bx⟩, bc⟩, bl⟩, nc⟩, nl⟩, blo⟩, bhi⟩, ok⟩ := ok
  have sx := smB_ok (a := 4000) bx (by decide)
  have sc := smI_ok (a := 4000) bc (by decide)
  have sl := smI_ok (a := 4000) bl (by decide)
  have slo := smI_ok (a := 4000) blo (by decide)
  have shi := smI_ok (a := 4000) bhi (by decide)
  refine ⟨_, pss_cons (ps_par (i := 3) (j := 4) rfl g58.nd rfl rfl (by decide) rfl rfl (pa_cons (pe_op op_fdivX ((pe_ix ix_tup (pv 0) pe_int (fun _ _ => rfl))) (pv 1)) (pa_cons (pe_op op_fdivX ((pe_ix ix_tup (pv 0) (pe_un un_neg pe_int) (fun _ _ => rfl))) (pv 2)) pa_nil)) rfl)
    (pss_cons (ps_if ((pt_cmpR op_eq ((pe_callB call_len_seq (by rfl) (Bl.len_ B) PySem.boot_len (pa_cons (pv 0) pa_nil))) pe_int (nomark _)))
      (pss_cons ((ps_set (i := 5) (FnScope.nd g58) rfl (Or.inl rfl) (pe_op op_mulW (pv 1) (pe_op op_sub (pe_op op_sub ((pe_ix ix_tup (pv 0) pe_int (fun _ _ => rfl))) (pe_op op_mulW (pv 1) (pv 4))) (pe_op op_mulW (pv 2) (pv 3))))))
      (pss_one (ps_ret (pe_cl CW hr (pa_cons (pv 5) (pa_cons (pe_un un_neg ((pe_ix ix_tup (pv 0) pe_int (fun _ _ => rfl)))) (pa_cons (pv 3) pa_nil))))))) pss_nil)
    (pss_cons ((ps_set (i := 5) (FnScope.nd g58) rfl (Or.inl rfl) (pe_op op_mulW (pv 1) (pe_op op_sub (pe_op op_mulW (pv 2) (pe_op op_sub ((pe_ix ix_tup (pv 0) pe_int (fun _ _ => rfl))) (pe_op op_mulW (pv 2) (pv 3)))) (pe_op op_mulW (pv 1) ((pe_ix ix_tup (pv 0) pe_int (fun _ _ => rfl))))))))
    (pss_one (ps_ret (pe_cl CW hr (pa_cons (pv 5) (pa_cons (pe_op op_sub (pe_op op_mulW (pe_op op_mulW (pv 1) (pv 1)) (pv 4)) (pe_op op_mulW (pv 2) ((pe_ix ix_tup (pv 0) pe_int (fun _ _ => rfl))))) (pa_cons (pe_op op_mulW (pv 2) (pv 3)) pa_nil)))))))), ?_⟩
  refine ⟨_, rfl, p, _, _, _, rfl, rfl, SqT.of h0, atI_nat (j := 0) (getD_map (by omega)), _, rfl, _, _, rfl, rfl, divx_ok nc sc, ?_⟩
  refine ⟨_, rfl, _, rfl, p, _, _, _, rfl, rfl, SqT.of h0, at_lastD (by omega), _, rfl, _, _, rfl, rfl, divx_ok nl sl, _, _, rfl, ?_⟩
  show (tSeq _ _) _ [some (.ref p), some (.int c), some (.int l), some (.int (mLo xs c)), some (.int (mHi xs l)), none] H
  have lx' : (xs.map V.int).length = xs.length := List.length_map ..
  refine ⟨_, rfl, p, _, rfl, .inr (SqT.of h0), rfl, _, rfl, ?_⟩
  by_cases e5 : xs.length = 5
  · rw [if_pos e5] at ok
    rw [decide_eq_true (show V.int (((xs.map V.int).length : Nat) : Int) = V.int 5 by rw [lx', e5]; rfl)]
    obtain ⟨o1, o2⟩ := Bool.and_eq_true_iff.mp ok
    have s1 := smI_ok (a := 4000) o1 (by decide)
    refine iteT ?_
    refine ⟨_, rfl, _, rfl, p, _, _, _, rfl, rfl, SqT.of h0, atI_nat (j := 2) (getD_map (by omega)), _, rfl, _, rfl, _, _, rfl, rfl, cm sc shi, _, _, rfl, rfl, _, rfl, _, rfl, _, _, rfl, rfl, cm sl slo, _, _, rfl, rfl, _, _, rfl, rfl, cm sc s1, ?_⟩
    refine ⟨_, rfl, _, rfl, p, _, _, _, rfl, rfl, SqT.of h0, atI_nat (j := 1) (getD_map (by omega)), _, rfl, _, rfl, ?_⟩
    refine ⟨(_, _, _), rfl, o2, ?_⟩
    rintro _ H1 s1 ⟨q, rfl, hq⟩
    refine k _ _ s1 ⟨q, rfl, ?_⟩
    unfold midL
    rw [if_pos e5]
    exact hq
  · rw [if_neg e5] at ok
    rw [decide_eq_false (show ¬ V.int (((xs.map V.int).length : Nat) : Int) = V.int 5 from fun q => e5 (by have := V.int.inj q; rw [lx'] at this; omega))]
    obtain ⟨o, o3⟩ := Bool.and_eq_true_iff.mp ok
    obtain ⟨o1, o2⟩ := Bool.and_eq_true_iff.mp o
    have s1 := smI_ok (a := 4000) o1 (by decide)
    have s2 := smI_ok (a := 4000) o2 (by decide)
    refine iteF ?_
    have scc : Sm 8000 (c * c) := sm_mul sc sc
    refine ⟨_, rfl, _, rfl, _, rfl, p, _, _, _, rfl, rfl, SqT.of h0, atI_nat (j := 2) (getD_map (by omega)), _, rfl, _, rfl, _, _, rfl, rfl, cm sl slo, _, _, rfl, rfl, _, _, rfl, rfl, cm sl s1, ?_⟩
    refine ⟨_, rfl, _, rfl, p, _, _, _, rfl, rfl, SqT.of h0, atI_nat (j := 4) (getD_map (by omega)), _, _, rfl, rfl, cm sc (getD_sm sx (by omega)), _, _, rfl, rfl, _, _, rfl, rfl, cm sc s2, ?_⟩
    refine ⟨_, rfl, _, rfl, _, rfl, _, _, rfl, rfl, cm sc sc, _, rfl, _, _, rfl, rfl, cm scc shi, _, rfl, _, rfl, p, _, _, _, rfl, rfl, SqT.of h0, atI_nat (j := 1) (getD_map (by omega)), _, _, rfl, rfl, cm sl (getD_sm sx (by omega)), _, _, rfl, rfl, ?_⟩
    refine ⟨_, rfl, _, rfl, _, _, rfl, rfl, cm sl slo, ?_⟩
    refine ⟨(_, _, _), rfl, o3, ?_⟩
    rintro _ H1 s1 ⟨q, rfl, hq⟩
    refine k _ _ s1 ⟨q, rfl, ?_⟩
    unfold midL
    rw [if_neg e5]
    exact hq
abbrev nQu : List Str := ["terms", "lasts", "size", "last", "first", "middle", "factor"]
theorem g57 : FnScope nQu ["terms"] (defScope (top 49)) := (⟨rfl, rfl, rfl, by decide +kernel, rfl, by decide +kernel, by decide +kernel⟩)
abbrev spQuG : Sp := Prm (α := Addr × List Int) (fun a => [.ref a.1]) (fun a H => TI H a.1 a.2 ∧ okQu a.2 = true) (fun a H v H' => v = .non)
theorem c_quG (D : Df K mg "quadratic_factor" (top 49)) (B : Bl mg) (CD : Cal P w K mg base 1 "divisors" ["number"] spDivG) (CM : Cal P w K mg base 2 "middles" ["terms", "first", "last"] spMidG) (CV : Cal P w K mg base 1 "divided" ["one", "other"] spDvG) : Cal P w K mg base 3 "quadratic_factor" ["terms"] spQuG := by
  refine mkC D g57 (fun _ _ _ _ _ _ us hl => match us, hl with | [_], _ => rfl) (fun _ => rfl) (fun f cdv A outer s H a Q E hr h k => ?_)
  obtain ⟨p, xs⟩ := a
  obtain ⟨h, ok⟩ := h
  have h : TI H p xs := h
  have h0 : H p = some (.tup (xs.map V.int)) := h
  have k : ∀ v H', Same H H' → v = .non → Q v H' := k
  have ok : okQu xs = true := ok
  unfold okQu at ok
  simp only [Bool.and_eq_true, decide_eq_true_eq] at ok
  obtain ⟨⟨⟨⟨l5, l1⟩, d0⟩, dl⟩, al⟩ := ok
  refine ⟨_, pss_cons ((ps_set (i := 1) (FnScope.nd g57) rfl (Or.inl rfl) (pe_cl CD hr (pa_cons ((pe_ix ix_tup (pv 0) (pe_un un_neg pe_int) (fun _ _ => rfl))) pa_nil))))
    (pss_cons (ps_for PassesOwn.never rfl (pi_list (pe_cl CD hr (pa_cons ((pe_ix ix_tup (pv 0) pe_int (fun _ _ => rfl))) pa_nil))) ((pg_name (i := 2) (FnScope.nd g57) rfl (Or.inl rfl)))
      (pss_one (ps_for PassesOwn.never rfl (pi_list (pv 1)) ((pg_name (i := 3) (FnScope.nd g57) rfl (Or.inl rfl)))
        (pss_one (ps_for PassesOwn.never rfl (pi_tup (pe_tup (pa_cons (pv 2) (pa_cons (pe_un un_neg (pv 2)) pa_nil)))) ((pg_name (i := 4) (FnScope.nd g57) rfl (Or.inl rfl)))
          (pss_one (ps_for PassesOwn.never rfl (pi_list (pe_cl CM hr (pa_cons (pv 0) (pa_cons (pv 4) (pa_cons (pv 3) pa_nil))))) ((pg_name (i := 5) (FnScope.nd g57) rfl (Or.inl rfl)))
            (pss_cons ((ps_set (i := 6) (FnScope.nd g57) rfl (Or.inl rfl) (pe_tup (pa_cons (pv 4) (pa_cons (pv 5) (pa_cons (pv 3) pa_nil))))))
            (pss_one (ps_if (pt_cmpR op_notN (pe_cl CV hr (pa_cons (pv 0) (pa_cons (pv 6) pa_nil))) pe_non (nomark _)) pss_nv pss_nil))))))))))
    (pss_one (ps_ret pe_non))), ?_⟩
  refine ⟨_, rfl, _, rfl, p, _, _, _, rfl, rfl, SqT.of h0, at_lastD (by omega), xs.getLastD 0, rfl, dl, ?_⟩
  rintro _ H1 s1 ⟨bo, rfl, hbo⟩
  have hbo : H1 bo = some (.lst ((dvL (xs.getLastD 0)).map V.int)) := hbo
  have h1 := s1 _ _ h0
  refine ⟨_, rfl, p, _, _, _, rfl, rfl, SqT.of h1, atI_nat (j := 0) (getD_map (by omega)), xs.getD 0 0, rfl, d0, ?_⟩
  rintro _ H2 s2 ⟨to, rfl, hto⟩
  have hto : H2 to = some (.lst ((dvL (xs.getD 0 0)).map V.int)) := hto
  have hbo2 := s2 _ _ hbo
  have s12 := s1.trans s2
  refine ⟨to, rfl, ⟨_, SqL.of hto⟩, for_list (xs := (dvL (xs.getD 0 0)).map V.int) (fun i σ H' => Same H2 H' ∧ ∃ z2 z3 z4 z5 z6 : Option V, σ = [some (.ref p), some (.ref bo), z2, z3, z4, z5, z6]) ⟨Same.refl _, none, none, none, none, none, rfl⟩ (fun i σ H' _ e => SqL.of (e.1 _ _ hto)) ?_ ?_⟩
  · rintro i x σ H3 hx ⟨s3, z2, z3, z4, z5, z6, rfl⟩
    obtain ⟨t, ht, rfl⟩ := at_map hx
    have alt := List.all_eq_true.mp al t (List.mem_of_getElem? ht)
    have hbo3 := s3 _ _ hbo2
    refine ⟨_, rfl, bo, rfl, ⟨_, SqL.of hbo3⟩, for_list (xs := (dvL (xs.getLastD 0)).map V.int) (fun i σ H' => Same H2 H' ∧ ∃ z3 z4 z5 z6 : Option V, σ = [some (.ref p), some (.ref bo), some (.int t), z3, z4, z5, z6]) ⟨s3, z3, z4, z5, z6, rfl⟩ (fun i σ H' _ e => SqL.of (e.1 _ _ hbo2)) ?_ ?_⟩
    · rintro j y σ H4 hy ⟨s4, z3, z4, z5, z6, rfl⟩
      obtain ⟨b, hb, rfl⟩ := at_map hy
      have alb := List.all_eq_true.mp alt b (List.mem_of_getElem? hb)
      refine ⟨_, rfl, _, rfl, t, rfl, (by show 2 ≤ sizeLine; decide), fun a na => ?_⟩
      have t1 := same_new (o := .tup [.int t, .int (-t)]) na
      have ha : upd H4 a (.tup [.int t, .int (-t)]) a = some (.tup ([t, -t].map V.int)) := upd_same
      generalize upd H4 a (.tup [.int t, .int (-t)]) = H5 at *
      refine ⟨a, rfl, ⟨_, SqT.of ha⟩, for_tup (xs := [t, -t].map V.int) (fun i σ H' => Same H5 H' ∧ ∃ z4 z5 z6 : Option V, σ = [some (.ref p), some (.ref bo), some (.int t), some (.int b), z4, z5, z6]) ⟨Same.refl _, z4, z5, z6, rfl⟩ (fun i σ H' _ e => SqT.of (e.1 _ _ ha)) ?_ ?_⟩
      · rintro i2 x2 σ H6 hx2 ⟨s6, z4, z5, z6, rfl⟩
        obtain ⟨f1, hf1, rfl⟩ := at_map hx2
        have alf := List.all_eq_true.mp alb f1 (List.mem_of_getElem? hf1)
        obtain ⟨om, alm⟩ := Bool.and_eq_true_iff.mp alf
        have s7 : Same H H6 := s12.trans (s4.trans (t1.trans s6))
        refine ⟨_, rfl, _, rfl, _, rfl, (p, xs, f1, b), rfl, ⟨TI.same s7 h, om⟩, ?_⟩
        rintro _ H7 s8 ⟨mo, rfl, hmo⟩
        have hmo : H7 mo = some (.lst ((midL xs f1 b).map V.int)) := hmo
        refine ⟨mo, rfl, ⟨_, SqL.of hmo⟩, for_list (xs := (midL xs f1 b).map V.int) (fun i σ H' => Same H7 H' ∧ ∃ z5 z6 : Option V, σ = [some (.ref p), some (.ref bo), some (.int t), some (.int b), some (.int f1), z5, z6]) ⟨Same.refl _, z5, z6, rfl⟩ (fun i σ H' _ e => SqL.of (e.1 _ _ hmo)) ?_ ?_⟩
        · rintro i3 x3 σ H8 hx3 ⟨s9, z5, z6, rfl⟩
          obtain ⟨m1, hm1, rfl⟩ := at_map hx3
          have odv := List.all_eq_true.mp alm m1 (List.mem_of_getElem? hm1)
          refine ⟨_, rfl, _, rfl, _, rfl, (by show 3 ≤ sizeLine; decide), fun fa nfa => ?_⟩
          have u1 := same_new (o := .tup [.int f1, .int m1, .int b]) nfa
          have hfa : upd H8 fa (.tup [.int f1, .int m1, .int b]) fa = some (.tup ([f1, m1, b].map V.int)) := upd_same
          generalize upd H8 fa (.tup [.int f1, .int m1, .int b]) = H9 at *
          have s10 : Same H H9 := s7.trans (s8.trans (s9.trans u1))
          refine ⟨_, rfl, _, rfl, (p, fa, xs, [f1, m1, b]), rfl, ⟨TI.same s10 h, hfa, odv⟩, ?_⟩
          rintro _ HA sA rfl
          exact ⟨rfl, _, rfl, iteF ⟨s9.trans (u1.trans sA), _, _, rfl⟩⟩
        · rintro σ H8 ⟨s9, z5, z6, rfl⟩
          exact ⟨s6.trans (s8.trans s9), _, _, _, rfl⟩
      · rintro σ H6 ⟨s6, z4, z5, z6, rfl⟩
        exact ⟨s4.trans (t1.trans s6), _, _, _, _, rfl⟩
    · rintro σ H4 ⟨s4, z3, z4, z5, z6, rfl⟩
      exact ⟨s4, _, _, _, _, _, rfl⟩
  · rintro σ H3 ⟨s3, z2, z3, z4, z5, z6, rfl⟩
    exact k _ _ (s12.trans s3) rfl
end
end Xq
/-! wrong_term, least_factor, is_least of any equation. -/
namespace Xq
open PySem PySem.Spec PyProof.Rows L2
/-- an equation's terms -/
def okE (xs : List Int) : Bool := decide (2 ≤ xs.length) && decide (xs.length ≤ 6) && (xs.all fun x => decide (-1000 ≤ x) && decide (x ≤ 1000)) && !decide (xs.getLastD 0 = 0)
def okLf (xs : List Int) : Bool := decide (xs.length = 2) || (okLin xs && (decide (xs.length < 5) || okQu xs))
def okLe (xs : List Int) : Bool := decide (1 ≤ xs.length) && decide (xs.length ≤ 1000) && decide (0 ≤ xs.getLastD 0) && decide (gcdL xs = 1) && okLf xs && SeqAt.shaped (dT xs) && (dT xs).canLay0
section
variable {P : Program} {w : World} {K : PySem.W.Frag} {mg : Str → Option Value} {base : Heap}
abbrev spWrongG : Sp := Prm (α := Addr × List Int) (fun a => [.ref a.1]) (fun a H => TI H a.1 a.2 ∧ okE a.2 = true) (fun _ H v H' => v = .non)
theorem getD_last {xs : List Int} (h : 1 ≤ xs.length) : xs.getD (xs.length - 1) 0 = xs.getLastD 0 := by
  rcases List.eq_nil_or_concat xs with e | ⟨l, z, e⟩
  · rw [e] at h
    exact absurd h (by decide)
  · rw [e, List.concat_eq_append]
    simp
theorem c_wrongG (D : Df K mg "wrong_term" (top 19)) (B : Bl mg) (C : Cal P w K mg base 2 "is_term" ["value"] spIsTerm) : Cal P w K mg base 3 "wrong_term" ["equation"] spWrongG := by
  refine mkC D s22 (fun _ _ _ _ _ _ us hl => match us, hl with | [_], _ => rfl) (fun _ => rfl) (fun f cdv A outer s H a Q E hr h k => ?_)
  obtain ⟨p, xs⟩ := a
  obtain ⟨h, ok⟩ := h
  have k : ∀ v H', Same H H' → v = .non → Q v H' := k
  have h0 : H p = some (.tup (xs.map V.int)) := h
  have ok : okE xs = true := ok
  unfold okE at ok
  simp only [Bool.and_eq_true, decide_eq_true_eq, Bool.not_eq_true', decide_eq_false_iff_not] at ok
  obtain ⟨⟨⟨l2, l6⟩, al⟩, nz⟩ := ok
  obtain ⟨t, ht⟩ := B.deg_
  refine ⟨_, pss_cons (ps_for PassesOwn.never rfl (pi_enumT (by rfl) B.enumerate_ (pa_cons (pv 0) pa_nil)) (pg_tup rfl (pgs_cons ((pg_name (i := 1) (FnScope.nd s22) rfl (Or.inl rfl))) (pgs_cons ((pg_name (i := 2) (FnScope.nd s22) rfl (Or.inl rfl))) pgs_nil)))
      (pss_one (ps_if (PW.pt (pw_or ((pt_cmpR op_gt (pv 1) (pe_glob (v := .int 5) (by rfl) ht ⟨_, rfl⟩) (nomark _))) (pw_or1 (pt_not (pt_val (pe_cl C hr (pa_cons (pv 2) pa_nil))))))) pss_nv pss_nil)))
    (pss_cons ((ps_set (i := 3) (FnScope.nd s22) rfl (Or.inl rfl) (pe_op op_sub ((pe_callB call_len_seq (by rfl) (Bl.len_ B) PySem.boot_len (pa_cons (pv 0) pa_nil))) pe_int)))
    (pss_one (ps_ret (pe_ifExp ((pt_cmpR op_eq ((pe_ix ix_tup (pv 0) (pv 3) (fun _ _ => rfl))) pe_int (nomark _))) pe_nv pe_non)))), ?_⟩
  have lx' : (xs.map V.int).length = xs.length := List.length_map ..
  refine ⟨_, rfl, p, _, rfl, SqT.of h0, for_enum (xs := xs.map V.int) (fun i σ H' => Same H H' ∧ ∃ y z u : Option V, σ = [some (.ref p), y, z, u]) ⟨Same.refl _, none, none, none, rfl⟩ (fun i σ H' _ e => SqT.of (e.1 _ _ h0)) ?_ ?_⟩
  · rintro i x σ H3 hx ⟨s3, y, z, u, rfl⟩ T hT
    obtain ⟨b, hb, rfl⟩ := at_map hx
    have hi := lt_of_at hb
    have s4 := Same.new (o := .tup [.int (i : Nat), .int b]) s3 hT
    have bb := List.all_eq_true.mp al b (List.mem_of_getElem? hb)
    simp only [Bool.and_eq_true, decide_eq_true_eq] at bb
    refine ⟨T, _, rfl, SqT.of upd_same, rfl, _, _, rfl, _, _, rfl, rfl, ?_⟩
    refine ⟨_, rfl, _, _, rfl, rfl, _, rfl, ?_⟩
    rw [decide_eq_false (show ¬ ((i : Int) > 5) by omega)]
    refine iteF ⟨_, rfl, b, rfl, bb, ?_⟩
    rintro _ _ - ⟨rfl, rfl⟩
    exact ⟨_, rfl, iteF ⟨s4, _, _, _, rfl⟩⟩
  · rintro σ H3 ⟨s3, y, z, u, rfl⟩
    have h2 := s3 _ _ h0
    have en : ((((xs.map V.int).length : Nat) : Int) - 1) = ((xs.length - 1 : Nat) : Int) := by
      rw [lx']
      omega
    refine ⟨_, rfl, p, _, rfl, .inr (SqT.of h2), _, _, rfl, rfl, ?_⟩
    refine ⟨_, rfl, _, rfl, p, _, _, _, rfl, rfl, SqT.of h2, by rw [en]; exact atI_nat (getD_map (show xs.length - 1 < xs.length by omega)), rfl, _, rfl, ?_⟩
    rw [getD_last (by omega), decide_eq_false (show ¬ V.int (xs.getLastD 0) = V.int 0 from fun q => nz (V.int.inj q))]
    exact iteF (k _ _ s3 rfl)
theorem g54 : FnScope ["terms", "found"] ["terms"] (defScope (top 46)) := (⟨rfl, rfl, rfl, by decide +kernel, rfl, by decide +kernel, by decide +kernel⟩)
abbrev spLfG : Sp := Prm (α := Addr × List Int) (fun a => [.ref a.1]) (fun a H => TI H a.1 a.2 ∧ okLf a.2 = true) (fun a H v H' => v = .ref a.1)
theorem c_lfG (D : Df K mg "least_factor" (top 46)) (B : Bl mg) (C : Cal P w K mg base 2 "linear_factor" ["terms"] spLinG) (CQ : Cal P w K mg base 3 "quadratic_factor" ["terms"] spQuG) : Cal P w K mg base 4 "least_factor" ["terms"] spLfG := by
  refine mkC D g54 (fun _ _ _ _ _ _ us hl => match us, hl with | [_], _ => rfl) (fun _ => rfl) (fun f cdv A outer s H a Q E hr h k => ?_)
  obtain ⟨p, xs⟩ := a
  obtain ⟨h, ok⟩ := h
  have h : TI H p xs := h
  have k : ∀ v H', Same H H' → v = .ref p → Q v H' := k
  have h0 : H p = some (.tup (xs.map V.int)) := h
  have ok : okLf xs = true := ok
  have lx' : (xs.map V.int).length = xs.length := List.length_map ..
  refine ⟨_, pss_cons (ps_if ((pt_cmpR op_eq ((pe_callB call_len_seq (by rfl) (Bl.len_ B) PySem.boot_len (pa_cons (pv 0) pa_nil))) pe_int (nomark _))) (pss_one (ps_ret (pv 0))) pss_nil)
    (pss_cons ((ps_set (i := 1) (FnScope.nd g54) rfl (Or.inl rfl) (pe_cl C hr (pa_cons (pv 0) pa_nil))))
    (pss_cons (ps_if (PW.pt (pw_and (pt_cmpR op_isN (pv 1) pe_non (nomark _)) (pw_and1 ((pt_cmpR op_ge ((pe_callB call_len_seq (by rfl) (Bl.len_ B) PySem.boot_len (pa_cons (pv 0) pa_nil))) pe_int (nomark _)))))) (pss_one ((ps_set (i := 1) (FnScope.nd g54) rfl (Or.inl rfl) (pe_cl CQ hr (pa_cons (pv 0) pa_nil))))) pss_nil)
    (pss_one (ps_ret (pe_ifExp (pt_cmpR op_isN (pv 1) pe_non (nomark _)) (pv 0) pe_nv))))), ?_⟩
  refine ⟨_, rfl, p, _, rfl, .inr (SqT.of h0), rfl, _, rfl, ?_⟩
  by_cases e2 : xs.length = 2
  · rw [decide_eq_true (show V.int (((xs.map V.int).length : Nat) : Int) = V.int 2 by rw [lx', e2]; rfl)]
    exact iteT ⟨_, rfl, k _ _ (Same.refl _) rfl⟩
  · rw [decide_eq_false (show ¬ V.int (((xs.map V.int).length : Nat) : Int) = V.int 2 from fun q => e2 (by have := V.int.inj q; rw [lx'] at this; omega))]
    unfold okLf at ok
    rw [decide_eq_false e2, Bool.false_or] at ok
    obtain ⟨o1, o2⟩ := Bool.and_eq_true_iff.mp ok
    refine iteF ⟨_, rfl, (p, xs), rfl, ⟨h, o1⟩, ?_⟩
    rintro _ H1 s1 rfl
    refine ⟨_, rfl, rfl, _, rfl, iteT ⟨_, rfl, p, _, rfl, .inr (SqT.of (s1 _ _ h0)), _, _, rfl, rfl, _, rfl, ?_⟩⟩
    by_cases e5 : xs.length < 5
    · rw [decide_eq_false (show ¬ ((((xs.map V.int).length : Nat) : Int) ≥ 5) by rw [lx']; omega)]
      exact iteF ⟨_, rfl, rfl, _, rfl, iteT ⟨_, rfl, k _ _ s1 rfl⟩⟩
    · rw [decide_eq_true (show ((((xs.map V.int).length : Nat) : Int) ≥ 5) by rw [lx']; omega)]
      rw [decide_eq_false e5, Bool.false_or] at o2
      refine iteT ⟨_, rfl, (p, xs), rfl, ⟨TI.same s1 h, o2⟩, ?_⟩
      rintro _ H2 s2 rfl
      exact ⟨_, rfl, rfl, _, rfl, iteT ⟨_, rfl, k _ _ (s1.trans s2) rfl⟩⟩
theorem g52 : FnScope ["equation"] ["equation"] (defScope (top 44)) := (⟨rfl, rfl, rfl, by decide +kernel, rfl, by decide +kernel, by decide +kernel⟩)
abbrev spLeG : Sp := Prm (α := Addr × List Int) (fun a => [.ref a.1]) (fun a H => TI H a.1 a.2 ∧ okLe a.2 = true) (fun a H v H' => v = .bl true)
theorem c_leastG (D : Df K mg "is_least" (top 44)) (CG : Cal P w K mg base 1 "common_divisor" ["terms"] spGcd) (CL : Cal P w K mg base 4 "least_factor" ["terms"] spLfG) : Cal P w K mg base 5 "is_least" ["equation"] spLeG := by
  refine mkC D g52 (fun _ _ _ _ _ _ us hl => match us, hl with | [_], _ => rfl) (fun _ => rfl) (fun f cdv A outer s H a Q E hr h k => ?_)
  obtain ⟨p, xs⟩ := a
  obtain ⟨h, ok⟩ := h
  have h : TI H p xs := h
  have h0 : H p = some (.tup (xs.map V.int)) := h
  have k : ∀ v H', Same H H' → v = .bl true → Q v H' := k
  have ok : okLe xs = true := ok
  unfold okLe at ok
  simp only [Bool.and_eq_true, decide_eq_true_eq] at ok
  obtain ⟨⟨⟨⟨⟨⟨l0, l1⟩, ps⟩, hg⟩, ol⟩, sh⟩, cl⟩ := ok
  have hu : (A.deeper (envOfC "is_least" (defScope (top 44)) s.heap.objs.size f cdv)).units + 64 < cLine := by have := hr.un; omega
  refine ⟨_, pss_cons (ps_if (PW.pt (pw_or ((pt_cmpR op_lt ((pe_ix ix_tup (pv 0) (pe_un un_neg pe_int) (fun _ _ => rfl))) pe_int (nomark _))) (pw_or1 ((pt_cmpR op_ne (pe_cl CG hr (pa_cons (pv 0) pa_nil)) pe_int (nomark _)))))) pss_nv pss_nil)
    (pss_one (ps_ret (pe_cmpR (op_eqD hu) (pe_cl CL hr (pa_cons (pv 0) pa_nil)) (pv 0) (nomark _)))), ?_⟩
  refine ⟨_, rfl, _, rfl, p, _, _, _, rfl, rfl, SqT.of h0, at_lastD l0, _, _, rfl, rfl, _, rfl, ?_⟩
  rw [decide_eq_false (show ¬ (xs.getLastD 0 < 0) by omega)]
  refine iteF ⟨_, rfl, (p, xs), rfl, .inr h, ?_⟩
  rintro _ _ - ⟨rfl, rfl⟩
  refine ⟨rfl, _, rfl, ?_⟩
  show (if (!decide (V.int ((gcdL xs : Nat) : Int) = V.int 1)) = true then _ else _)
  rw [hg]
  refine iteF ⟨_, rfl, (p, xs), rfl, ⟨h, ol⟩, ?_⟩
  rintro _ H1 s1 rfl
  have h1 := s1 _ _ h0
  refine ⟨_, rfl, dT xs, dT xs, .tup (SqT.of h1) (dp_ints xs), .tup (SqT.of h1) (dp_ints xs), sh, sh, k _ _ s1 ?_⟩
  rw [SeqAt.eqv_refl _ cl]
end
end Xq
namespace Xq
open PySem PySem.Spec PyProof.Rows L2
/-! ### texts of ints -/
/-- the text of an int -/
abbrev W (i : Int) : Str := Str.ofString (toString i)
theorem tlW_nat (n : Nat) : TL.tl (W (n : Int)) = TL.numL n := TL.tl_num n
theorem tlW_neg {i : Int} (h : i < 0) : TL.tl (W i) = 45 :: TL.numL i.natAbs := by
  obtain ⟨m, rfl⟩ : ∃ m : Nat, i = Int.negSucc m := by
    cases i with
    | ofNat k => exact absurd h (by have := Int.natCast_nonneg k; show ¬ ((k : Int) < 0); omega)
    | negSucc m => exact ⟨m, rfl⟩
  rw [TL.tl_ofString]
  have e : (toString (Int.negSucc m) : String) = "-" ++ Nat.repr (m + 1) := rfl
  rw [e, String.toList_append, List.map_append, Nat.toList_repr]
  rfl
theorem tlW (i : Int) : TL.tl (W i) = (if i < 0 then [45] else []) ++ TL.numL i.natAbs := by
  by_cases h : i < 0
  · rw [if_pos h, tlW_neg h]
    rfl
  · rw [if_neg h, List.nil_append]
    have e : i = ((i.natAbs : Nat) : Int) := by omega
    have q := tlW_nat i.natAbs
    rw [← e] at q
    exact q
theorem free32 (i : Int) : 32 ∉ TL.tl (W i) := int_text_free' 32 ⟨by decide, by decide⟩ i
theorem len4 {i : Int} (h : i.natAbs ≤ 1000) : (TL.numL i.natAbs).length ≤ 4 := TL.numL_len (by decide) (by omega)
/-- the digits of it -/
def Dg (i : Int) : Str := ⟨(TL.numL i.natAbs).toArray⟩
theorem rm_minus (i : Int) : Txt.removeprefix (W i) (Str.ofString "-") = Dg i := by
  have e1 : (Str.ofString "-").cps.toList = [45] := rfl
  have e2 : (Str.ofString "-").length = 1 := rfl
  unfold Txt.removeprefix
  rw [PySem.StrLaws.subAt_eq, e1, e2, List.drop_zero]
  by_cases h : i < 0
  · have q : (W i).cps.toList = 45 :: TL.numL i.natAbs := tlW_neg h
    rw [q]
    have e3 : (List.take 1 (45 :: TL.numL i.natAbs) == [45]) = true := by simp
    rw [e3, if_pos rfl]
    unfold Txt.affix
    have hl : (W i).length = (TL.numL i.natAbs).length + 1 := by
      rw [TL.len_tl, show TL.tl (W i) = _ from q]
      rfl
    rw [hl]
    have e4 : ((TL.numL i.natAbs).length + 1 - 1 == (TL.numL i.natAbs).length + 1) = false := by
      rw [beq_eq_false_iff_ne]
      omega
    show (if ((TL.numL i.natAbs).length + 1 - 1 == (TL.numL i.natAbs).length + 1) = true then _ else _) = _
    rw [e4, if_neg (by decide)]
    refine TL.ext_tl ?_
    rw [TL.tl_strSub, show TL.tl (W i) = _ from q]
    show List.take ((TL.numL i.natAbs).length + 1 - 1) (TL.numL i.natAbs) = TL.numL i.natAbs
    rw [Nat.add_sub_cancel, List.take_length]
  · have q : (W i).cps.toList = TL.numL i.natAbs := by
      have z := tlW i
      rw [if_neg h] at z
      exact z
    rw [q]
    have e3 : (List.take 1 (TL.numL i.natAbs) == [45]) = false := by
      have hn := TL.numL_ne i.natAbs
      have hf := TL.numL_free (n := i.natAbs) (s := 45) (.inl (by decide))
      cases e : TL.numL i.natAbs with
      | nil => exact absurd e hn
      | cons a r =>
        rw [e] at hf
        rw [beq_eq_false_iff_ne]
        intro z
        have z2 : a = 45 := by simpa using z
        exact hf (by rw [z2]; exact List.mem_cons_self)
    rw [e3, if_neg (by decide)]
    show W i = _
    exact TL.ext_tl q
theorem dg_ascii (i : Int) : Txt.isascii (Dg i) = true := by
  unfold Txt.isascii Dg
  rw [List.all_toArray, List.all_eq_true]
  intro c hc
  have h := TL.numL_digits _ c hc
  exact decide_eq_true (by omega)
theorem ten_digits : ∀ k, k < 10 → Unicode.isDigit (48 + k) = true := by decide +kernel
theorem dg_digit (i : Int) : Txt.isdigit (Dg i) = true := by
  unfold Txt.isdigit
  have hl : (Dg i).length > 0 := by
    rw [TL.len_tl]
    exact List.length_pos_iff.mpr (TL.numL_ne _)
  rw [decide_eq_true hl, Bool.true_and]
  unfold Dg
  rw [List.all_toArray, List.all_eq_true]
  intro c hc
  have h := TL.numL_digits _ c hc
  obtain ⟨k, rfl⟩ : ∃ k, c = 48 + k := ⟨c - 48, by omega⟩
  exact ten_digits k (by omega)
theorem dg_len {i : Int} (h : i.natAbs ≤ 1000) : (Dg i).length ≤ 4 := by
  rw [TL.len_tl]
  exact len4 h
theorem w_len {i : Int} (h : i.natAbs ≤ 1000) : (W i).length ≤ 5 := by
  rw [TL.len_tl, tlW]
  have q := len4 h
  rw [List.length_append]
  split
  · show 1 + _ ≤ 5
    omega
  · show 0 + _ ≤ 5
    omega
theorem w_int {i : Int} (h : i.natAbs ≤ 1000) : PySem.intText? (W i) = some i := by
  have hl := w_len h
  by_cases hi : i < 0
  · have e := PySem.intText_neg (x := W i) (cs := TL.numL i.natAbs) (tlW_neg hi) (TL.numL_digits _) (TL.numL_ne _) (by omega)
    rw [TL.numL_val] at e
    refine e.trans ?_
    congr 1
    omega
  · have e : i = ((i.natAbs : Nat) : Int) := by omega
    have q := TL.int_num (n := i.natAbs) (by have := len4 h; omega)
    rw [← e] at q
    exact q
theorem len1000 : (W 1000).length = 4 := by decide +kernel
end Xq
/-! integer_of; told_by of any shape. -/
namespace Xq
open PySem PySem.Spec PyProof.Rows L2
theorem cut3 (a b c : V) (l : List V) : cutV (a :: b :: c :: l) (some 3) none = l := by
  unfold cutV
  have e1 : HT.sIx (a :: b :: c :: l).length 0 (some 3) = 3 := by
    unfold HT.sIx
    simp
    try omega
  have e2 : HT.sIx (a :: b :: c :: l).length (a :: b :: c :: l).length none = l.length + 3 := rfl
  rw [e1, e2]
  simp
/-- the text t tells rank r of xs, and it is a shape -/
def okT (t : Str) (r : Int) (xs : List Int) : Bool := decide (Txt.split t (Str.ofString " ") = Str.ofString "root" :: W r :: Str.ofString "of" :: xs.map W) && decide (t.length ≤ 600) && decide (r.natAbs ≤ 1000) && okE xs && okLe xs && okS xs &&
  okUB (sturmL xs) && okChB (sturmL xs) 0 1 && okChB (sturmL xs) (reachL ((sturmL xs).headD [])) 1 && decide (upL (sturmL xs) 0 1 ≤ r) && decide (r < allL (sturmL xs))
section
variable {P : Program} {w : World} {K : PySem.W.Frag} {mg : Str → Option Value} {base : Heap}
theorem s63 : FnScope ["word", "digits"] ["word"] (defScope (top 59)) := (⟨rfl, rfl, rfl, by decide +kernel, rfl, by decide +kernel, by decide +kernel⟩)
abbrev spIntOf : Sp := Prm (α := Int) (fun i => [.str (W i)]) (fun i _ => i.natAbs ≤ 1000) (fun i H v H' => v = .int i ∧ H' = H)
theorem c_intof (D : Df K mg "integer_of" (top 59)) (B : Bl mg) : Cal P w K mg base 1 "integer_of" ["word"] spIntOf := by
  refine mkC D s63 (fun _ _ _ _ _ _ us hl => match us, hl with | [_], _ => rfl) (fun _ => rfl) (fun f cdv A outer s H i Q E hr h k => ?_)
  have h : i.natAbs ≤ 1000 := h
  obtain ⟨tt, htt⟩ := B.term_
  refine ⟨_, pss_cons ((ps_set (i := 1) (FnScope.nd s63) rfl (Or.inl rfl) (pe_m1 PySem.F.slot_str_removeprefix PySem.F.type_str_removeprefix mt_removeprefix (pv 0) pe_str)))
    (pss_cons (ps_if (PW.pt (pw_or (pt_not (pt_val (pe_m0 PySem.F.slot_str_isascii PySem.F.type_str_isascii mt_isascii (pv 1))))
      (pw_or (pt_not (pt_val (pe_m0 PySem.F.slot_str_isdigit PySem.F.type_str_isdigit mt_isdigit (pv 1))))
      (pw_or1 ((pt_cmpR op_gt ((pe_callB call_len_str (by rfl) (Bl.len_ B) PySem.boot_len (pa_cons (pv 1) pa_nil))) ((pe_callB call_len_str (by rfl) (Bl.len_ B) PySem.boot_len (pa_cons (pe_callTy call_str_int (by rfl) B.str_ PyProof.Rows.boot_str (pa_cons (pe_glob (v := .int 1000) (by rfl) htt ⟨_, rfl⟩) pa_nil)) pa_nil))) (nomark _))))))) pss_nv pss_nil)
    (pss_one (ps_ret (pe_ifExp ((pt_cmpR op_eq (pe_callTy call_str_int (by rfl) B.str_ PyProof.Rows.boot_str (pa_cons (pe_callTy call_int_str (by rfl) B.int_ PyProof.Rows.boot_int (pa_cons (pv 0) pa_nil)) pa_nil)) (pv 0) (nomark _)))
      (pe_callTy call_int_str (by rfl) B.int_ PyProof.Rows.boot_int (pa_cons (pv 0) pa_nil)) pe_nv)))), ?_⟩
  have w5 := w_len h
  have sl : (640 : Nat) ≤ sizeLine := by decide
  refine ⟨_, rfl, ⟨_, rfl⟩, _, _, rfl, rfl, by omega, ?_⟩
  rw [rm_minus]
  refine ⟨_, rfl, ⟨_, rfl⟩, _, rfl, rfl, trivial, _, rfl, ?_⟩
  rw [dg_ascii]
  refine iteF ⟨_, rfl, ⟨_, rfl⟩, _, rfl, rfl, trivial, _, rfl, ?_⟩
  rw [dg_digit]
  have d4 := dg_len h
  refine iteF ⟨_, rfl, _, rfl, by omega, _, rfl, (by decide +kernel), _, rfl, ?_, _, _, rfl, rfl, _, rfl, ?_⟩
  · rw [show Str.length (Str.ofString (toString (1000 : Int))) = 4 from len1000]
    omega
  have ng : ¬ (((Dg i).length : Int) > (((W 1000).length : Nat) : Int)) := by
    rw [len1000]
    omega
  refine ite2 (fun hb => absurd (of_decide_eq_true hb) ng) (fun _ => ?_)
  have l2 : i.natAbs.log2 < 1920 := Nat.lt_of_lt_of_le (PySem.Flt.log2_lt_of (show 0 < 10 by decide) (show i.natAbs < 2 ^ 10 by omega)) (by decide)
  refine ⟨_, rfl, _, i, rfl, w_int h, by omega, i, rfl, l2, _, rfl, rfl, _, rfl, ?_⟩
  rw [decide_eq_true rfl]
  exact iteT ⟨_, rfl, _, i, rfl, w_int h, by omega, k _ _ (Same.refl _) ⟨rfl, rfl⟩⟩
abbrev nT : List Str := ["text", "words", "rank", "equation", "chain", "word"]
theorem s62 : FnScope nT ["text"] (defScope (top 58)) := (⟨rfl, rfl, rfl, by decide +kernel, rfl, by decide +kernel, by decide +kernel⟩)
abbrev spToldG : Sp := Prm (α := Str × Int × List Int) (fun a => [.str a.1]) (fun a H => okT a.1 a.2.1 a.2.2 = true) (fun a H v H' => ∃ r q, v = .ref r ∧ H' r = some (.tup [.int a.2.1, .ref q]) ∧ TI H' q a.2.2)
theorem c_toldG (D : Df K mg "told_by" (top 58)) (B : Bl mg) (CI : Cal P w K mg base 1 "integer_of" ["word"] spIntOf) (CW : Cal P w K mg base 3 "wrong_term" ["equation"] spWrongG)
    (CL : Cal P w K mg base 5 "is_least" ["equation"] spLeG) (CS : Cal P w K mg base 4 "sturm_chain" ["terms"] spSturmG) (CU : Cal P w K mg base 3 "roots_up_to" ["chain", "top", "bottom"] spUpG) (CA : Cal P w K mg base 4 "roots_in_all" ["chain"] spAllG) :
    Cal P w K mg base 6 "told_by" ["text"] spToldG := by
  refine mkC D s62 (fun _ _ _ _ _ _ us hl => match us, hl with | [_], _ => rfl) (fun _ => rfl) (fun f cdv A outer s H a Q E hr h k => ?_)
  obtain ⟨tx, rk, xs⟩ := a
  have h : okT tx rk xs = true := h
  unfold okT at h
  simp only [Bool.and_eq_true, decide_eq_true_eq] at h
  obtain ⟨⟨⟨⟨⟨⟨⟨⟨⟨⟨hsp, ht⟩, hrk⟩, oE⟩, oLe⟩, oS⟩, oU⟩, oC0⟩, oC1⟩, up⟩, al⟩ := h
  have oE' := oE
  unfold okE at oE'
  simp only [Bool.and_eq_true, decide_eq_true_eq, Bool.not_eq_true', decide_eq_false_iff_not] at oE'
  obtain ⟨⟨⟨l2, l6⟩, alx⟩, nz⟩ := oE'
  refine ⟨_, pss_cons ((ps_set (i := 1) (FnScope.nd s62) rfl (Or.inl rfl) (pe_ifExp (pt_val (pe_isi (v := .ty "str") (by rfl) B.isinstance_ (pv 0) (by rfl) B.str_ PyProof.Rows.boot_str rfl)) (pe_split (pv 0) pe_str) pe_nv)))
    (pss_cons (ps_if (PW.pt (pw_or ((pt_cmpR op_lt ((pe_callB call_len_seq (by rfl) (Bl.len_ B) PySem.boot_len (pa_cons (pv 1) pa_nil))) pe_int (nomark _))) (pw_or ((pt_cmpR op_ne ((pe_ix ix_list (pv 1) pe_int (fun _ _ => rfl))) pe_str (nomark _))) (pw_or1 ((pt_cmpR op_ne ((pe_ix ix_list (pv 1) pe_int (fun _ _ => rfl))) pe_str (nomark _))))))) pss_nv pss_nil)
    (pss_cons (ps_par (i := 2) (j := 3) rfl s62.nd rfl rfl (by decide) rfl rfl (pa_cons (pe_cl CI hr (pa_cons ((pe_ix ix_list (pv 1) pe_int (fun _ _ => rfl))) pa_nil)) (pa_cons (pe_callTy call_tuple_of (by rfl) B.tuple_ PyProof.Rows.boot_tuple (pa_cons
        (pe_lc (own := [("word", 5)]) (g := gName 5) (tt := tYes) (te := tCall spIntOf [] E0 (tCons (tVar 5) tNil)) rfl s62.nd (pi_list (pe_slice sl_list (pv 1) (po_some pe_int) po_none))
          (blkOk_by (N := nT) (sc := defScope (top 58)) (by decide +kernel)) (fun _ _ _ _ _ => (pg_name (i := 5) (FnScope.nd s62) rfl (Or.inl rfl))) (fun _ _ _ _ _ => pts_nil)
          (fun _ _ _ _ _ => pe_cl CI hr (pa_cons (pv 5) pa_nil))) pa_nil)) pa_nil)) rfl)
    (pss_cons (ps_if (PW.pt (pw_or (pt_cmpR op_isN (pv 2) pe_non (nomark _)) (pw_or ((pt_cmpR op_lt ((pe_callB call_len_seq (by rfl) (Bl.len_ B) PySem.boot_len (pa_cons (pv 3) pa_nil))) pe_int (nomark _))) (pw_or (pt_cmpR op_notN (pe_cl CW hr (pa_cons (pv 3) pa_nil)) pe_non (nomark _)) (pw_or1 (pt_not (pt_val (pe_cl CL hr (pa_cons (pv 3) pa_nil))))))))) pss_nv pss_nil)
    (pss_cons ((ps_set (i := 4) (FnScope.nd s62) rfl (Or.inl rfl) (pe_cl CS hr (pa_cons (pv 3) pa_nil))))
    (pss_cons (ps_if (pt_not (pt_chain op_le op_lt (pe_cl CU hr (pa_cons (pv 4) (pa_cons pe_int (pa_cons pe_int pa_nil)))) (pv 2) (pe_cl CA hr (pa_cons (pv 4) pa_nil)))) pss_nv pss_nil)
    (pss_one (ps_ret (pe_tup (pa_cons (pv 2) (pa_cons (pv 3) pa_nil)))))))))), ?_⟩
  have sl : (1000 : Nat) ≤ sizeLine := by decide
  refine ⟨_, rfl, _, _, _, _, true, rfl, .ty _, .base (.str _), kit_ty (by decide +kernel), _, rfl, iteT ?_⟩
  refine ⟨_, rfl, ⟨_, rfl⟩, _, _, rfl, rfl, rfl, (by show tx.length + 2 ≤ sizeLine; omega), fun ws hws => ?_⟩
  rw [hsp]
  have s1 := same_new (o := .lst ((Str.ofString "root" :: W rk :: Str.ofString "of" :: xs.map W).map V.str)) hws
  have w1 : upd H ws (.lst ((Str.ofString "root" :: W rk :: Str.ofString "of" :: xs.map W).map V.str)) ws = some (.lst (V.str (Str.ofString "root") :: V.str (W rk) :: V.str (Str.ofString "of") :: (xs.map W).map V.str)) := upd_same
  generalize upd H ws (.lst ((Str.ofString "root" :: W rk :: Str.ofString "of" :: xs.map W).map V.str)) = H0 at *
  refine ⟨_, rfl, ws, _, rfl, .inl (SqL.of w1), _, _, rfl, rfl, _, rfl, ?_⟩
  rw [decide_eq_false (show ¬ (((V.str (Str.ofString "root") :: V.str (W rk) :: V.str (Str.ofString "of") :: (xs.map W).map V.str).length : Nat) : Int) < 3 by simp only [List.length_cons]; omega)]
  refine iteF ?_
  refine ⟨_, rfl, ws, _, _, .str (Str.ofString "root"), rfl, rfl, SqL.of w1, atI_nat (j := 0) rfl, rfl, _, rfl, ?_⟩
  rw [decide_eq_true (show (.str (Str.ofString "root") : V) = .str "root" from rfl)]
  refine iteF ⟨_, rfl, ws, _, _, .str (Str.ofString "of"), rfl, rfl, SqL.of w1, atI_nat (j := 2) rfl, rfl, _, rfl, ?_⟩
  rw [decide_eq_true (show (.str (Str.ofString "of") : V) = .str "of" from rfl)]
  refine iteF ⟨_, rfl, ws, _, _, .str (W rk), rfl, rfl, SqL.of w1, atI_nat (j := 1) rfl, ?_⟩
  refine ⟨rk, rfl, hrk, ?_⟩
  rintro _ HX - ⟨rfl, eH⟩
  have eH : H0 = HX := eH.symm
  subst eH
  refine ⟨_, rfl, _, rfl, ws, _, rfl, SqL.of w1, fun t ht => ?_⟩
  rw [cut3]
  have s2 := Same.new (o := .lst ((xs.map W).map V.str)) s1 ht
  have w2 : upd H0 t (.lst ((xs.map W).map V.str)) t = some (.lst ((xs.map W).map V.str)) := upd_same
  generalize upd H0 t (.lst ((xs.map W).map V.str)) = H1 at *
  refine ⟨t, rfl, ⟨_, SqL.of w2⟩, fun D2 hD => lc_list (xs := (xs.map W).map V.str) (fun i H' => Same H1 H' ∧ H' D2 = some (.lst ((xs.take i).map V.int))) ⟨same_new hD, upd_same⟩ (fun i H' _ e => SqL.of (e.1 _ _ w2)) (fun i x H' hx e => ?_) (fun H' e => ?_)⟩
  · obtain ⟨s3, e3⟩ := e
    rw [List.map_map, List.getElem?_map] at hx
    have hi : i < xs.length := by
      rcases Nat.lt_or_ge i xs.length with q | q
      · exact q
      · rw [List.getElem?_eq_none q] at hx
        cases hx
    rw [List.getElem?_eq_getElem hi] at hx
    cases hx
    have bb := List.all_eq_true.mp alx xs[i] (List.getElem_mem hi)
    simp only [Bool.and_eq_true, decide_eq_true_eq] at bb
    refine ⟨rfl, _, rfl, xs[i], rfl, (by show (xs[i]).natAbs ≤ 1000; omega), ?_⟩
    rintro _ _ - ⟨rfl, rfl⟩
    refine ⟨_, e3, ?_, Same.put s3 hD, ?_⟩
    · rw [List.length_map, List.length_take]
      omega
    · rw [upd_same, List.take_succ, List.getElem?_eq_getElem hi, List.map_append]
      rfl
  · obtain ⟨s3, e3⟩ := e
    rw [List.length_map, List.length_map, List.take_length] at e3
    refine ⟨D2, _, rfl, .inl ⟨SqL.of e3, fun q hq => ?_⟩⟩
    have s4 := Same.new (o := .tup (xs.map V.int)) (s2.trans s3) hq
    have q4 : TI (upd H' q (.tup (xs.map V.int))) q xs := upd_same
    have q40 : upd H' q (.tup (xs.map V.int)) q = some (.tup (xs.map V.int)) := upd_same
    generalize upd H' q (.tup (xs.map V.int)) = H4 at *
    have lx' : (xs.map V.int).length = xs.length := List.length_map ..
    refine ⟨_, _, rfl, ?_⟩
    refine ⟨_, rfl, rfl, _, rfl, iteF ?_⟩
    refine ⟨_, rfl, q, _, rfl, .inr (SqT.of q40), _, _, rfl, rfl, _, rfl, ?_⟩
    rw [decide_eq_false (show ¬ ((((xs.map V.int).length : Nat) : Int) < 2) by rw [lx']; omega)]
    refine iteF ⟨_, rfl, (q, xs), rfl, ⟨q4, oE⟩, ?_⟩
    rintro _ H5 s5 rfl
    refine ⟨rfl, _, rfl, iteF ?_⟩
    have q5 := TI.same s5 q4
    refine ⟨_, rfl, (q, xs), rfl, ⟨q5, oLe⟩, ?_⟩
    rintro _ H6 s6 rfl
    have q6 := TI.same s6 q5
    refine ⟨_, rfl, iteF ?_⟩
    refine ⟨_, rfl, (q, xs), rfl, ⟨q6, oS⟩, ?_⟩
    rintro _ H7 s7 ⟨c, rfl, hc⟩
    have hc : Chn H7 c (sturmL xs) := hc
    refine ⟨_, rfl, (c, sturmL xs, 0, 1), rfl, ⟨hc, okUB_ok oU, okChB_ok oC0⟩, ?_⟩
    rintro _ H8 s8 rfl
    refine ⟨_, rfl, _, _, rfl, rfl, _, rfl, ?_⟩
    rw [decide_eq_true up]
    refine iteT ⟨_, rfl, (c, sturmL xs), rfl, ⟨hc.same s8, okUB_ok oU, okChB_ok oC1⟩, ?_⟩
    rintro _ H9 s9 rfl
    refine ⟨_, _, rfl, rfl, _, rfl, ?_⟩
    rw [decide_eq_true al]
    refine iteF ⟨_, rfl, _, rfl, (by show 2 ≤ sizeLine; decide), fun r hr9 => ?_⟩
    have sa := s5.trans (s6.trans (s7.trans (s8.trans (Same.new (o := .tup [.int rk, .ref q]) s9 hr9))))
    refine k _ _ (s4.trans sa) ⟨r, q, rfl, upd_same, ?_⟩
    exact TI.same sa q4
end
end Xq
/-! l[::-1] of a list; divided, whole. -/
namespace Xq
open PySem PySem.Spec PySem.Calls PyProof.Rows L2
theorem slicePick_rev (its : List Value) : slicePick its.toArray none none (some (-1)) = its.reverse.toArray := by
  have e : sliceRange (sliceBounds none none (some (-1)) its.toArray.size).1 (sliceBounds none none (some (-1)) its.toArray.size).2.1 (sliceBounds none none (some (-1)) its.toArray.size).2.2 = (List.range its.length).map fun (m : Nat) => ((((its.length : Nat) : Int) - 1) + (-1) * (m : Int)).toNat := by
    rw [List.size_toArray]
    show sliceRange (((its.length : Nat) : Int) - 1) (-1) (-1) = _
    unfold sliceRange
    by_cases h : its.length = 0
    · rw [h]
      rfl
    · have e2 : (if (-1 : Int) > 0 then (if ((its.length : Nat) : Int) - 1 < -1 then (-1 - (((its.length : Nat) : Int) - 1) + -1 - 1) / -1 else 0) else (if ((its.length : Nat) : Int) - 1 > -1 then (((its.length : Nat) : Int) - 1 - -1 - -1 - 1) / (- -1) else 0)).toNat = its.length := by
        rw [if_neg (by decide), if_pos (by omega), show (- -1 : Int) = 1 from rfl, Int.ediv_one]
        omega
      show (List.range (if (-1 : Int) > 0 then (if ((its.length : Nat) : Int) - 1 < -1 then (-1 - (((its.length : Nat) : Int) - 1) + -1 - 1) / -1 else 0) else (if ((its.length : Nat) : Int) - 1 > -1 then (((its.length : Nat) : Int) - 1 - -1 - -1 - 1) / (- -1) else 0)).toNat).map _ = _
      rw [e2]
  unfold slicePick
  rw [e, List.filterMap_map]
  refine congrArg List.toArray ?_
  rw [← rev_pick its]
  refine congrArg (fun f => List.filterMap f (List.range its.length)) (funext fun m => ?_)
  show its.toArray[(((its.length : Int) - 1) + (-1) * (m : Int)).toNat]? = its.toArray[(((its.length : Int) - 1) + (m : Int) * (-1)).toNat]?
  rw [Int.mul_comm]
def tRevL (K : PySem.W.Frag) (te : TE) : TE := fun σ H Q => te σ H fun x H1 => ∃ a xs, x = .ref a ∧ SqL K H1 a xs ∧ ∀ p, H1 p = none → Q (.ref p) (upd H1 p (.lst xs.reverse))
theorem pe_revL {X : Cx} {e : Expr} {te : TE} {k : Nat} {p1 p2 p3 pos : Pos} (he : PE X e te) : PE X (.Subscript e (.Slice none none (some (.UnaryOp .USub (.Constant (.int 1) k p1) p2)) p3) pos) (tRevL X.K te) := by
  refine ⟨fun pins s σ H Q I h => ?_⟩
  refine Subscript_ (thn (he.run pins s σ H _ I h) fun v s1 ⟨x, H1, I1, r1, q1⟩ => ?_)
  obtain ⟨a, xs, ex, hx, q⟩ := q1
  subst ex
  cases r1
  have hst : PO X (some (.UnaryOp .USub (.Constant (.int 1) k p1) p2)) (tPart (tUn (rU fun i => .int (-i)) (tC (.int 1)))) := po_some (pe_un un_neg pe_int)
  refine wpAny_Slice (thn (po_none.run pins s1 σ H1 (fun o H2 => o = none ∧ H2 = H1) I1 ⟨rfl, rfl⟩) fun vl s2 ⟨l, H2, I2, pl, el, e2⟩ => ?_)
  subst el e2
  refine thn (po_none.run pins s2 σ H2 (fun o H3 => o = none ∧ H3 = H2) I2 ⟨rfl, rfl⟩) fun vu s3 ⟨u, H3, I3, pu, eu, e3⟩ => ?_
  subst eu e3
  refine thn (hst.run pins s3 σ H3 (fun o H4 => o = some (-1) ∧ H4 = H3) I3 ⟨1, rfl, -1, rfl, rfl, rfl⟩) fun vs s4 ⟨o, H4, I4, ps, eo, e4⟩ => ?_
  subst eo e4
  have I5 : Inv X pins σ H4 { s4 with heap := s4.heap.push { cls := .type "slice", data := .fields #[vl, vu, vs] } } := I4.kept (t' := s4.toks) fun b ob q => Heap.get?_push_of_some _ q
  obtain ⟨its, r, ht, hz⟩ := I5.list hx
  have hlen := r.length
  show wpAny (model X.prog X.w) X.A (subscriptTail e (.Slice none none (some (.UnaryOp .USub (.Constant (.int 1) k p1) p2)) p3) (.ref a) (.ref s4.heap.objs.size)) (EP X pins σ Q) X.xe { s4 with heap := s4.heap.push { cls := .type "slice", data := .fields #[vl, vu, vs] } }
  refine tail_any (ops := [.ref a, .ref s4.heap.objs.size]) ht.isList.typeIs (slot_list_getitem.lookup) ?_ (by with_unfolding_all rfl)
  refine wpAny_getItem_list_slice ht.isList (Heap.IsSliceOf.new _ vl vu vs) pl pu ps (by decide) ?_ (by rw [List.size_toArray]; omega)
  rw [slicePick_rev]
  refine ⟨.ref _, _, I5.laid (t' := s4.toks) (o := .lst xs.reverse) (fun b ob q => Heap.get?_push_of_some _ q) (Nat.le_refl _) ?_, rfl, q _ (I5.hok.fresh (Nat.le_refl _))⟩
  exact ⟨by rw [List.length_reverse]; exact hz, _, 0, r.reverse, Heap.get?_push_size _ rfl⟩
end Xq
/-! divided. -/
namespace Xq
open PySem PySem.Spec PySem.Calls PyProof.Rows L2
/-- what divided tells -/
def divL (ys : List Int) : Nat → List Int → List Int → Option (List Int)
  | 0, rest, fs => if (rest.any fun x => x != 0) = true then none else some fs.reverse
  | n + 1, rest, fs => if rest.length < ys.length then (if (rest.any fun x => x != 0) = true then none else some fs.reverse) else if rest.getLastD 0 % ys.getLastD 0 = 0 then divL ys n (nxD ys rest) (fs ++ [qD ys rest]) else none
def okDw (ys : List Int) : Nat → List Int → Bool
  | 0, rest => decide (rest.length < ys.length)
  | n + 1, rest => decide (rest.length < ys.length) ||
      (decide (ys.length ≤ rest.length) && smB 4000 rest && decide (rest.length ≤ 1000) && smI 4000 (qD ys rest) && (!decide (rest.getLastD 0 % ys.getLastD 0 = 0) || okDw ys n (nxD ys rest)))
def okDg (xs ys : List Int) : Bool := decide (0 < ys.getLastD 0) && decide (1 ≤ ys.length) && decide (ys.length ≤ 1000) && smB 4000 ys && okDw ys 20 xs
def oT (H : Hp) (v : V) : Option (List Int) → Prop
  | none => v = .non
  | some l => ∃ q, v = .ref q ∧ TI H q l
section
variable {P : Program} {w : World} {K : PySem.W.Frag} {mg : Str → Option Value} {base : Heap}
theorem g37b : FnScope nDv ["one", "other"] (defScope (top 29)) := (⟨rfl, rfl, rfl, by decide +kernel, rfl, by decide +kernel, by decide +kernel⟩)
abbrev spDvA : Sp := Prm (α := Addr × Addr × List Int × List Int) (fun ⟨p, q, xs, ys⟩ => [.ref p, .ref q]) (fun ⟨p, q, xs, ys⟩ H => TI H p xs ∧ TI H q ys ∧ okDg xs ys = true) (fun ⟨p, q, xs, ys⟩ H v H' => oT H' v (divL ys 20 xs []))
theorem c_dvA (D : Df K mg "divided" (top 29)) (B : Bl mg) (wl : mg "list" = none) (wa : mg "any" = none) : Cal P w K mg base 1 "divided" ["one", "other"] spDvA := by
  refine mkC D g37b (fun _ _ _ _ _ _ us hl => match us, hl with | [_, _], _ => rfl) (fun _ => rfl) (fun f cdv A outer s H a Q E hr h k => ?_)
  obtain ⟨p, q, xs, ys⟩ := a
  obtain ⟨h1, h2, ok⟩ := h
  have h10 : H p = some (.tup (xs.map V.int)) := h1
  have h20 : H q = some (.tup (ys.map V.int)) := h2
  have k : ∀ v H', Same H H' → oT H' v (divL ys 20 xs []) → Q v H' := k
  have ok : okDg xs ys = true := ok
  unfold okDg at ok
  simp only [Bool.and_eq_true, decide_eq_true_eq] at ok
  obtain ⟨⟨⟨⟨b0, b1⟩, b2⟩, b3⟩, b4⟩ := ok
  have sy := smB_ok (a := 400000) b3 (by decide)
  refine ⟨_, pss_cons (ps_par (i := 2) (j := 3) rfl g37b.nd rfl rfl (by decide) rfl rfl (pa_cons (pe_callTy call_list_of (by rfl) wl PyProof.Rows.boot_list (pa_cons (pv 0) pa_nil)) (pa_cons (pe_lst pa_nil) pa_nil)) rfl)
    (pss_cons (ps_whI PassesOwn.never ((pt_cmpR op_ge ((pe_callB call_len_seq (by rfl) (Bl.len_ B) PySem.boot_len (pa_cons (pv 2) pa_nil))) ((pe_callB call_len_seq (by rfl) (Bl.len_ B) PySem.boot_len (pa_cons (pv 1) pa_nil))) (nomark _)))
      (pss_cons (ps_asg (pe_callB call_divmodW (by rfl) B.divmod_ PyProof.Rows.boot_divmod (pa_cons ((pe_ix ix_list (pv 2) (pe_un un_neg pe_int) (fun _ _ => rfl))) (pa_cons ((pe_ix ix_tup (pv 1) (pe_un un_neg pe_int) (fun _ _ => rfl))) pa_nil))) (pg_tup rfl (pgs_cons ((pg_name (i := 4) (FnScope.nd g37b) rfl (Or.inl rfl))) (pgs_cons ((pg_name (i := 5) (FnScope.nd g37b) rfl (Or.inl rfl))) pgs_nil))))
      (pss_cons (ps_if ((pt_cmpR op_ne (pv 5) pe_int (nomark _))) (pss_one (ps_ret pe_non)) pss_nil)
      (pss_cons (ps_expr (pe_bm PySem.F.plainAttrs_list PySem.F.slot_list_append PySem.F.type_list_append mt_append (pv 3) (pa_cons (pv 4) pa_nil)))
      (pss_cons ((ps_set (i := 6) (FnScope.nd g37b) rfl (Or.inl rfl) (pe_op op_sub ((pe_callB call_len_seq (by rfl) (Bl.len_ B) PySem.boot_len (pa_cons (pv 2) pa_nil))) ((pe_callB call_len_seq (by rfl) (Bl.len_ B) PySem.boot_len (pa_cons (pv 1) pa_nil))))))
      (pss_cons (ps_for PassesOwn.never rfl (pi_enumT (by rfl) B.enumerate_ (pa_cons (pv 1) pa_nil)) (pg_tup rfl (pgs_cons ((pg_name (i := 7) (FnScope.nd g37b) rfl (Or.inl rfl))) (pgs_cons ((pg_name (i := 8) (FnScope.nd g37b) rfl (Or.inl rfl))) pgs_nil)))
        (pss_one (ps_augS (pv 2) (pe_op op_add (pv 6) (pv 7)) get_list (pe_op op_mulW (pv 4) (pv 8)) ip_sub set_list)))
      (pss_one (ps_expr (pe_bm0 PySem.F.plainAttrs_list PySem.F.slot_list_pop PySem.F.type_list_pop mt_pop (pv 2))))))))))
    (pss_cons (ps_if (pt_val (pe_callB (cr_anyI rfl) (by rfl) wa PyProof.Rows.boot_any (pa_cons (pv 2) pa_nil))) (pss_one (ps_ret pe_non)) pss_nil)
    (pss_one (ps_ret (pe_callTy call_tuple_of (by rfl) B.tuple_ PyProof.Rows.boot_tuple (pa_cons (pe_revL (pv 3)) pa_nil)))))), ?_⟩
  refine ⟨_, rfl, p, _, rfl, .inr (SqT.of h10), fun r hr0 => ⟨by decide, fun fd hfd => ⟨_, _, rfl, ?_⟩⟩⟩
  have s1 := same_new (o := .lst (xs.map V.int)) hr0
  have s2 := Same.new (o := .lst []) s1 hfd
  have nf : r ≠ fd := fun e => by rw [← e, upd_same] at hfd; cases hfd
  have f0 : H fd = none := new_of s1 hfd
  have r0 : H r = none := hr0
  have er : upd (upd H r (.lst (xs.map V.int))) fd (.lst []) r = some (.lst (xs.map V.int)) := by
    rw [upd_ne nf]
    exact upd_same
  have ef : upd (upd H r (.lst (xs.map V.int))) fd (.lst []) fd = some (.lst (([] : List Int).map V.int)) := upd_same
  generalize upd (upd H r (.lst (xs.map V.int))) fd (.lst []) = H0 at *
  show tSeq _ _ _ [some (.ref p), some (.ref q), some (.ref r), some (.ref fd), none, none, none, none, none] H0
  refine ⟨fun m σ H' => ∃ (rs fs : List Int) (z4 z5 z6 z7 z8 : Option V), σ = [some (.ref p), some (.ref q), some (.ref r), some (.ref fd), z4, z5, z6, z7, z8] ∧ Same H H' ∧ H' r = some (.lst (rs.map V.int)) ∧ H' fd = some (.lst (fs.map V.int)) ∧ okDw ys m rs = true ∧ divL ys m rs fs = divL ys 20 xs [] ∧ fs.length + m ≤ 20, ⟨20, xs, [], none, none, none, none, none, rfl, s2, er, ef, b4, rfl, by decide⟩, ?_⟩
  rintro m σ H1 ⟨rs, fs, z4, z5, z6, z7, z8, rfl, s3, e1, e2, ok1, ed, lf⟩
  have h21 := s3 _ _ h20
  have lr' : (rs.map V.int).length = rs.length := List.length_map ..
  have ly' : (ys.map V.int).length = ys.length := List.length_map ..
  refine ⟨_, rfl, r, _, rfl, .inl (SqL.of e1), _, rfl, q, _, rfl, .inr (SqT.of h21), _, _, rfl, rfl, _, rfl, ?_⟩
  by_cases hlt : rs.length < ys.length
  · rw [decide_eq_false (show ¬ ((((rs.map V.int).length : Nat) : Int) ≥ (((ys.map V.int).length : Nat) : Int)) by rw [lr', ly']; omega)]
    have ed2 : divL ys m rs fs = if (rs.any fun x => x != 0) = true then none else some fs.reverse := by
      cases m with
      | zero => rfl
      | succ m => exact if_pos hlt
    rw [ed2] at ed
    refine iteF ⟨_, rfl, r, rs, rfl, SqL.of e1, _, rfl, ?_⟩
    cases han : rs.any (fun x => x != 0) with
    | true =>
      rw [han, if_pos rfl] at ed
      refine iteT (k _ _ s3 ?_)
      rw [← ed]
      rfl
    | false =>
      rw [han, if_neg (by decide)] at ed
      refine iteF ⟨_, rfl, fd, _, rfl, SqL.of e2, fun rv nrv => ⟨rv, _, rfl, .inl ⟨SqL.of upd_same, fun tq ntq => ?_⟩⟩⟩
      refine k _ _ ((s3.trans (same_new nrv)).trans (same_new ntq)) ?_
      rw [← ed]
      refine ⟨tq, rfl, ?_⟩
      show upd _ tq _ tq = some (.tup (fs.reverse.map V.int))
      rw [upd_same, List.map_reverse]
  · rw [decide_eq_true (show ((((rs.map V.int).length : Nat) : Int) ≥ (((ys.map V.int).length : Nat) : Int)) by rw [lr', ly']; omega)]
    cases m with
    | zero => exact absurd (of_decide_eq_true ok1) hlt
    | succ m =>
      have z : (decide (ys.length ≤ rs.length) && smB 4000 rs && decide (rs.length ≤ 1000) && smI 4000 (qD ys rs) && (!decide (rs.getLastD 0 % ys.getLastD 0 = 0) || okDw ys m (nxD ys rs))) = true := by
        rcases Bool.or_eq_true_iff.mp ok1 with z | z
        · exact absurd (of_decide_eq_true z) hlt
        · exact z
      obtain ⟨z, z5⟩ := Bool.and_eq_true_iff.mp z
      obtain ⟨z, z4⟩ := Bool.and_eq_true_iff.mp z
      obtain ⟨z, z3⟩ := Bool.and_eq_true_iff.mp z
      obtain ⟨z1, z2⟩ := Bool.and_eq_true_iff.mp z
      have lx : rs.length ≤ 1000 := of_decide_eq_true z3
      have sr := smB_ok (a := 4000) z2 (by decide)
      have sq := smI_ok (a := 400000) z4 (by decide)
      have l1 : 1 ≤ rs.length := by omega
      have dp : CDivP (rs.getLastD 0) (ys.getLastD 0) := divp_ok b0 (Nat.le_trans (PyProof.Rows.intBits_le (sr _ (last_mem l1))) (by omega))
      refine iteT ⟨_, rfl, _, rfl, r, _, _, _, rfl, rfl, SqL.of e1, at_lastD l1, _, rfl, _, rfl, q, _, _, _, rfl, rfl, SqT.of h21, at_lastD b1, _, _, rfl, dp, fun t ht => ?_⟩
      have t1 := same_new (o := .tup [.int (rs.getLastD 0 / ys.getLastD 0), .int (rs.getLastD 0 % ys.getLastD 0)]) ht
      have nt1 : r ≠ t := ne_of_none e1 ht
      have nt2 : fd ≠ t := ne_of_none e2 ht
      have s4 := s3.trans t1
      have e3 := (upd_ne (o := .tup [.int (rs.getLastD 0 / ys.getLastD 0), .int (rs.getLastD 0 % ys.getLastD 0)]) (H := H1) nt1).trans e1
      have e4 := (upd_ne (o := .tup [.int (rs.getLastD 0 / ys.getLastD 0), .int (rs.getLastD 0 % ys.getLastD 0)]) (H := H1) nt2).trans e2
      refine ⟨t, _, rfl, SqT.of upd_same, rfl, _, _, rfl, _, _, rfl, rfl, ?_⟩
      generalize upd H1 t (.tup [.int (rs.getLastD 0 / ys.getLastD 0), .int (rs.getLastD 0 % ys.getLastD 0)]) = H2 at *
      refine ⟨_, rfl, rfl, _, rfl, ?_⟩
      by_cases hz : rs.getLastD 0 % ys.getLastD 0 = 0
      · rw [decide_eq_true (show V.int (rs.getLastD 0 % ys.getLastD 0) = V.int 0 by rw [hz])]
        have okn : okDw ys m (nxD ys rs) = true := by
          rw [decide_eq_true hz] at z5
          exact z5
        have n3 : fd ≠ r := fun e => nf e.symm
        have edn : divL ys m (nxD ys rs) (fs ++ [qD ys rs]) = divL ys 20 xs [] := by
          rw [← ed]
          show _ = if rs.length < ys.length then _ else _
          rw [if_neg hlt, if_pos hz]
        refine iteF ⟨_, rfl, .inl ⟨rfl, _, SqL.of e4⟩, _, rfl, fd, _, _, rfl, rfl, e4, ?_, ?_⟩
        · rw [List.length_map]
          exact Nat.lt_of_le_of_lt (show fs.length ≤ 20 by omega) (by decide)
        have s5 : Same H (upd H2 fd (.lst (fs.map V.int ++ [V.int (rs.getLastD 0 / ys.getLastD 0)]))) := Same.put s4 f0
        have e5 : upd H2 fd (.lst (fs.map V.int ++ [V.int (rs.getLastD 0 / ys.getLastD 0)])) r = some (.lst (rs.map V.int)) := by
          rw [upd_ne nf]
          exact e3
        have e6 : upd H2 fd (.lst (fs.map V.int ++ [V.int (rs.getLastD 0 / ys.getLastD 0)])) fd = some (.lst ((fs ++ [rs.getLastD 0 / ys.getLastD 0]).map V.int)) := by
          rw [upd_same, List.map_append]
          rfl
        generalize upd H2 fd (.lst (fs.map V.int ++ [V.int (rs.getLastD 0 / ys.getLastD 0)])) = H3 at *
        have h23 := s5 _ _ h20
        refine ⟨_, rfl, r, _, rfl, .inl (SqL.of e5), _, rfl, q, _, rfl, .inr (SqT.of h23), _, _, rfl, rfl, ?_⟩
        have en : ((((rs.map V.int).length : Nat) : Int) - (((ys.map V.int).length : Nat) : Int)) = ((rs.length - ys.length : Nat) : Int) := by
          rw [lr', ly']
          omega
        show (tSeq _ _) _ [some (.ref p), some (.ref q), some (.ref r), some (.ref fd), some (.int (qD ys rs)), some (.int (rs.getLastD 0 % ys.getLastD 0)), some (.int ((((rs.map V.int).length : Nat) : Int) - (((ys.map V.int).length : Nat) : Int))), z7, z8] H3
        rw [en]
        refine ⟨_, rfl, q, _, rfl, SqT.of h23, for_enum (xs := ys.map V.int) (fun i σ H' => Same H H' ∧ H' r = some (.lst ((stG (fun o t => o - qD ys rs * t) ys (rs.length - ys.length) rs i).map V.int)) ∧ H' fd = some (.lst ((fs ++ [qD ys rs]).map V.int)) ∧ ∃ y z : Option V, σ = [some (.ref p), some (.ref q), some (.ref r), some (.ref fd), some (.int (qD ys rs)), some (.int (rs.getLastD 0 % ys.getLastD 0)), some (.int ((rs.length - ys.length : Nat) : Int)), y, z]) ⟨s5, e5, e6, _, _, rfl⟩ (fun i σ H' _ e => SqT.of (e.1 _ _ h20)) ?_ ?_⟩
        · rintro i x σ H4 hx ⟨s6, e7, e8, y, z, rfl⟩ T hT
          obtain ⟨b, hb, rfl⟩ := at_map hx
          have hi := lt_of_at hb
          have s7 := Same.new (o := .tup [.int (i : Nat), .int b]) s6 hT
          have nT : r ≠ T := ne_of_none e7 hT
          have nT2 : fd ≠ T := ne_of_none e8 hT
          have e9 : upd H4 T (.tup [.int (i : Nat), .int b]) r = _ := (upd_ne nT).trans e7
          have e10 : upd H4 T (.tup [.int (i : Nat), .int b]) fd = _ := (upd_ne nT2).trans e8
          have li : i + (rs.length - ys.length) < (stG (fun o t => o - qD ys rs * t) ys (rs.length - ys.length) rs i).length := by
            rw [stG_len]
            omega
          have ei : (((rs.length - ys.length : Nat) : Int) + (i : Int)) = ((i + (rs.length - ys.length) : Nat) : Int) := by omega
          refine ⟨T, _, rfl, SqT.of upd_same, rfl, _, _, rfl, _, _, rfl, rfl, _, rfl, _, rfl, _, rfl, _, _, rfl, rfl, r, _, _, V.int ((stG (fun o t => o - qD ys rs * t) ys (rs.length - ys.length) rs i).getD (i + (rs.length - ys.length)) 0), rfl, rfl, SqL.of e9, by rw [ei]; exact atI_nat (getD_map li), ?_⟩
          refine ⟨_, rfl, _, rfl, _, _, rfl, rfl, cm sq (sy b (List.mem_of_getElem? hb)), _, _, rfl, rfl, r, _, _, i + (rs.length - ys.length), rfl, rfl, e9, by rw [ei]; exact ixN_nat (by rw [List.length_map]; exact li), ?_⟩
          refine ⟨Same.put s7 r0, ?_, ?_, _, _, rfl⟩
          · rw [upd_same, set_map]
            show some (HO.lst _) = some (HO.lst (List.map V.int (List.set _ _ _)))
            rw [getD_of hb]
          · rw [upd_ne n3]
            exact e10
        · rintro σ H4 ⟨s6, e7, e8, y, z, rfl⟩
          rw [ly'] at e7
          refine ⟨_, rfl, .inl ⟨rfl, _, SqL.of e7⟩, r, _, V.int ((stG (fun o t => o - qD ys rs * t) ys (rs.length - ys.length) rs ys.length).getD (rs.length - 1) 0), rfl, rfl, e7, ?_, ?_⟩
          · rw [List.length_map, stG_len]
            exact getD_map (by rw [stG_len]; omega)
          · refine ⟨m, Nat.lt_succ_self m, nxD ys rs, fs ++ [qD ys rs], _, _, _, _, _, rfl, Same.put s6 r0, ?_, ?_, okn, edn, ?_⟩
            · rw [upd_same, ← List.map_dropLast]
              rfl
            · rw [upd_ne n3]
              exact e8
            · rw [List.length_append, List.length_singleton]
              omega
      · rw [decide_eq_false (show ¬ V.int (rs.getLastD 0 % ys.getLastD 0) = V.int 0 from fun q => hz (V.int.inj q))]
        refine iteT (k _ _ s4 ?_)
        rw [← ed]
        have ed3 : divL ys (m + 1) rs fs = none := by
          show (if rs.length < ys.length then _ else _) = _
          rw [if_neg hlt, if_neg hz]
        rw [ed3]
        rfl
end
end Xq
/-! linear_factor, least_factor, whole. -/
namespace Xq
open PySem PySem.Spec PyProof.Rows L2
def linIn (xs : List Int) (t b : Int) : Option (List Int) :=
  if Nat.gcd t.natAbs b.natAbs = 1 then (if valL xs t b = 0 then some [-t, b] else if valL xs (-t) b = 0 then some [- -t, b] else none) else none
def linF (xs : List Int) (t : Int) : Option (List Int) := (dvL (xs.getLastD 0)).findSome? (linIn xs t)
/-- what linear_factor tells -/
def linL (xs : List Int) : Option (List Int) := if xs.getD 0 0 = 0 then some [0, 1] else (dvL (xs.getD 0 0)).findSome? (linF xs)
def okLinG (xs : List Int) : Bool := decide (2 ≤ xs.length) && decide (xs.length ≤ 1000) && decide ((xs.getD 0 0).natAbs ≤ 1000) && decide ((xs.getLastD 0).natAbs ≤ 1000) &&
  (dvL (xs.getD 0 0)).all fun t => (dvL (xs.getLastD 0)).all fun b => !decide (Nat.gcd t.natAbs b.natAbs = 1) || (okVB xs t b && okVB xs (-t) b)
theorem drop_at {α β : Type} {l : List α} {i : Nat} {x : α} (h : l[i]? = some x) (f : α → Option β) : (l.drop i).findSome? f = (match f x with | some r => some r | none => (l.drop (i + 1)).findSome? f) := by
  have hi : i < l.length := by
    rcases Nat.lt_or_ge i l.length with q | q
    · exact q
    · rw [List.getElem?_eq_none q] at h
      cases h
  rw [List.getElem?_eq_getElem hi] at h
  rw [List.drop_eq_getElem_cons hi, List.findSome?_cons, Option.some.inj h]
  cases f x <;> rfl
section
variable {P : Program} {w : World} {K : PySem.W.Frag} {mg : Str → Option Value} {base : Heap}
abbrev spLinA : Sp := Prm (α := Addr × List Int) (fun a => [.ref a.1]) (fun a H => TI H a.1 a.2 ∧ okLinG a.2 = true) (fun a H v H' => oT H' v (linL a.2))
theorem c_linA (D : Df K mg "linear_factor" (top 48)) (B : Bl mg) (CD : Cal P w K mg base 1 "divisors" ["number"] spDivG) (C : Cal P w K mg base 1 "value_at" ["terms", "top", "bottom"] spValG) : Cal P w K mg base 2 "linear_factor" ["terms"] spLinA := by
  refine mkC D g56 (fun _ _ _ _ _ _ us hl => match us, hl with | [_], _ => rfl) (fun _ => rfl) (fun f cdv A outer s H a Q E hr h k => ?_)
  obtain ⟨p, xs⟩ := a
  obtain ⟨h, ok⟩ := h
  have h : TI H p xs := h
  have h0 : H p = some (.tup (xs.map V.int)) := h
  have k : ∀ v H', Same H H' → oT H' v (linL xs) → Q v H' := k
  have ok : okLinG xs = true := ok
  unfold okLinG at ok
  simp only [Bool.and_eq_true, decide_eq_true_eq] at ok
  obtain ⟨⟨⟨⟨l2, l1⟩, d0⟩, dl⟩, al⟩ := ok
  have call : ∀ {H1 : Hp} {t b : Int} {Qv : VK}, Same H H1 → okVB xs t b = true → (∀ H2, Same H1 H2 → Qv (.int (valL xs t b)) H2) → spValG [.ref p, .int t, .int b] H1 Qv E0 := fun {H1 t b Qv} s1 o kk => by
    refine ⟨(p, xs, t, b), rfl, ⟨TI.same s1 h, okVB_ok o⟩, ?_⟩
    rintro _ H2 s2 rfl
    exact kk _ s2
  refine ⟨_, pss_cons (ps_if ((pt_cmpR op_eq ((pe_ix ix_tup (pv 0) pe_int (fun _ _ => rfl))) pe_int (nomark _))) (pss_one (ps_ret (pe_tup (pa_cons pe_int (pa_cons pe_int pa_nil))))) pss_nil)
    (pss_cons ((ps_set (i := 1) (FnScope.nd g56) rfl (Or.inl rfl) (pe_cl CD hr (pa_cons ((pe_ix ix_tup (pv 0) (pe_un un_neg pe_int) (fun _ _ => rfl))) pa_nil))))
    (pss_cons (ps_for PassesOwn.never rfl (pi_list (pe_cl CD hr (pa_cons ((pe_ix ix_tup (pv 0) pe_int (fun _ _ => rfl))) pa_nil))) ((pg_name (i := 2) (FnScope.nd g56) rfl (Or.inl rfl)))
      (pss_one (ps_for PassesOwn.never rfl (pi_list (pv 1)) ((pg_name (i := 3) (FnScope.nd g56) rfl (Or.inl rfl)))
        (pss_cons (ps_if ((pt_cmpR op_ne (pe_callBfun cr_gcd (by rfl) B.gcd_ (pa_cons (pv 2) (pa_cons (pv 3) pa_nil))) pe_int (nomark _))) (pss_one ps_continue) pss_nil)
        (pss_one (ps_for PassesOwn.never rfl (pi_tup (pe_tup (pa_cons (pv 2) (pa_cons (pe_un un_neg (pv 2)) pa_nil)))) ((pg_name (i := 4) (FnScope.nd g56) rfl (Or.inl rfl)))
          (pss_one (ps_if ((pt_cmpR op_eq (pe_cl C hr (pa_cons (pv 0) (pa_cons (pv 4) (pa_cons (pv 3) pa_nil)))) pe_int (nomark _))) (pss_one (ps_ret (pe_tup (pa_cons (pe_un un_neg (pv 4)) (pa_cons (pv 3) pa_nil))))) pss_nil))))))))
    (pss_one (ps_ret pe_non)))), ?_⟩
  have nz : ∀ {v : Int}, ¬ v = 0 → decide (V.int v = V.int 0) = false := fun {v} e => decide_eq_false fun q => e (V.int.inj q)
  have yz : ∀ {v : Int}, v = 0 → decide (V.int v = V.int 0) = true := fun {v} e => decide_eq_true (by rw [e])
  have sz2 : 2 ≤ sizeLine := by decide
  refine ⟨_, rfl, p, _, _, _, rfl, rfl, SqT.of h0, atI_nat (j := 0) (getD_map (by omega)), rfl, _, rfl, ?_⟩
  by_cases n0 : xs.getD 0 0 = 0
  · rw [yz n0]
    refine iteT ⟨sz2, fun q hq => k _ _ (same_new hq) ?_⟩
    unfold linL
    rw [if_pos n0]
    exact ⟨q, rfl, upd_same⟩
  rw [nz n0]
  have eL : linL xs = (dvL (xs.getD 0 0)).findSome? (linF xs) := by
    unfold linL
    rw [if_neg n0]
  rw [eL] at k
  refine iteF ⟨_, rfl, _, rfl, p, _, _, _, rfl, rfl, SqT.of h0, at_lastD (by omega), xs.getLastD 0, rfl, dl, ?_⟩
  rintro _ H1 s1 ⟨bo, rfl, hbo⟩
  have hbo : H1 bo = some (.lst ((dvL (xs.getLastD 0)).map V.int)) := hbo
  have h1 := s1 _ _ h0
  refine ⟨_, rfl, p, _, _, _, rfl, rfl, SqT.of h1, atI_nat (j := 0) (getD_map (by omega)), xs.getD 0 0, rfl, d0, ?_⟩
  rintro _ H2 s2 ⟨to, rfl, hto⟩
  have hto : H2 to = some (.lst ((dvL (xs.getD 0 0)).map V.int)) := hto
  have hbo2 := s2 _ _ hbo
  have s12 := s1.trans s2
  refine ⟨to, rfl, ⟨_, SqL.of hto⟩, for_list (xs := (dvL (xs.getD 0 0)).map V.int) (fun i σ H' => Same H2 H' ∧ ((dvL (xs.getD 0 0)).drop i).findSome? (linF xs) = (dvL (xs.getD 0 0)).findSome? (linF xs) ∧ ∃ z2 z3 z4 : Option V, σ = [some (.ref p), some (.ref bo), z2, z3, z4]) ⟨Same.refl _, rfl, none, none, none, rfl⟩ (fun i σ H' _ e => SqL.of (e.1 _ _ hto)) ?_ ?_⟩
  · rintro i x σ H3 hx ⟨s3, ei, z2, z3, z4, rfl⟩
    obtain ⟨t, ht, rfl⟩ := at_map hx
    rw [drop_at ht] at ei
    have alt := List.all_eq_true.mp al t (List.mem_of_getElem? ht)
    have hbo3 := s3 _ _ hbo2
    refine ⟨_, rfl, bo, rfl, ⟨_, SqL.of hbo3⟩, for_list (xs := (dvL (xs.getLastD 0)).map V.int) (fun j σ H' => Same H2 H' ∧ ((dvL (xs.getLastD 0)).drop j).findSome? (linIn xs t) = linF xs t ∧ ∃ z3 z4 : Option V, σ = [some (.ref p), some (.ref bo), some (.int t), z3, z4]) ⟨s3, rfl, z3, z4, rfl⟩ (fun i σ H' _ e => SqL.of (e.1 _ _ hbo2)) ?_ ?_⟩
    · rintro j y σ H4 hy ⟨s4, ej, z3, z4, rfl⟩
      obtain ⟨b, hb, rfl⟩ := at_map hy
      rw [drop_at hb] at ej
      have alb := List.all_eq_true.mp alt b (List.mem_of_getElem? hb)
      refine ⟨_, rfl, _, rfl, t, b, rfl, rfl, _, rfl, ?_⟩
      by_cases hg : Nat.gcd t.natAbs b.natAbs = 1
      · rw [decide_eq_true hg, Bool.not_true, Bool.false_or] at alb
        obtain ⟨o1, o2⟩ := Bool.and_eq_true_iff.mp alb
        have hit : ∀ r, linIn xs t b = some r → (dvL (xs.getD 0 0)).findSome? (linF xs) = some r := fun r e => by
          rw [e] at ej
          rw [← ej] at ei
          exact ei.symm
        rw [decide_eq_true (show V.int ((Nat.gcd t.natAbs b.natAbs : Nat) : Int) = V.int 1 by rw [hg]; rfl)]
        refine iteF ⟨_, rfl, _, rfl, t, rfl, sz2, fun a na => ?_⟩
        have t1 := same_new (o := .tup [.int t, .int (-t)]) na
        have ha : upd H4 a (.tup [.int t, .int (-t)]) a = some (.tup [.int t, .int (-t)]) := upd_same
        have s5 := s12.trans (s4.trans t1)
        refine ⟨a, rfl, ⟨_, SqT.of ha⟩, for_unr (xs := [.int t, .int (-t)]) walk_tup ?_⟩
        refine ⟨SqT.of ha, ?_⟩
        refine ⟨_, rfl, _, rfl, _, rfl, call s5 o1 fun H6 s6 => ⟨rfl, _, rfl, ?_⟩⟩
        by_cases v1 : valL xs t b = 0
        · rw [yz v1]
          refine iteT ⟨_, rfl, t, rfl, _, rfl, sz2, fun q hq => k _ _ ((s5.trans s6).trans (same_new hq)) ?_⟩
          rw [hit [-t, b] (by unfold linIn; rw [if_pos hg, if_pos v1])]
          exact ⟨q, rfl, upd_same⟩
        rw [nz v1]
        refine iteF ⟨SqT.of (s6 _ _ ha), ?_⟩
        refine ⟨_, rfl, _, rfl, _, rfl, call (s5.trans s6) o2 fun H7 s7 => ⟨rfl, _, rfl, ?_⟩⟩
        by_cases v2 : valL xs (-t) b = 0
        · rw [yz v2]
          refine iteT ⟨_, rfl, -t, rfl, _, rfl, sz2, fun q hq => k _ _ (((s5.trans s6).trans s7).trans (same_new hq)) ?_⟩
          rw [hit [- -t, b] (by unfold linIn; rw [if_pos hg, if_neg v1, if_pos v2])]
          exact ⟨q, rfl, upd_same⟩
        rw [nz v2]
        have mis : linIn xs t b = none := by unfold linIn; rw [if_pos hg, if_neg v1, if_neg v2]
        rw [mis] at ej
        exact iteF ⟨SqT.of (s7 _ _ (s6 _ _ ha)), s4.trans (t1.trans (s6.trans s7)), ej, _, _, rfl⟩
      · rw [decide_eq_false (show ¬ V.int ((Nat.gcd t.natAbs b.natAbs : Nat) : Int) = V.int 1 from fun q => hg (by have := V.int.inj q; omega))]
        have mis : linIn xs t b = none := by unfold linIn; rw [if_neg hg]
        rw [mis] at ej
        exact iteT ⟨s4, ej, _, _, rfl⟩
    · rintro σ H4 ⟨s4, ej, z3, z4, rfl⟩
      rw [List.length_map, List.drop_length] at ej
      rw [← ej] at ei
      exact ⟨s4, ei, _, _, _, rfl⟩
  · rintro σ H3 ⟨s3, ei, z2, z3, z4, rfl⟩
    rw [List.length_map, List.drop_length] at ei
    refine k _ _ (s12.trans s3) ?_
    rw [← ei]
    rfl
/-- what least_factor tells; None of degree 2 in what has none of degree 1 -/
def lfL (xs : List Int) : List Int := if xs.length = 2 then xs else (linL xs).getD xs
def okLfG (xs : List Int) : Bool := decide (xs.length = 2) || (okLinG xs && (!decide (linL xs = none) || decide (xs.length < 5) || okQu xs))
abbrev spLfA : Sp := Prm (α := Addr × List Int) (fun a => [.ref a.1]) (fun a H => TI H a.1 a.2 ∧ okLfG a.2 = true) (fun a H v H' => ∃ q, v = .ref q ∧ TI H' q (lfL a.2))
theorem c_lfA (D : Df K mg "least_factor" (top 46)) (B : Bl mg) (C : Cal P w K mg base 2 "linear_factor" ["terms"] spLinA) (CQ : Cal P w K mg base 3 "quadratic_factor" ["terms"] spQuG) : Cal P w K mg base 4 "least_factor" ["terms"] spLfA := by
  refine mkC D g54 (fun _ _ _ _ _ _ us hl => match us, hl with | [_], _ => rfl) (fun _ => rfl) (fun f cdv A outer s H a Q E hr h k => ?_)
  obtain ⟨p, xs⟩ := a
  obtain ⟨h, ok⟩ := h
  have h : TI H p xs := h
  have k : ∀ v H', Same H H' → (∃ q, v = .ref q ∧ TI H' q (lfL xs)) → Q v H' := k
  have h0 : H p = some (.tup (xs.map V.int)) := h
  have ok : okLfG xs = true := ok
  have lx' : (xs.map V.int).length = xs.length := List.length_map ..
  refine ⟨_, pss_cons (ps_if ((pt_cmpR op_eq ((pe_callB call_len_seq (by rfl) (Bl.len_ B) PySem.boot_len (pa_cons (pv 0) pa_nil))) pe_int (nomark _))) (pss_one (ps_ret (pv 0))) pss_nil)
    (pss_cons ((ps_set (i := 1) (FnScope.nd g54) rfl (Or.inl rfl) (pe_cl C hr (pa_cons (pv 0) pa_nil))))
    (pss_cons (ps_if (PW.pt (pw_and (pt_cmpR op_isN (pv 1) pe_non (nomark _)) (pw_and1 ((pt_cmpR op_ge ((pe_callB call_len_seq (by rfl) (Bl.len_ B) PySem.boot_len (pa_cons (pv 0) pa_nil))) pe_int (nomark _)))))) (pss_one ((ps_set (i := 1) (FnScope.nd g54) rfl (Or.inl rfl) (pe_cl CQ hr (pa_cons (pv 0) pa_nil))))) pss_nil)
    (pss_one (ps_ret (pe_ifExp (pt_cmpR op_isN (pv 1) pe_non (nomark _)) (pv 0) (pv 1)))))), ?_⟩
  refine ⟨_, rfl, p, _, rfl, .inr (SqT.of h0), rfl, _, rfl, ?_⟩
  by_cases e2 : xs.length = 2
  · rw [decide_eq_true (show V.int (((xs.map V.int).length : Nat) : Int) = V.int 2 by rw [lx', e2]; rfl)]
    refine iteT ⟨_, rfl, k _ _ (Same.refl _) ⟨p, rfl, ?_⟩⟩
    unfold lfL
    rw [if_pos e2]
    exact h
  · rw [decide_eq_false (show ¬ V.int (((xs.map V.int).length : Nat) : Int) = V.int 2 from fun q => e2 (by have := V.int.inj q; rw [lx'] at this; omega))]
    unfold okLfG at ok
    rw [decide_eq_false e2, Bool.false_or] at ok
    obtain ⟨o1, o2⟩ := Bool.and_eq_true_iff.mp ok
    have eF : lfL xs = (linL xs).getD xs := by
      unfold lfL
      rw [if_neg e2]
    rw [eF] at k
    refine iteF ⟨_, rfl, (p, xs), rfl, ⟨h, o1⟩, ?_⟩
    rintro v H1 s1 ho
    have ho : oT H1 v (linL xs) := ho
    cases hl : linL xs with
    | some l =>
      rw [hl] at ho k
      obtain ⟨q, rfl, hq⟩ := ho
      refine ⟨_, rfl, rfl, _, rfl, iteF ?_⟩
      exact ⟨_, rfl, rfl, _, rfl, iteF ⟨_, rfl, k _ _ s1 ⟨q, rfl, hq⟩⟩⟩
    | none =>
      rw [hl] at ho k
      have ho : v = .non := ho
      subst ho
      rw [decide_eq_true hl, Bool.not_true, Bool.false_or] at o2
      refine ⟨_, rfl, rfl, _, rfl, iteT ⟨_, rfl, p, _, rfl, .inr (SqT.of (s1 _ _ h0)), _, _, rfl, rfl, _, rfl, ?_⟩⟩
      by_cases e5 : xs.length < 5
      · rw [decide_eq_false (show ¬ ((((xs.map V.int).length : Nat) : Int) ≥ 5) by rw [lx']; omega)]
        exact iteF ⟨_, rfl, rfl, _, rfl, iteT ⟨_, rfl, k _ _ s1 ⟨p, rfl, TI.same s1 h⟩⟩⟩
      · rw [decide_eq_true (show ((((xs.map V.int).length : Nat) : Int) ≥ 5) by rw [lx']; omega)]
        rw [decide_eq_false e5, Bool.false_or] at o2
        refine iteT ⟨_, rfl, (p, xs), rfl, ⟨TI.same s1 h, o2⟩, ?_⟩
        rintro _ H2 s2 rfl
        exact ⟨_, rfl, rfl, _, rfl, iteT ⟨_, rfl, k _ _ (s1.trans s2) ⟨p, rfl, TI.same (s1.trans s2) h⟩⟩⟩
end
end Xq
/-! factors_of. -/
namespace Xq
open PySem PySem.Spec PyProof.Rows L2
def inF (fs : List (List Int)) (f : List Int) : Bool := (fs.map dT).any fun z => PyData.eqv z (dT f)
def facS : Nat → List Int → List (List Int) → List (List Int)
  | 0, _, fs => fs
  | n + 1, rest, fs => if rest.length ≤ 1 then fs else facS n ((divL (lfL rest) 20 rest []).getD []) (if inF fs (lfL rest) then fs else fs ++ [lfL rest])
def okFc : Nat → List Int → List (List Int) → Bool
  | 0, rest, _ => decide (rest.length ≤ 1)
  | n + 1, rest, fs => decide (rest.length ≤ 1) || (decide (rest.length ≤ 1000) && okLfG rest && okDg rest (lfL rest) && (divL (lfL rest) 20 rest []).isSome && SeqAt.shaped (dT (lfL rest)) && SeqAt.shaped (.list (fs.map dT)) && decide (fs.length ≤ 100) &&
      okFc n ((divL (lfL rest) 20 rest []).getD []) (if inF fs (lfL rest) then fs else fs ++ [lfL rest]))
def posL (ys : List Int) : List Int := if ys.getLastD 0 < 0 then ys.map fun x => -x else ys
/-- what factors_of tells -/
def facL (xs : List Int) : List (List Int) := facS 10 (posL (primL xs)) []
def okFac (xs : List Int) : Bool := decide (xs.length ≤ 1000) && decide (gcdL xs < 2 ^ 9000) && decide (1 ≤ (primL xs).length) && decide ((primL xs).length ≤ 1000) && okFc 10 (posL (primL xs)) []
theorem dp_rows {K : PySem.W.Frag} {H : Hp} {ps : List Addr} {cs : List (List Int)} (h : Rw H ps cs) : DpAll K H (ps.map V.ref) (cs.map dT) := by
  induction h with
  | nil => exact .nil
  | @cons p _ xs _ h _ ih => exact .cons (.tup (SqT.of (show H p = some (.tup (xs.map V.int)) from h)) (dp_ints xs)) ih
section
variable {P : Program} {w : World} {K : PySem.W.Frag} {mg : Str → Option Value} {base : Heap}
theorem j22 : FnScope ["equation", "rest", "found", "factor"] ["equation"] (defScope (top 45)) := (⟨rfl, rfl, rfl, by decide +kernel, rfl, by decide +kernel, by decide +kernel⟩)
abbrev spFac : Sp := Prm (α := Addr × List Int) (fun a => [.ref a.1]) (fun a H => TI H a.1 a.2 ∧ okFac a.2 = true) (fun a H v H' => ∃ c, v = .ref c ∧ Chn H' c (facL a.2))
theorem c_fac (D : Df K mg "factors_of" (top 45)) (B : Bl mg) (CP : Cal P w K mg base 2 "primitive" ["terms"] spPrimH) (CN : Cal P w K mg base 1 "negative" ["terms"] spNegG) (CL : Cal P w K mg base 4 "least_factor" ["terms"] spLfA) (CV : Cal P w K mg base 1 "divided" ["one", "other"] spDvA) : Cal P w K mg base 5 "factors_of" ["equation"] spFac := by
  refine mkC D j22 (fun _ _ _ _ _ _ us hl => match us, hl with | [_], _ => rfl) (fun _ => rfl) (fun f cdv A outer s H a Q E hr h k => ?_)
  obtain ⟨p, xs⟩ := a
  obtain ⟨h, ok⟩ := h
  have h : TI H p xs := h
  have h0 : H p = some (.tup (xs.map V.int)) := h
  have k : ∀ v H', Same H H' → (∃ c, v = .ref c ∧ Chn H' c (facL xs)) → Q v H' := k
  have ok : okFac xs = true := ok
  unfold okFac at ok
  simp only [Bool.and_eq_true, decide_eq_true_eq] at ok
  obtain ⟨⟨⟨⟨l1, lg⟩, p1⟩, p2⟩, okc⟩ := ok
  have hu : (A.deeper (envOfC "factors_of" (defScope (top 45)) s.heap.objs.size f cdv)).units + 65 < cLine := by have := hr.un; omega
  refine ⟨_, pss_cons ((ps_set (i := 1) (FnScope.nd j22) rfl (Or.inl rfl) (pe_cl CP hr (pa_cons (pv 0) pa_nil))))
    (C8.pss_cut (ps_if ((pt_cmpR op_lt ((pe_ix ix_tup (pv 1) (pe_un un_neg pe_int) (fun _ _ => rfl))) pe_int (nomark _))) (pss_one ((ps_set (i := 1) (FnScope.nd j22) rfl (Or.inl rfl) (pe_cl CN hr (pa_cons (pv 1) pa_nil))))) pss_nil)
    (pss_cons ((ps_set (i := 2) (FnScope.nd j22) rfl (Or.inl rfl) (pe_lst pa_nil)))
    (pss_cons (ps_whI PassesOwn.never ((pt_cmpR op_gt ((pe_callB call_len_seq (by rfl) (Bl.len_ B) PySem.boot_len (pa_cons (pv 1) pa_nil))) pe_int (nomark _)))
      (pss_cons ((ps_set (i := 3) (FnScope.nd j22) rfl (Or.inl rfl) (pe_cl CL hr (pa_cons (pv 1) pa_nil))))
      (C8.pss_cut (ps_if (pt_cmpR (op_notInD hu) (pv 3) (pv 2) (by rfl)) (pss_one (ps_expr (pe_bm PySem.F.plainAttrs_list PySem.F.slot_list_append PySem.F.type_list_append mt_append (pv 2) (pa_cons (pv 3) pa_nil)))) pss_nil)
      (pss_one ((ps_set (i := 1) (FnScope.nd j22) rfl (Or.inl rfl) (pe_cl CV hr (pa_cons (pv 1) (pa_cons (pv 3) pa_nil)))))))))
    (pss_one (ps_ret (pv 2)))))), ?_⟩
  refine ⟨_, rfl, (p, xs), rfl, ⟨h, l1, lg⟩, ?_⟩
  rintro _ H1 s1 ⟨q, rfl, hq⟩
  have hq : TI H1 q (primL xs) := hq
  have hq0 : H1 q = some (.tup ((primL xs).map V.int)) := hq
  refine ⟨fun σ H' => Same H H' ∧ ∃ q2, σ = [some (.ref p), some (.ref q2), none, none] ∧ TI H' q2 (posL (primL xs)), ?_, ?_⟩
  · refine ⟨_, rfl, _, rfl, q, _, _, _, rfl, rfl, SqT.of hq0, at_lastD p1, _, _, rfl, rfl, _, rfl, ?_⟩
    by_cases hn : (primL xs).getLastD 0 < 0
    · rw [decide_eq_true hn]
      refine iteT ⟨_, rfl, (q, primL xs), rfl, ⟨hq, p2⟩, ?_⟩
      rintro _ H2 s2 ⟨q2, rfl, hq2⟩
      refine ⟨s1.trans s2, q2, rfl, ?_⟩
      unfold posL
      rw [if_pos hn]
      exact hq2
    · rw [decide_eq_false hn]
      refine iteF ⟨s1, q, rfl, ?_⟩
      unfold posL
      rw [if_neg hn]
      exact hq
  rintro σ H2 ⟨s2, q2, rfl, hq2⟩
  refine ⟨by decide, fun c hc => ?_⟩
  have c0 : H c = none := new_of s2 hc
  refine ⟨fun m σ H' => ∃ (rest : List Int) (fs : List (List Int)) (p' : Addr) (ps : List Addr) (z : Option V), σ = [some (.ref p), some (.ref p'), some (.ref c), z] ∧ Same H H' ∧ TI H' p' rest ∧ H' c = some (.lst (ps.map V.ref)) ∧ Rw H' ps fs ∧ okFc m rest fs = true ∧ facS m rest fs = facL xs, ⟨10, posL (primL xs), [], q2, [], none, rfl, Same.new s2 hc, TI.same (same_new hc) hq2, upd_same, .nil, okc, rfl⟩, ?_⟩
  rintro m σ H3 ⟨rest, fs, p', ps, z, rfl, s3, h3, e3, r3, ok3, ef3⟩
  have h30 : H3 p' = some (.tup (rest.map V.int)) := h3
  have lr' : (rest.map V.int).length = rest.length := List.length_map ..
  refine ⟨_, rfl, p', _, rfl, .inr (SqT.of h30), _, _, rfl, rfl, _, rfl, ?_⟩
  by_cases hle : rest.length ≤ 1
  · rw [decide_eq_false (show ¬ ((((rest.map V.int).length : Nat) : Int) > 1) by rw [lr']; omega)]
    have ee : facS m rest fs = fs := by
      cases m with
      | zero => rfl
      | succ m => exact if_pos hle
    rw [ee] at ef3
    refine iteF ⟨_, rfl, k _ _ s3 ⟨c, rfl, ps, e3, ?_⟩⟩
    rw [← ef3]
    exact r3
  · rw [decide_eq_true (show ((((rest.map V.int).length : Nat) : Int) > 1) by rw [lr']; omega)]
    cases m with
    | zero => exact absurd (of_decide_eq_true ok3) hle
    | succ m =>
      have ok4 := ok3
      unfold okFc at ok4
      rw [decide_eq_false hle, Bool.false_or] at ok4
      simp only [Bool.and_eq_true, decide_eq_true_eq] at ok4
      obtain ⟨⟨⟨⟨⟨⟨⟨g1, g2⟩, g3⟩, g4⟩, g5⟩, g6⟩, g7⟩, g8⟩ := ok4
      have ef4 : facS m ((divL (lfL rest) 20 rest []).getD []) (if inF fs (lfL rest) then fs else fs ++ [lfL rest]) = facL xs := by
        rw [← ef3]
        exact (if_neg hle).symm
      refine iteT ⟨_, rfl, (p', rest), rfl, ⟨h3, g2⟩, ?_⟩
      rintro _ H4 s4 ⟨f1, rfl, hf⟩
      have hf : TI H4 f1 (lfL rest) := hf
      have hf0 : H4 f1 = some (.tup ((lfL rest).map V.int)) := hf
      have e4 := s4 _ _ e3
      have r4 := Rw.same s4 r3
      refine ⟨fun σ H' => σ = [some (.ref p), some (.ref p'), some (.ref c), some (.ref f1)] ∧ Same H H' ∧ TI H' p' rest ∧ TI H' f1 (lfL rest) ∧ ∃ ps' : List Addr, H' c = some (.lst (ps'.map V.ref)) ∧ Rw H' ps' (if inF fs (lfL rest) then fs else fs ++ [lfL rest]), ?_, ?_⟩
      · refine ⟨_, rfl, _, rfl, dT (lfL rest), fs.map dT, .tup (SqT.of hf0) (dp_ints _), .lst (SqL.of e4) (dp_rows r4), g5, g6, _, rfl, ?_⟩
        show (if (!inF fs (lfL rest)) = true then _ else _)
        cases hin : inF fs (lfL rest) with
        | true =>
          refine iteF ⟨rfl, s3.trans s4, TI.same s4 h3, hf, ps, e4, ?_⟩
          rw [if_pos rfl]
          exact r4
        | false =>
          refine iteT ⟨_, rfl, .inl ⟨rfl, _, SqL.of e4⟩, _, rfl, c, _, _, rfl, rfl, e4, ?_, ?_⟩
          · rw [List.length_map, r4.len]
            exact Nat.lt_of_le_of_lt g7 (by decide)
          · have n1 : ∀ {x : Addr} {ys : List Int}, TI H4 x ys → TI (upd H4 c (.lst (ps.map V.ref ++ [V.ref f1]))) x ys := fun {x ys} t => by
              have t0 : H4 x = some (.tup (ys.map V.int)) := t
              have n : x ≠ c := fun e => by
                rw [e, e4] at t0
                cases t0
              exact (upd_ne n).trans t
            refine ⟨rfl, Same.put (s3.trans s4) c0, n1 (TI.same s4 h3), n1 hf, ps ++ [f1], ?_, ?_⟩
            · rw [upd_same, List.map_append]
              rfl
            · rw [if_neg (by decide)]
              exact Rw.snoc (Rw.put e4 r4) (n1 hf)
      · rintro σ H5 ⟨rfl, s5, h5, hf5, ps', e5, r5⟩
        refine ⟨_, rfl, _, rfl, (p', f1, rest, lfL rest), rfl, ⟨h5, hf5, g3⟩, ?_⟩
        rintro v H6 s6 hv
        have hv : oT H6 v (divL (lfL rest) 20 rest []) := hv
        cases hd : divL (lfL rest) 20 rest [] with
        | none =>
          rw [hd] at g4
          cases g4
        | some l =>
          rw [hd] at hv g8 ef4
          obtain ⟨q6, rfl, hq6⟩ := hv
          exact ⟨m, Nat.lt_succ_self m, l, _, q6, ps', _, rfl, s5.trans s6, hq6, s6 _ _ e5, Rw.same s6 r5, g8, ef4⟩
end
end Xq
/-! roots_within, rank_of_last, factor_within. -/
namespace Xq
open PySem PySem.Spec PyProof.Rows L2
/-- what roots_within tells -/
def rwL (xs : List Int) (a b c d : Int) : Int := if a > 0 ∧ valL xs a b = 0 then chgL (sturmL xs) a b - chgL (sturmL xs) c d + 1 else chgL (sturmL xs) a b - chgL (sturmL xs) c d
def okRw (xs : List Int) (a b c d : Int) : Bool := okS xs && okChB (sturmL xs) a b && okChB (sturmL xs) c d && okVB xs a b
/-- what rank_of_last tells -/
def rlL (xs : List Int) (c d : Int) : Int := upL (sturmL xs) c d - 1
def okRl (xs : List Int) (c d : Int) : Bool := okS xs && okUB (sturmL xs) && okChB (sturmL xs) c d
def fwT (a b c d : Int) (s : Option (List Int) × Int) (xs : List Int) : Option (List Int) × Int := if rwL xs a b c d > 0 then (some xs, s.2 + rwL xs a b c d) else s
def fwS (xs : List Int) (a b c d : Int) (i : Nat) : Option (List Int) × Int := ((facL xs).take i).foldl (fwT a b c d) (none, 0)
/-- what factor_within tells -/
def fwL (xs : List Int) (a b c d : Int) : Option (List Int) := if (fwS xs a b c d (facL xs).length).2 = 1 then (fwS xs a b c d (facL xs).length).1 else none
def okFw (xs : List Int) (a b c d : Int) : Bool := okFac xs && (facL xs).all fun ys => okRw ys a b c d
theorem oT.same {H H' : Hp} {v : V} {o : Option (List Int)} (s : Same H H') (h : oT H v o) : oT H' v o := by
  cases o with
  | none => exact h
  | some l =>
    obtain ⟨q, e, t⟩ := h
    exact ⟨q, e, TI.same s t⟩
section
variable {P : Program} {w : World} {K : PySem.W.Frag} {mg : Str → Option Value} {base : Heap}
theorem j45 : FnScope ["terms", "low", "high", "chain", "many"] ["terms", "low", "high"] (defScope (top 37)) := (⟨rfl, rfl, rfl, by decide +kernel, rfl, by decide +kernel, by decide +kernel⟩)
abbrev spRw : Sp := Prm (α := Addr × Addr × Addr × List Int × Int × Int × Int × Int) (fun ⟨p, l, h, xs, a, b, c, d⟩ => [.ref p, .ref l, .ref h]) (fun ⟨p, l, h, xs, a, b, c, d⟩ H => TI H p xs ∧ TI H l [a, b] ∧ TI H h [c, d] ∧ okRw xs a b c d = true) (fun ⟨p, l, h, xs, a, b, c, d⟩ H v H' => v = .int (rwL xs a b c d))
theorem c_rw (D : Df K mg "roots_within" (top 37)) (CS : Cal P w K mg base 4 "sturm_chain" ["terms"] spSturmG) (CC : Cal P w K mg base 2 "changes" ["chain", "top", "bottom"] spChgG) (CV : Cal P w K mg base 1 "value_at" ["terms", "top", "bottom"] spValG) : Cal P w K mg base 5 "roots_within" ["terms", "low", "high"] spRw := by
  refine mkC D j45 (fun _ _ _ _ _ _ us hl => match us, hl with | [_, _, _], _ => rfl) (fun _ => rfl) (fun f cdv A outer s H x Q E hr h k => ?_)
  obtain ⟨p, l, hh, xs, a, b, c, d⟩ := x
  obtain ⟨hp, hl, hhh, ok⟩ := h
  have hp : TI H p xs := hp
  have hl0 : H l = some (.tup [.int a, .int b]) := hl
  have hh0 : H hh = some (.tup [.int c, .int d]) := hhh
  have k : ∀ v H', Same H H' → v = .int (rwL xs a b c d) → Q v H' := k
  have ok : okRw xs a b c d = true := ok
  unfold okRw at ok
  simp only [Bool.and_eq_true] at ok
  obtain ⟨⟨⟨oS, o1⟩, o2⟩, o3⟩ := ok
  refine ⟨_, pss_cons ((ps_set (i := 3) (FnScope.nd j45) rfl (Or.inl rfl) (pe_cl CS hr (pa_cons (pv 0) pa_nil))))
    (pss_cons ((ps_set (i := 4) (FnScope.nd j45) rfl (Or.inl rfl) (pe_op op_sub (pe_cl CC hr (pa_cons (pv 3) (pa_cons ((pe_ix ix_tup (pv 1) pe_int (fun _ _ => rfl))) (pa_cons ((pe_ix ix_tup (pv 1) pe_int (fun _ _ => rfl))) pa_nil)))) (pe_cl CC hr (pa_cons (pv 3) (pa_cons ((pe_ix ix_tup (pv 2) pe_int (fun _ _ => rfl))) (pa_cons ((pe_ix ix_tup (pv 2) pe_int (fun _ _ => rfl))) pa_nil)))))))
    (pss_cons (ps_if (PW.pt (pw_and ((pt_cmpR op_gt ((pe_ix ix_tup (pv 1) pe_int (fun _ _ => rfl))) pe_int (nomark _))) (pw_and1 ((pt_cmpR op_eq (pe_cl CV hr (pa_cons (pv 0) (pa_cons ((pe_ix ix_tup (pv 1) pe_int (fun _ _ => rfl))) (pa_cons ((pe_ix ix_tup (pv 1) pe_int (fun _ _ => rfl))) pa_nil)))) pe_int (nomark _)))))) (pss_one (ps_aug (i := 4) j45.nd rfl (Or.inl rfl) pe_int ip_add)) pss_nil)
    (pss_one (ps_ret (pv 4))))), ?_⟩
  refine ⟨_, rfl, (p, xs), rfl, ⟨hp, oS⟩, ?_⟩
  rintro _ H1 s1 ⟨ch, rfl, hc⟩
  have hc : Chn H1 ch (sturmL xs) := hc
  refine ⟨_, rfl, _, rfl, l, _, _, _, rfl, rfl, SqT.of (s1 _ _ hl0), atI_nat (j := 0) rfl, _, rfl, l, _, _, _, rfl, rfl, SqT.of (s1 _ _ hl0), atI_nat (j := 1) rfl, ?_⟩
  refine ⟨(ch, sturmL xs, a, b), rfl, ⟨hc, okChB_ok o1⟩, ?_⟩
  rintro _ H2 s2 rfl
  have s12 := s1.trans s2
  refine ⟨_, rfl, _, rfl, hh, _, _, _, rfl, rfl, SqT.of (s12 _ _ hh0), atI_nat (j := 0) rfl, _, rfl, hh, _, _, _, rfl, rfl, SqT.of (s12 _ _ hh0), atI_nat (j := 1) rfl, ?_⟩
  refine ⟨(ch, sturmL xs, c, d), rfl, ⟨hc.same s2, okChB_ok o2⟩, ?_⟩
  rintro _ H3 s3 rfl
  have s13 := s12.trans s3
  refine ⟨_, _, rfl, rfl, ?_⟩
  refine ⟨_, rfl, l, _, _, _, rfl, rfl, SqT.of (s13 _ _ hl0), atI_nat (j := 0) rfl, _, _, rfl, rfl, _, rfl, ?_⟩
  by_cases ha : a > 0
  · rw [decide_eq_true ha]
    refine iteT ⟨_, rfl, _, rfl, l, _, _, _, rfl, rfl, SqT.of (s13 _ _ hl0), atI_nat (j := 0) rfl, _, rfl, l, _, _, _, rfl, rfl, SqT.of (s13 _ _ hl0), atI_nat (j := 1) rfl, ?_⟩
    refine ⟨(p, xs, a, b), rfl, ⟨TI.same s13 hp, okVB_ok o3⟩, ?_⟩
    rintro _ H4 s4 rfl
    refine ⟨rfl, _, rfl, ?_⟩
    show (if decide (V.int (valL xs a b) = V.int 0) = true then _ else _)
    by_cases hz : valL xs a b = 0
    · rw [decide_eq_true (show V.int (valL xs a b) = V.int 0 by rw [hz])]
      refine iteT ⟨_, rfl, _, _, rfl, rfl, _, rfl, k _ _ (s13.trans s4) ?_⟩
      unfold rwL
      rw [if_pos ⟨ha, hz⟩]
    · rw [decide_eq_false (show ¬ V.int (valL xs a b) = V.int 0 from fun q => hz (V.int.inj q))]
      refine iteF ⟨_, rfl, k _ _ (s13.trans s4) ?_⟩
      unfold rwL
      rw [if_neg (fun z => hz z.2)]
  · rw [decide_eq_false ha]
    refine iteF ⟨_, rfl, k _ _ s13 ?_⟩
    unfold rwL
    rw [if_neg (fun z => ha z.1)]
theorem j46 : FnScope ["terms", "high"] ["terms", "high"] (defScope (top 38)) := (⟨rfl, rfl, rfl, by decide +kernel, rfl, by decide +kernel, by decide +kernel⟩)
abbrev spRl : Sp := Prm (α := Addr × Addr × List Int × Int × Int) (fun ⟨p, h, xs, c, d⟩ => [.ref p, .ref h]) (fun ⟨p, h, xs, c, d⟩ H => TI H p xs ∧ TI H h [c, d] ∧ okRl xs c d = true) (fun ⟨p, h, xs, c, d⟩ H v H' => v = .int (rlL xs c d))
theorem c_rl (D : Df K mg "rank_of_last" (top 38)) (CS : Cal P w K mg base 4 "sturm_chain" ["terms"] spSturmG) (CU : Cal P w K mg base 3 "roots_up_to" ["chain", "top", "bottom"] spUpG) : Cal P w K mg base 5 "rank_of_last" ["terms", "high"] spRl := by
  refine mkC D j46 (fun _ _ _ _ _ _ us hl => match us, hl with | [_, _], _ => rfl) (fun _ => rfl) (fun f cdv A outer s H x Q E hr h k => ?_)
  obtain ⟨p, hh, xs, c, d⟩ := x
  obtain ⟨hp, hhh, ok⟩ := h
  have hp : TI H p xs := hp
  have hh0 : H hh = some (.tup [.int c, .int d]) := hhh
  have k : ∀ v H', Same H H' → v = .int (rlL xs c d) → Q v H' := k
  have ok : okRl xs c d = true := ok
  unfold okRl at ok
  simp only [Bool.and_eq_true] at ok
  obtain ⟨⟨oS, o1⟩, o2⟩ := ok
  refine ⟨_, pss_one (ps_ret (pe_op op_sub (pe_cl CU hr (pa_cons (pe_cl CS hr (pa_cons (pv 0) pa_nil)) (pa_cons ((pe_ix ix_tup (pv 1) pe_int (fun _ _ => rfl))) (pa_cons ((pe_ix ix_tup (pv 1) pe_int (fun _ _ => rfl))) pa_nil)))) pe_int)), ?_⟩
  refine ⟨_, rfl, (p, xs), rfl, ⟨hp, oS⟩, ?_⟩
  rintro _ H1 s1 ⟨ch, rfl, hc⟩
  have hc : Chn H1 ch (sturmL xs) := hc
  refine ⟨_, rfl, hh, _, _, _, rfl, rfl, SqT.of (s1 _ _ hh0), atI_nat (j := 0) rfl, _, rfl, hh, _, _, _, rfl, rfl, SqT.of (s1 _ _ hh0), atI_nat (j := 1) rfl, ?_⟩
  refine ⟨(ch, sturmL xs, c, d), rfl, ⟨hc, okUB_ok o1, okChB_ok o2⟩, ?_⟩
  rintro _ H2 s2 rfl
  exact ⟨_, _, rfl, rfl, k _ _ (s1.trans s2) rfl⟩
theorem j58 : FnScope ["equation", "low", "high", "found", "many", "terms", "here"] ["equation", "low", "high"] (defScope (top 57)) := (⟨rfl, rfl, rfl, by decide +kernel, rfl, by decide +kernel, by decide +kernel⟩)
abbrev spFw : Sp := Prm (α := Addr × Addr × Addr × List Int × Int × Int × Int × Int) (fun ⟨p, l, h, xs, a, b, c, d⟩ => [.ref p, .ref l, .ref h]) (fun ⟨p, l, h, xs, a, b, c, d⟩ H => TI H p xs ∧ TI H l [a, b] ∧ TI H h [c, d] ∧ okFw xs a b c d = true) (fun ⟨p, l, h, xs, a, b, c, d⟩ H v H' => oT H' v (fwL xs a b c d))
theorem c_fw (D : Df K mg "factor_within" (top 57)) (CF : Cal P w K mg base 5 "factors_of" ["equation"] spFac) (CR : Cal P w K mg base 5 "roots_within" ["terms", "low", "high"] spRw) : Cal P w K mg base 6 "factor_within" ["equation", "low", "high"] spFw := by
  refine mkC D j58 (fun _ _ _ _ _ _ us hl => match us, hl with | [_, _, _], _ => rfl) (fun _ => rfl) (fun f cdv A outer s H x Q E hr h k => ?_)
  obtain ⟨p, l, hh, xs, a, b, c, d⟩ := x
  obtain ⟨hp, hl, hhh, ok⟩ := h
  have hp : TI H p xs := hp
  have hl : TI H l [a, b] := hl
  have hhh : TI H hh [c, d] := hhh
  have k : ∀ v H', Same H H' → oT H' v (fwL xs a b c d) → Q v H' := k
  have ok : okFw xs a b c d = true := ok
  unfold okFw at ok
  obtain ⟨oF, oA⟩ := Bool.and_eq_true_iff.mp ok
  refine ⟨_, pss_cons (ps_asg (pe_tup (pa_cons pe_non (pa_cons pe_int pa_nil))) (pg_tup rfl (pgs_cons ((pg_name (i := 3) (FnScope.nd j58) rfl (Or.inl rfl))) (pgs_cons ((pg_name (i := 4) (FnScope.nd j58) rfl (Or.inl rfl))) pgs_nil))))
    (pss_cons (ps_for PassesOwn.never rfl (pi_list (pe_cl CF hr (pa_cons (pv 0) pa_nil))) ((pg_name (i := 5) (FnScope.nd j58) rfl (Or.inl rfl)))
      (pss_cons ((ps_set (i := 6) (FnScope.nd j58) rfl (Or.inl rfl) (pe_cl CR hr (pa_cons (pv 5) (pa_cons (pv 1) (pa_cons (pv 2) pa_nil))))))
      (pss_one (ps_if ((pt_cmpR op_gt (pv 6) pe_int (nomark _))) (pss_one (ps_par (i := 3) (j := 4) rfl j58.nd rfl rfl (by decide) rfl rfl (pa_cons (pv 5) (pa_cons (pe_op op_add (pv 4) (pv 6)) pa_nil)) rfl)) pss_nil))))
    (pss_one (ps_ret (pe_ifExp ((pt_cmpR op_eq (pv 4) pe_int (nomark _))) (pv 3) pe_non)))), ?_⟩
  refine ⟨by decide, fun z hz => ⟨z, _, rfl, SqT.of upd_same, rfl, _, _, rfl, _, _, rfl, rfl, ?_⟩⟩
  have s0 := same_new (o := .tup [.non, .int 0]) hz
  refine ⟨_, rfl, (p, xs), rfl, ⟨TI.same s0 hp, oF⟩, ?_⟩
  rintro _ H1 s1' ⟨fc, rfl, ps, e1, r1⟩
  have s1 := s0.trans s1'
  refine ⟨fc, rfl, ⟨_, SqL.of e1⟩, for_list (xs := ps.map V.ref) (fun i σ H' => Same H1 H' ∧ ∃ (v : V) (z5 z6 : Option V), σ = [some (.ref p), some (.ref l), some (.ref hh), some v, some (.int (fwS xs a b c d i).2), z5, z6] ∧ oT H' v (fwS xs a b c d i).1) ⟨Same.refl _, .non, none, none, rfl, rfl⟩ (fun i σ H' _ e => SqL.of (e.1 _ _ e1)) ?_ ?_⟩
  · rintro i x σ H2 hx ⟨s2, v, z5, z6, rfl, hv⟩
    rw [List.getElem?_map] at hx
    obtain ⟨t, ht, rfl⟩ := Option.map_eq_some_iff.mp hx
    obtain ⟨ys, hys, ty⟩ := r1.at ht
    have oy := List.all_eq_true.mp oA ys (List.mem_of_getElem? hys)
    have st : fwS xs a b c d (i + 1) = fwT a b c d (fwS xs a b c d i) ys := by
      unfold fwS
      rw [List.take_succ, hys, List.foldl_append]
      rfl
    have s02 := s1.trans s2
    refine ⟨_, rfl, _, rfl, _, rfl, (t, l, hh, ys, a, b, c, d), rfl, ⟨TI.same s2 ty, TI.same s02 hl, TI.same s02 hhh, oy⟩, ?_⟩
    rintro _ H3 s3 rfl
    refine ⟨_, rfl, _, _, rfl, rfl, _, rfl, ?_⟩
    by_cases hg : rwL ys a b c d > 0
    · rw [decide_eq_true hg]
      have e2 : fwS xs a b c d (i + 1) = (some ys, (fwS xs a b c d i).2 + rwL ys a b c d) := by
        rw [st]
        unfold fwT
        rw [if_pos hg]
      refine iteT ⟨_, rfl, _, rfl, _, rfl, _, _, rfl, rfl, _, _, rfl, s2.trans s3, .ref t, some (.ref t), some (.int (rwL ys a b c d)), ?_, ?_⟩
      · rw [e2]
        rfl
      · rw [e2]
        exact ⟨t, rfl, TI.same (s2.trans s3) ty⟩
    · rw [decide_eq_false hg]
      have e2 : fwS xs a b c d (i + 1) = fwS xs a b c d i := by
        rw [st]
        unfold fwT
        rw [if_neg hg]
      refine iteF ⟨s2.trans s3, v, some (.ref t), some (.int (rwL ys a b c d)), ?_, ?_⟩
      · rw [e2]
        rfl
      · rw [e2]
        exact hv.same s3
  · rintro σ H2 ⟨s2, v, z5, z6, rfl, hv⟩
    rw [List.length_map, r1.len] at hv ⊢
    refine ⟨_, rfl, rfl, _, rfl, ?_⟩
    by_cases h1 : (fwS xs a b c d (facL xs).length).2 = 1
    · rw [decide_eq_true (show V.int (fwS xs a b c d (facL xs).length).2 = V.int 1 by rw [h1])]
      refine iteT ⟨_, rfl, k _ _ (s1.trans s2) ?_⟩
      unfold fwL
      rw [if_pos h1]
      exact hv
    · rw [decide_eq_false (show ¬ V.int (fwS xs a b c d (facL xs).length).2 = V.int 1 from fun q => h1 (V.int.inj q))]
      refine iteF (k _ _ (s1.trans s2) ?_)
      unfold fwL
      rw [if_neg h1]
      rfl
end
end Xq
/-! The class Shape, for any shape. -/
namespace Xq
open PySem PySem.Spec PyProof.Rows L2
/-- o.f as a target -/
def gFld (K : PySem.W.Frag) (to : TE) (f : Str) : TG := fun v σ H Q => to σ H fun x H2 => ∃ a C dx fs, x = .ref a ∧ H2 a = some (.ins C dx fs) ∧ Cls K C ∧ NoAttr K C f ∧ fs.length < 1000 ∧ Q σ (upd H2 a (.ins C dx (putF f v fs)))
theorem pg_fld {X : Cx} {o : Expr} {f : Str} {pos : Pos} {to : TE} (ho : PE X o to) : PG X (.Attribute o f pos) (gFld X.K to f) := by
  refine ⟨fun pins s σ H v u Q I r h => ?_⟩
  refine PySem.W.kas_attr (thn (ho.run pins s σ H _ I h) fun ov s2 ⟨x, H2, I2, rx, a, C, dx, fs, ex, ea, c, n, l, q2⟩ => ?_)
  subst ex
  obtain rfl : ov = Value.ref a := rx
  exact setattr_ok I2 ea c n l r fun s3 I3 => ⟨σ, _, I3, q2⟩
/-- the class as it stands behind the top -/
structure ShC (K : PySem.W.Frag) (mg : Str → Option Value) (C : Addr) : Prop where
  cl : Cls K C
  n1 : NoAttr K C "_text"
  n2 : NoAttr K C "_rank"
  n3 : NoAttr K C "_equation"
  n4 : NoAttr K C "_near"
  n5 : NoAttr K C "_bits"
  mgC : mg "Shape" = some (.ref C)
  mkS : ∃ f fd, Mk K C f ∧ Fun K "__init__" "Shape.__init__" (inClass (top 53) 0) f fd
  txt : ∃ p f fd, PropOf K C "text" p f ∧ Fun K "text" "Shape.text" (inClass (top 53) 2) f fd
  eqn : ∃ p f fd, PropOf K C "equation" p f ∧ Fun K "equation" "Shape.equation" (inClass (top 53) 3) f fd
  deg : ∃ p f fd, PropOf K C "degree" p f ∧ Fun K "degree" "Shape.degree" (inClass (top 53) 4) f fd
  rnk : ∃ p f fd, PropOf K C "rank" p f ∧ Fun K "rank" "Shape.rank" (inClass (top 53) 5) f fd
  flo : ∃ f fd, Meth K C "floor_at" f ∧ Fun K "floor_at" "Shape.floor_at" (inClass (top 53) 6) f fd
  c1 : PySem.W.findIn K (.ref C) "__class__" = some (some (.builtin "object.__class__"))
  c2 : PySem.W.specialIn K (.builtin "object.__class__") "__get__" = some (some (.builtin "getset_descriptor.__get__"))
  c3 : PySem.W.takesIn K (.builtin "object.__class__") = some true
  c4 : PySem.W.mroIn K C (.type "object") = some true
  kit : PySem.W.kitOne K (.ref C) (.ref C) = some true
def fsG (t : Str) (q : Addr) (r : Int) (xs : List Int) : List (Str × V) := [("_text", .str t), ("_rank", .int r), ("_equation", .ref q), ("_near", .int (strL xs r).1), ("_bits", .int ((strL xs r).2 : Int))]
/-- a shape at a -/
def ShpG (C : Addr) (H : Hp) (a : Addr) (t : Str) (r : Int) (xs : List Int) : Prop := ∃ dx q, H a = some (.ins C dx (fsG t q r xs)) ∧ TI H q xs
theorem ShpG.same {C : Addr} {H H' : Hp} {a : Addr} {t : Str} {r : Int} {xs : List Int} (s : Same H H') (h : ShpG C H a t r xs) : ShpG C H' a t r xs := by
  obtain ⟨dx, q, h1, h2⟩ := h
  exact ⟨dx, q, s _ _ h1, TI.same s h2⟩
section
variable {P : Program} {w : World} {K : PySem.W.Frag} {mg : Str → Option Value} {base : Heap} {C : Addr}
theorem sI : FnScope ["self", "text", "told"] ["self", "text"] (defScope (inClass (top 53) 0)) := (⟨rfl, rfl, rfl, by decide +kernel, rfl, by decide +kernel, by decide +kernel⟩)
def spInitG (C : Addr) : Sp := fun vs H Q _ => ∃ (H0 : Hp) (a dx : Addr) (t : Str) (r : Int) (xs : List Int), vs = [.ref a, .str t] ∧ Same H0 H ∧ H0 a = none ∧ H a = some (.ins C dx []) ∧ okT t r xs = true ∧ okStr xs r = true ∧ ∀ H', Same H0 H' → ShpG C H' a t r xs → Q .non H'
theorem ok_initG {f : Addr} {fd : FuncData} (F : Fun K "__init__" "Shape.__init__" (inClass (top 53) 0) f fd) (S : ShC K mg C) (CT : Cal P w K mg base 6 "told_by" ["text"] spToldG) (CS : Cal P w K mg base 6 "stretch_of" ["equation", "rank"] spStrG) :
    FnOk P w K mg base CX0 7 f fd ["self", "text"] (spInitG C) := by
  refine F.ok sI (fun vs H Q E h => ?_) (fun cdv A outer s H vs Q E hr h => ?_)
  · obtain ⟨H0, a, dx, t, r, xs, rfl, _⟩ := h
    rfl
  · obtain ⟨H0, a, dx, t, rk, xs, rfl, s0, a0, ha, oT', oS, k⟩ := h
    refine ⟨_, pss_cons ((ps_set (i := 2) (FnScope.nd sI) rfl (Or.inl rfl) (pe_cl CT hr (pa_cons (pv 1) pa_nil))))
      (pss_cons (ps_if (pt_cmpR op_isN (pv 2) pe_non (nomark _)) pss_nv pss_nil)
      (pss_cons (ps_fld (pv 0) (pv 1) rfl)
      (pss_cons (ps_asg (pv 2) (pg_tup rfl (pgs_cons (pg_fld (pv 0)) (pgs_cons (pg_fld (pv 0)) pgs_nil))))
      (pss_one (ps_asg (pe_cl CS hr (pa_cons (pe_fld (pv 0) rfl) (pa_cons (pe_fld (pv 0) rfl) pa_nil))) (pg_tup rfl (pgs_cons (pg_fld (pv 0)) (pgs_cons (pg_fld (pv 0)) pgs_nil)))))))), ?_⟩
    refine ⟨_, rfl, (t, rk, xs), rfl, oT', ?_⟩
    rintro _ H1 s1 ⟨r, q, rfl, hr1, hq1⟩
    have hr1 : H1 r = some (.tup [.int rk, .ref q]) := hr1
    have hq1 : TI H1 q xs := hq1
    have a1 := s1 _ _ ha
    have nr : r ≠ a := fun e => by rw [e, a1] at hr1; cases hr1
    have nq : q ≠ a := fun e => by
      have z : H1 q = some (.tup (xs.map V.int)) := hq1
      rw [e, a1] at z
      cases z
    refine ⟨_, rfl, rfl, _, rfl, iteF ?_⟩
    refine ⟨_, rfl, _, rfl, a, C, dx, _, rfl, a1, S.cl, S.n1, by decide, ?_⟩
    have t2 := Same.put (o := .ins C dx [("_text", .str t)]) (s0.trans s1) a0
    refine ⟨_, rfl, r, _, rfl, SqT.of ((upd_ne nr).trans hr1), rfl, ?_⟩
    refine ⟨_, _, rfl, _, rfl, a, C, dx, _, rfl, upd_same, S.cl, S.n2, (by show 1 < 1000; decide), ?_⟩
    refine ⟨_, _, rfl, _, rfl, a, C, dx, _, rfl, upd_same, S.cl, S.n3, (by show 2 < 1000; decide), rfl, ?_⟩
    have t4 := Same.put (o := .ins C dx [("_text", .str t), ("_rank", .int rk), ("_equation", .ref q)]) (Same.put (o := .ins C dx [("_text", .str t), ("_rank", .int rk)]) t2 a0) a0
    have a4 : ∀ HH : Hp, (upd HH a (.ins C dx [("_text", .str t), ("_rank", .int rk), ("_equation", .ref q)])) a = some (.ins C dx [("_text", .str t), ("_rank", .int rk), ("_equation", .ref q)]) := fun _ => upd_same
    refine ⟨_, rfl, a, C, dx, _, _, rfl, a4 _, S.cl, S.n3, rfl, ?_⟩
    refine ⟨_, rfl, a, C, dx, _, _, rfl, a4 _, S.cl, S.n2, rfl, ?_⟩
    refine ⟨(q, xs, rk), rfl, ⟨?_, oS⟩, ?_⟩
    · show upd _ a _ q = _
      rw [upd_ne nq, upd_ne nq, upd_ne nq]
      exact hq1
    rintro _ H5 s5 ⟨r2, rfl, hr2⟩
    have hr2 : H5 r2 = some (.tup [.int (strL xs rk).1, .int ((strL xs rk).2 : Int)]) := hr2
    have a5 := s5 _ _ (a4 _)
    have nr2 : r2 ≠ a := fun e => by rw [e, a5] at hr2; cases hr2
    refine ⟨r2, _, rfl, SqT.of hr2, rfl, ?_⟩
    refine ⟨_, _, rfl, _, rfl, a, C, dx, _, rfl, a5, S.cl, S.n4, (by show 3 < 1000; decide), ?_⟩
    refine ⟨_, _, rfl, _, rfl, a, C, dx, _, rfl, upd_same, S.cl, S.n5, (by show 4 < 1000; decide), rfl, ?_⟩
    refine k _ (Same.put (Same.put (t4.trans s5) a0) a0) ⟨dx, q, upd_same, ?_⟩
    show upd _ a _ q = _
    rw [upd_ne nq, upd_ne nq]
    refine s5 _ _ ?_
    rw [upd_ne nq, upd_ne nq, upd_ne nq]
    exact hq1
/-- the getters -/
def spGet (C : Addr) (v : Str → Int → List Int → Addr → V) : Sp := fun vs H Q _ => ∃ (a : Addr) (t : Str) (r : Int) (xs : List Int), vs = [.ref a] ∧ ShpG C H a t r xs ∧ ∀ q, TI H q xs → Q (v t r xs q) H
abbrev spEqnG (C : Addr) : Sp := spGet C fun _ _ _ q => .ref q
abbrev spDegG (C : Addr) : Sp := spGet C fun _ _ xs _ => .int ((xs.length : Int) - 1)
theorem sE : FnScope ["self"] ["self"] (defScope (inClass (top 53) 3)) := (⟨rfl, rfl, rfl, by decide +kernel, rfl, by decide +kernel, by decide +kernel⟩)
theorem sD : FnScope ["self"] ["self"] (defScope (inClass (top 53) 4)) := (⟨rfl, rfl, rfl, by decide +kernel, rfl, by decide +kernel, by decide +kernel⟩)
theorem ok_eqnG {f : Addr} {fd : FuncData} (F : Fun K "equation" "Shape.equation" (inClass (top 53) 3) f fd) (S : ShC K mg C) : FnOk P w K mg base CX0 1 f fd ["self"] (spEqnG C) := by
  refine F.ok sE (fun vs H Q E h => ?_) (fun cdv A outer s H vs Q E hr h => ?_)
  · obtain ⟨a, t, r, xs, rfl, _⟩ := h
    rfl
  · obtain ⟨a, t, r, xs, rfl, ⟨dx, q, h1, h2⟩, k⟩ := h
    exact ⟨_, pss_one (ps_ret (pe_fld (pv 0) rfl)), _, rfl, a, C, dx, _, _, rfl, h1, S.cl, S.n3, rfl, k q h2⟩
theorem ok_degG {f : Addr} {fd : FuncData} (F : Fun K "degree" "Shape.degree" (inClass (top 53) 4) f fd) (S : ShC K mg C) (B : Bl mg) : FnOk P w K mg base CX0 1 f fd ["self"] (spDegG C) := by
  refine F.ok sD (fun vs H Q E h => ?_) (fun cdv A outer s H vs Q E hr h => ?_)
  · obtain ⟨a, t, r, xs, rfl, _⟩ := h
    rfl
  · obtain ⟨a, t, r, xs, rfl, ⟨dx, q, h1, h2⟩, k⟩ := h
    have h20 : H q = some (.tup (xs.map V.int)) := h2
    have k2 := k q h2
    have lx : (xs.map V.int).length = xs.length := List.length_map ..
    refine ⟨_, pss_one (ps_ret (pe_op op_sub ((pe_callB call_len_seq (by rfl) (Bl.len_ B) PySem.boot_len (pa_cons (pe_fld (pv 0) rfl) pa_nil))) pe_int)), _, rfl, a, C, dx, _, _, rfl, h1, S.cl, S.n3, rfl, q, _, rfl, .inr (SqT.of h20), _, _, rfl, rfl, ?_⟩
    rw [lx]
    exact k2
/-! ### as they are used -/
section
variable {X : Cx} {e : Expr} {te : TE} {pos : Pos} {j : Nat}
theorem pe_eqnG (S : ShC X.K X.mg C) (he : PE X e te) (hr : Room (j + 2) X.A) (hab : attributeBase e "equation" X.env (eval e X.env) = eval e X.env := by rfl) :
    PE X (.Attribute e "equation" pos) (tProp C (spEqnG C) [] E0 te) := by
  obtain ⟨p, f, fd, hp, F⟩ := S.eqn
  exact pe_prop (pos := pos) he S.cl hp (ok_eqnG (P := X.prog) (w := X.w) (base := X.base) F S) (hr.mono (by omega)) (F.binds (fun _ _ _ _ _ _ us hl => match us, hl with | [_], _ => rfl)) .nil pass0 hab
theorem pe_degG (S : ShC X.K X.mg C) (B : Bl X.mg) (he : PE X e te) (hr : Room (j + 2) X.A) (hab : attributeBase e "degree" X.env (eval e X.env) = eval e X.env := by rfl) :
    PE X (.Attribute e "degree" pos) (tProp C (spDegG C) [] E0 te) := by
  obtain ⟨p, f, fd, hp, F⟩ := S.deg
  exact pe_prop (pos := pos) he S.cl hp (ok_degG (P := X.prog) (w := X.w) (base := X.base) F S B) (hr.mono (by omega)) (F.binds (fun _ _ _ _ _ _ us hl => match us, hl with | [_], _ => rfl)) .nil pass0 hab
theorem pe_mkG {p : Pos} {e2 : Expr} {t : TE} (S : ShC X.K X.mg C) (CT : Cal X.prog X.w X.K X.mg X.base 6 "told_by" ["text"] spToldG) (CS : Cal X.prog X.w X.K X.mg X.base 6 "stretch_of" ["equation", "rank"] spStrG) (h2 : PE X e2 t) (hr : Room (j + 8) X.A) (hg : Gl X "Shape")
    (hst : starEach (e2 :: []) X.env = (false, eval e2 X.env) :: starEach [] X.env := by rfl) :
    PE X (.Call (.Name "Shape" p) [e2] [] pos) (tMake C (spInitG C) [] E0 (tCons t tNil)) := by
  obtain ⟨f, fd, hm, F⟩ := S.mkS
  exact pe_make hm (ok_initG (P := X.prog) (w := X.w) (base := X.base) F S CT CS) (hr.mono (by omega)) hg S.mgC (F.binds (fun _ _ _ _ _ _ us hl => match us, hl with | [_, _], _ => rfl)) .nil pass0 (pa_cons h2 pa_nil hst) (by decide) hst rfl
end
theorem j55 : FnScope ["value"] ["value"] (defScope (top 54)) := (⟨rfl, rfl, rfl, by decide +kernel, rfl, by decide +kernel, by decide +kernel⟩)
abbrev spChkG (C : Addr) : Sp := Prm (α := Addr × Str × Int × List Int) (fun a => [.ref a.1]) (fun a H => ShpG C H a.1 a.2.1 a.2.2.1 a.2.2.2) (fun a H v H' => H' = H)
theorem c_chkG (D : Df K mg "check_shape" (top 54)) (B : Bl mg) (S : ShC K mg C) : Cal P w K mg base 1 "check_shape" ["value"] (spChkG C) := by
  refine mkC D j55 (fun _ _ _ _ _ _ us hl => match us, hl with | [_], _ => rfl) (fun _ => rfl) (fun f cdv A outer s H a Q E hr h k => ?_)
  obtain ⟨a, t, r, xs⟩ := a
  obtain ⟨dx, q, h1, h2⟩ := h
  refine ⟨_, pss_one (ps_if (pt_not (pt_val (pe_callB call_isi (by rfl) B.isinstance_ (by decide +kernel) (pa_cons (pv 0) (pa_cons (pe_glob (v := .ref C) (by rfl) S.mgC rfl) pa_nil))))) pss_nv pss_nil), ?_⟩
  refine ⟨_, rfl, _, _, _, _, true, rfl, .own _, .base (.ins h1 S.cl S.c1 S.c2 S.c3 S.c4), S.kit, _, rfl, iteF ?_⟩
  exact k _ _ (Same.refl _) rfl
end
end Xq
/-! A staticmethod called through its class; == by an own __eq__, with any answer. -/
namespace Xq
open PySem PySem.Spec PyProof.Rows L2 ClX
/-- C.m is a staticmethod: its record at p, its def at g -/
structure CSm (K : PySem.W.Frag) (C : Addr) (mc : Value) (m : Str) (p g : Addr) : Prop where
  at_ : PySem.W.findCls K (.ref C) mc m = some (.get (.builtin "staticmethod.__get__") (.ref p) .none (.ref C))
  rc : ∃ rest, PySem.W.recIn K p "staticmethod" = some (.ref g :: rest)
def tSMeth (C : Addr) (sp : Sp) (E : XK) (ta : TE) (t : TA) : TE := fun σ H Q => ta σ H fun x H1 => x = .ref C ∧ t σ H1 fun vs H2 => sp (vs ++ []) H2 Q E
section
variable {X : Cx} {pins : List (Addr × Obj)} {σ : L2.St} {H : Hp} {s : Shared} {a C p g : Addr} {mc : Value} {f m : Str} {v : V} {u : Value} {A : Around} {E : Value → Shared → Prop}
theorem getcsm_ok {b : Bool} {Q : Value → Shared → Prop} (I : Inv X pins σ H s) (r : CRead X.K C mc) (k : CSm X.K C mc m p g)
    (h : ∀ s', Inv X pins σ H s' → Q (.ref g) s') : wpAny (model X.prog X.w) A (getAttr (.ref C) m b) Q E s := by
  obtain ⟨rest, hp⟩ := k.rc
  refine PySem.W.cls_bind I.kIn r.rd k.at_ ?_
  refine wpAny_call (PySem.W.sm_get (s := { s with toks := s.toks + 1 }) I.kIn hp (PySem.W.handed_on rfl ?_))
  exact h _ (I.tok _)
theorem getmethsm_ok {pl : Sem Bool} {Q : Value × List Value → Shared → Prop} (I : Inv X pins σ H s) (r : CRead X.K C mc) (k : CSm X.K C mc m p g)
    (h : ∀ s', Inv X pins σ H s' → Q (.ref g, []) s') : wpAny (model X.prog X.w) A (getMethod (.ref C) m pl) Q E s :=
  PySem.W.method_cls I.kIn r.ga (getcsm_ok I r k h)
end
section
variable {X : Cx} {CX : CXT} {k : Nat} {C p g : Addr} {mc : Value} {sp : Sp} {E : XK} {o e : Expr} {es : List Expr} {f m : Str} {pos apos : Pos} {ta : TE} {t : TA} {pl : Sem Bool} {fd : FuncData} {ps : List Str}
theorem pe_smeth (he : PE X o ta) (r : CRead X.K C mc) (c : CSm X.K C mc m p g) (F : FnOk X.prog X.w X.K X.mg X.base CX k g fd ps sp) (hr : Room k X.A) (hk : PySem.W.keepIn X.K (.ref g) = true) (hb : Binds X.K fd ps []) (hx : Passes CX X E) (ha : PA X (e :: es) t)
    (hst : starEach (e :: es) X.env = (false, eval e X.env) :: starEach es X.env := by rfl) (hpl : (backTo pos (starEach es X.env)).any (·.1) = false := by rfl)
    (ht : eval (.Call (.Attribute o m apos) (e :: es) [] pos) X.env = (do
      let ov ← eval o X.env
      standAt apos.atName
      let (f, first) ← holding [ov] (getMethod ov m pl)
      callWith pos f first (backTo pos (starEach (e :: es) X.env)) (backToKw pos (keywordEach [] X.env))) := by rfl) :
    PE X (.Call (.Attribute o m apos) (e :: es) [] pos) (tSMeth C sp E ta t) := by
  refine ⟨fun pins s σ H Q I h => ?_⟩
  refine PySem.W.methodCall_KW (pl := pl) (thn (he.run pins s σ H _ I h) fun u s1 ⟨x, H1, I1, rx, ex, q⟩ => ?_) ht
  subst ex
  obtain rfl : u = Value.ref C := rx
  refine getmethsm_ok I1 r c fun s2 I2 => ?_
  refine PySem.W.callWith_K (h₀ := X.base) I.ok.mod.kin hk (thn (ha.run pos pins s2 σ H1 _ I2 q) fun us s3 ⟨vs, H2, I3, rv, q2⟩ => ⟨I3.kIn, ?_⟩) hst hpl
  exact run_fn F hr hb .nil hx I3 rv q2
end
end Xq
/-! text_of, turned_text, ==, less, alike. -/
namespace Xq
open PySem PySem.Spec PyProof.Rows L2
def wordsL (xs : List Int) : Str := Txt.join (Str.ofString " ") (xs.map W)
/-- what text_of tells -/
def txL (r : Int) (xs : List Int) : Str := ((((Str.empty ++ Str.ofString "root ") ++ W r) ++ Str.ofString " of ") ++ wordsL xs)
def okTx (r : Int) (xs : List Int) : Bool := decide (r.natAbs < 2 ^ 1000) && (xs.all fun x => decide (x.natAbs < 2 ^ 1000)) && decide (xs.length ≤ 100) && decide (((xs.map W).map (·.length)).sum + (xs.map W).length * (Str.ofString " ").length ≤ 16777216) &&
  decide ((Str.empty ++ Str.ofString "root ").length ≤ 600) && decide (((Str.empty ++ Str.ofString "root ") ++ W r).length ≤ 600) && decide ((((Str.empty ++ Str.ofString "root ") ++ W r) ++ Str.ofString " of ").length ≤ 600) && decide ((txL r xs).length ≤ 600) && decide ((wordsL xs).length ≤ 600)
section
variable {P : Program} {w : World} {K : PySem.W.Frag} {mg : Str → Option Value} {base : Heap} {C : Addr}
theorem j61 : FnScope ["rank", "equation", "words", "term"] ["rank", "equation"] (defScope (top 60)) := (⟨rfl, rfl, rfl, by decide +kernel, rfl, by decide +kernel, by decide +kernel⟩)
abbrev spTx : Sp := Prm (α := Addr × Int × List Int) (fun a => [.int a.2.1, .ref a.1]) (fun a H => TI H a.1 a.2.2 ∧ okTx a.2.1 a.2.2 = true) (fun a H v H' => v = .str (txL a.2.1 a.2.2))
theorem c_tx (D : Df K mg "text_of" (top 60)) (B : Bl mg) : Cal P w K mg base 1 "text_of" ["rank", "equation"] spTx := by
  refine mkC D j61 (fun _ _ _ _ _ _ us hl => match us, hl with | [_, _], _ => rfl) (fun _ => rfl) (fun f cdv A outer s H a Q E hr h k => ?_)
  obtain ⟨p, r, xs⟩ := a
  obtain ⟨h, ok⟩ := h
  have h0 : H p = some (.tup (xs.map V.int)) := h
  have k : ∀ v H', Same H H' → v = .str (txL r xs) → Q v H' := k
  have ok : okTx r xs = true := ok
  unfold okTx at ok
  simp only [Bool.and_eq_true, decide_eq_true_eq] at ok
  obtain ⟨⟨⟨⟨⟨⟨⟨⟨o1, o2⟩, o3⟩, o4⟩, o5⟩, o6⟩, o7⟩, o8⟩, o9⟩ := ok
  have l2 : ∀ {i : Int}, i.natAbs < 2 ^ 1000 → i.natAbs.log2 < 1920 := fun {i} hi => Nat.lt_of_lt_of_le (PySem.Flt.log2_lt_of (show 0 < 1000 by decide) hi) (by decide)
  have sz : ∀ {n : Nat}, n ≤ 600 → n ≤ sizeLine := fun {n} hn => Nat.le_trans hn (by decide)
  refine ⟨_, pss_cons ((ps_set (i := 2) (FnScope.nd j61) rfl (Or.inl rfl) (pe_bm PySem.F.plainAttrs_str PySem.F.slot_str_join PySem.F.type_str_join mt_join pe_str (pa_cons
      (pe_lc (own := [("term", 3)]) (g := gName 3) (tt := tYes) (te := tCB (fun xs H Q => ∃ i, xs = [.int i] ∧ i.natAbs.log2 < 1920 ∧ Q (.str (toString i)) H) (tCons (tVar 3) tNil)) rfl j61.nd (pi_tup (pv 1))
        (blkOk_by (N := ["rank", "equation", "words", "term"]) (sc := defScope (top 60)) (by decide +kernel)) (fun _ _ _ _ _ => (pg_name (i := 3) (FnScope.nd j61) rfl (Or.inl rfl))) (fun _ _ _ _ _ => pts_nil)
        (fun _ _ _ _ _ => pe_callTy call_str_int (by rfl) B.str_ PyProof.Rows.boot_str (pa_cons (pv 3) pa_nil))) pa_nil))))
    (pss_one (ps_ret (pe_joined (.cons pe_str (.cons (pe_fmt (pv 0)) (.cons pe_str (.cons (pe_fmt (pv 2)) .nil))))))), ?_⟩
  refine ⟨rfl, _, rfl, p, rfl, ⟨_, SqT.of h0⟩, fun D hD => lc_tup (xs := xs.map V.int) (fun i H' => Same H H' ∧ H' D = some (.lst (((xs.take i).map W).map V.str))) ⟨same_new hD, upd_same⟩ (fun i H' _ e => SqT.of (e.1 _ _ h0)) (fun i x H' hx e => ?_) (fun H' e => ?_)⟩
  · obtain ⟨s2, e2⟩ := e
    obtain ⟨z, hz, rfl⟩ := at_map hx
    have li := lt_of_at hz
    have zz := List.all_eq_true.mp o2 z (List.mem_of_getElem? hz)
    refine ⟨rfl, _, rfl, z, rfl, l2 (of_decide_eq_true zz), _, e2, ?_, Same.put s2 hD, ?_⟩
    · rw [List.length_map, List.length_map, List.length_take]
      exact sz_lt (by omega)
    · rw [upd_same, List.take_succ, hz, List.map_append, List.map_append]
      rfl
  · obtain ⟨s2, e2⟩ := e
    rw [List.length_map, List.take_length] at e2
    refine ⟨_, D, xs.map W, rfl, rfl, .inl (SqL.of e2), o4, ?_⟩
    exact ⟨_, rfl, sz o5, _, rfl, .inr ⟨r, rfl, l2 o1, _, rfl, sz o6, _, rfl, sz o7, _, rfl, .inl ⟨_, rfl, sz o9, _, rfl, sz o8, k _ _ s2 rfl⟩⟩⟩
end
end Xq
/-! ==, less, alike. -/
namespace Xq
open PySem PySem.Spec PyProof.Rows L2
end Xq
/-! check_equation, is_below, check_stretch, Shape.of. -/
namespace Xq
open PySem PySem.Spec PyProof.Rows L2
def okSt (a b c d : Int) : Bool := decide (1 ≤ b) && decide (Nat.gcd a.natAbs b.natAbs = 1) && decide (0 ≤ a) && decide (1 ≤ d) && decide (Nat.gcd c.natAbs d.natAbs = 1) && smI 4000 a && smI 4000 b && smI 4000 c && smI 4000 d && !decide (c * b < a * d)
def ofL (xs : List Int) (a b c d : Int) : List Int := (fwL xs a b c d).getD []
def ofR (xs : List Int) (a b c d : Int) : Int := rlL (ofL xs a b c d) c d
def ofT (xs : List Int) (a b c d : Int) : Str := txL (ofR xs a b c d) (ofL xs a b c d)
def okOf (xs : List Int) (a b c d : Int) : Bool := okE xs && okSt a b c d && okFw xs a b c d && (fwL xs a b c d).isSome && ((ofL xs a b c d).all fun x => decide (-1000 ≤ x) && decide (x ≤ 1000)) && decide ((ofL xs a b c d).length ≤ 1000) && okRl (ofL xs a b c d) c d && okTx (ofR xs a b c d) (ofL xs a b c d) &&
  okT (ofT xs a b c d) (ofR xs a b c d) (ofL xs a b c d) && okStr (ofL xs a b c d) (ofR xs a b c d)
section
variable {P : Program} {w : World} {K : PySem.W.Frag} {mg : Str → Option Value} {base : Heap} {C : Addr}
theorem j56 : FnScope ["value", "wrong"] ["value"] (defScope (top 55)) := (⟨rfl, rfl, rfl, by decide +kernel, rfl, by decide +kernel, by decide +kernel⟩)
abbrev spChkE : Sp := Prm (α := Addr × List Int) (fun a => [.ref a.1]) (fun a H => TI H a.1 a.2 ∧ okE a.2 = true) (fun _ H v H' => True)
theorem c_chkE (D : Df K mg "check_equation" (top 55)) (B : Bl mg) (CW : Cal P w K mg base 3 "wrong_term" ["equation"] spWrongG) : Cal P w K mg base 4 "check_equation" ["value"] spChkE := by
  refine mkC D j56 (fun _ _ _ _ _ _ us hl => match us, hl with | [_], _ => rfl) (fun _ => rfl) (fun f cdv A outer s H a Q E hr h k => ?_)
  obtain ⟨p, xs⟩ := a
  obtain ⟨h, ok⟩ := h
  have h0 : H p = some (.tup (xs.map V.int)) := h
  have ok : okE xs = true := ok
  have k : ∀ v H', Same H H' → True → Q v H' := k
  have oE' := ok
  unfold okE at oE'
  simp only [Bool.and_eq_true, decide_eq_true_eq, Bool.not_eq_true', decide_eq_false_iff_not] at oE'
  obtain ⟨⟨⟨l2, l6⟩, alx⟩, nz⟩ := oE'
  have lx : (xs.map V.int).length = xs.length := List.length_map ..
  refine ⟨_, pss_cons (ps_if (PW.pt (pw_or (pt_not (pt_val (pe_isi (v := .ty "tuple") (by rfl) B.isinstance_ (pv 0) (by rfl) B.tuple_ PyProof.Rows.boot_tuple rfl))) (pw_or1 ((pt_cmpR op_lt ((pe_callB call_len_seq (by rfl) (Bl.len_ B) PySem.boot_len (pa_cons (pv 0) pa_nil))) pe_int (nomark _)))))) pss_nv pss_nil)
    (pss_cons ((ps_set (i := 1) (FnScope.nd j56) rfl (Or.inl rfl) (pe_cl CW hr (pa_cons (pv 0) pa_nil))))
    (pss_one (ps_if (pt_cmpR op_notN (pv 1) pe_non (nomark _)) pss_nv pss_nil))), ?_⟩
  refine ⟨_, rfl, _, _, _, _, true, rfl, .ty _, .base (.tup h0), kit_ty (by decide +kernel), _, rfl, iteF ?_⟩
  refine ⟨_, rfl, p, _, rfl, .inr (SqT.of h0), _, _, rfl, rfl, _, rfl, ?_⟩
  rw [decide_eq_false (show ¬ ((((xs.map V.int).length : Nat) : Int) < 2) by rw [lx]; omega)]
  refine iteF ⟨_, rfl, (p, xs), rfl, ⟨h, ok⟩, ?_⟩
  rintro _ H1 s1 rfl
  exact ⟨_, rfl, rfl, _, rfl, iteF (k _ _ s1 trivial)⟩
theorem j35 : FnScope ["one", "other"] ["one", "other"] (defScope (top 17)) := (⟨rfl, rfl, rfl, by decide +kernel, rfl, by decide +kernel, by decide +kernel⟩)
abbrev spBelow : Sp := Prm (α := Addr × Addr × Int × Int × Int × Int) (fun ⟨p, q, a, b, c, d⟩ => [.ref p, .ref q]) (fun ⟨p, q, a, b, c, d⟩ H => TI H p [a, b] ∧ TI H q [c, d] ∧ Sm 4000 a ∧ Sm 4000 b ∧ Sm 4000 c ∧ Sm 4000 d) (fun ⟨p, q, a, b, c, d⟩ H v H' => v = .bl (decide (a * d < c * b)))
theorem c_below (D : Df K mg "is_below" (top 17)) : Cal P w K mg base 1 "is_below" ["one", "other"] spBelow := by
  refine mkC D j35 (fun _ _ _ _ _ _ us hl => match us, hl with | [_, _], _ => rfl) (fun _ => rfl) (fun f cdv A outer s H x Q E hr h k => ?_)
  obtain ⟨p, q, a, b, c, d⟩ := x
  obtain ⟨hp, hq, sa, sb, sc, sd⟩ := h
  have hp0 : H p = some (.tup [.int a, .int b]) := hp
  have hq0 : H q = some (.tup [.int c, .int d]) := hq
  refine ⟨_, pss_one (ps_ret (pe_cmpR op_lt (pe_op op_mulW ((pe_ix ix_tup (pv 0) pe_int (fun _ _ => rfl))) ((pe_ix ix_tup (pv 1) pe_int (fun _ _ => rfl)))) (pe_op op_mulW ((pe_ix ix_tup (pv 1) pe_int (fun _ _ => rfl))) ((pe_ix ix_tup (pv 0) pe_int (fun _ _ => rfl)))) (nomark _))), ?_⟩
  refine ⟨_, rfl, p, _, _, _, rfl, rfl, SqT.of hp0, atI_nat (j := 0) rfl, _, rfl, q, _, _, _, rfl, rfl, SqT.of hq0, atI_nat (j := 1) rfl, _, _, rfl, rfl, cm sa sd, ?_⟩
  refine ⟨_, rfl, q, _, _, _, rfl, rfl, SqT.of hq0, atI_nat (j := 0) rfl, _, rfl, p, _, _, _, rfl, rfl, SqT.of hp0, atI_nat (j := 1) rfl, _, _, rfl, rfl, cm sc sb, _, _, rfl, rfl, k _ _ (Same.refl _) rfl⟩
theorem j57 : FnScope ["low", "high"] ["low", "high"] (defScope (top 56)) := (⟨rfl, rfl, rfl, by decide +kernel, rfl, by decide +kernel, by decide +kernel⟩)
abbrev spChkS : Sp := Prm (α := Addr × Addr × Int × Int × Int × Int) (fun ⟨p, q, a, b, c, d⟩ => [.ref p, .ref q]) (fun ⟨p, q, a, b, c, d⟩ H => TI H p [a, b] ∧ TI H q [c, d] ∧ okSt a b c d = true) (fun ⟨p, q, a, b, c, d⟩ H v H' => True)
theorem c_chkS (D : Df K mg "check_stretch" (top 56)) (CF : Cal P w K mg base 3 "is_fraction" ["value"] spIsFrac) (CB : Cal P w K mg base 1 "is_below" ["one", "other"] spBelow) : Cal P w K mg base 4 "check_stretch" ["low", "high"] spChkS := by
  refine mkC D j57 (fun _ _ _ _ _ _ us hl => match us, hl with | [_, _], _ => rfl) (fun _ => rfl) (fun f cdv A outer s H x Q E hr h k => ?_)
  obtain ⟨p, q, a, b, c, d⟩ := x
  obtain ⟨hp, hq, ok⟩ := h
  have hp : TI H p [a, b] := hp
  have hq : TI H q [c, d] := hq
  have hp0 : H p = some (.tup [.int a, .int b]) := hp
  have hq0 : H q = some (.tup [.int c, .int d]) := hq
  have k : ∀ v H', Same H H' → True → Q v H' := k
  have ok : okSt a b c d = true := ok
  unfold okSt at ok
  simp only [Bool.and_eq_true, decide_eq_true_eq, Bool.not_eq_true', decide_eq_false_iff_not] at ok
  obtain ⟨⟨⟨⟨⟨⟨⟨⟨⟨o1, o2⟩, o3⟩, o4⟩, o5⟩, o6⟩, o7⟩, o8⟩, o9⟩, o10⟩ := ok
  have m : ∀ {i : Int}, smI 4000 i = true → Sm 4000 i := fun {i} z => smI_ok (a := 4000) z (by decide)
  refine ⟨_, pss_cons (ps_if (PW.pt (pw_or (pt_not (pt_val (pe_cl CF hr (pa_cons (pv 0) pa_nil)))) (pw_or1 ((pt_cmpR op_lt ((pe_ix ix_tup (pv 0) pe_int (fun _ _ => rfl))) pe_int (nomark _)))))) pss_nv pss_nil)
    (pss_one (ps_if (PW.pt (pw_or (pt_not (pt_val (pe_cl CF hr (pa_cons (pv 1) pa_nil)))) (pw_or1 (pt_val (pe_cl CB hr (pa_cons (pv 1) (pa_cons (pv 0) pa_nil))))))) pss_nv pss_nil)), ?_⟩
  refine ⟨_, rfl, (p, a, b), rfl, ⟨hp, o1, o2⟩, ?_⟩
  rintro _ H1 s1 rfl
  refine ⟨_, rfl, iteF ?_⟩
  refine ⟨_, rfl, p, _, _, _, rfl, rfl, SqT.of (s1 _ _ hp0), atI_nat (j := 0) rfl, _, _, rfl, rfl, _, rfl, ?_⟩
  rw [decide_eq_false (show ¬ (a < 0) by omega)]
  refine iteF ⟨_, rfl, (q, c, d), rfl, ⟨TI.same s1 hq, o4, o5⟩, ?_⟩
  rintro _ H2 s2 rfl
  have s12 := s1.trans s2
  refine ⟨_, rfl, iteF ?_⟩
  refine ⟨_, rfl, _, rfl, (q, p, c, d, a, b), rfl, ⟨TI.same s12 hq, TI.same s12 hp, m o8, m o9, m o6, m o7⟩, ?_⟩
  rintro _ H3 s3 rfl
  refine ⟨_, rfl, ?_⟩
  rw [decide_eq_false o10]
  exact iteF (k _ _ (s12.trans s3) trivial)
end
end Xq
/-! Shape.of. -/
namespace Xq
open PySem PySem.Spec PyProof.Rows L2
section
variable {P : Program} {w : World} {K : PySem.W.Frag} {mg : Str → Option Value} {base : Heap} {C : Addr}
abbrev nOf : List Str := ["equation", "low", "high", "least", "term"]
theorem sOf : FnScope nOf ["equation", "low", "high"] (defScope (inClass (top 53) 1)) := (⟨rfl, rfl, rfl, by decide +kernel, rfl, by decide +kernel, by decide +kernel⟩)
def spOfG (C : Addr) : Sp := fun vs H Q _ => ∃ (p l h : Addr) (xs : List Int) (a b c d : Int), vs = [.ref p, .ref l, .ref h] ∧ TI H p xs ∧ TI H l [a, b] ∧ TI H h [c, d] ∧ okOf xs a b c d = true ∧
  ∀ v H', Same H H' → (∃ sh, v = .ref sh ∧ ShpG C H' sh (ofT xs a b c d) (ofR xs a b c d) (ofL xs a b c d)) → Q v H'
theorem ok_ofG {f : Addr} {fd : FuncData} (F : Fun K "of" "Shape.of" (inClass (top 53) 1) f fd) (B : Bl mg) (S : ShC K mg C) (CE : Cal P w K mg base 4 "check_equation" ["value"] spChkE) (CS : Cal P w K mg base 4 "check_stretch" ["low", "high"] spChkS)
    (CF : Cal P w K mg base 6 "factor_within" ["equation", "low", "high"] spFw) (CT : Cal P w K mg base 2 "is_term" ["value"] spIsTerm) (CX : Cal P w K mg base 1 "text_of" ["rank", "equation"] spTx) (CR : Cal P w K mg base 5 "rank_of_last" ["terms", "high"] spRl)
    (CTold : Cal P w K mg base 6 "told_by" ["text"] spToldG) (CStr : Cal P w K mg base 6 "stretch_of" ["equation", "rank"] spStrG) :
    FnOk P w K mg base CX0 9 f fd ["equation", "low", "high"] (spOfG C) := by
  refine F.ok sOf (fun vs H Q E h => ?_) (fun cdv A outer s H vs Q E hr h => ?_)
  · obtain ⟨p, l, hh, xs, a, b, c, d, rfl, _⟩ := h
    rfl
  · obtain ⟨p, l, hh, xs, a, b, c, d, rfl, hp, hl, hhh, ok, k⟩ := h
    unfold okOf at ok
    simp only [Bool.and_eq_true, decide_eq_true_eq] at ok
    obtain ⟨⟨⟨⟨⟨⟨⟨⟨⟨o1, o2⟩, o3⟩, o4⟩, o5⟩, o6⟩, o7⟩, o8⟩, o9⟩, o10⟩ := ok
    refine ⟨_, pss_cons (ps_expr (pe_cl CE hr (pa_cons (pv 0) pa_nil)))
      (pss_cons (ps_expr (pe_cl CS hr (pa_cons (pv 1) (pa_cons (pv 2) pa_nil))))
      (pss_cons ((ps_set (i := 3) (FnScope.nd sOf) rfl (Or.inl rfl) (pe_cl CF hr (pa_cons (pv 0) (pa_cons (pv 1) (pa_cons (pv 2) pa_nil))))))
      (pss_cons (ps_if (pt_cmpR op_isN (pv 3) pe_non (nomark _)) pss_nv pss_nil)
      (pss_cons (ps_if (pt_not (pt_val (pe_callB (cr_all rfl) (by rfl) B.all_ PyProof.Rows.boot_all (pa_cons
          (pe_lc (own := [("term", 4)]) (g := gName 4) (tt := tYes) (te := tCall spIsTerm [] E0 (tCons (tVar 4) tNil)) rfl sOf.nd (pi_tup (pv 3))
            (blkOk_by (N := nOf) (sc := defScope (inClass (top 53) 1)) (by decide +kernel)) (fun _ _ _ _ _ => (pg_name (i := 4) (FnScope.nd sOf) rfl (Or.inl rfl))) (fun _ _ _ _ _ => pts_nil)
            (fun _ _ _ _ _ => pe_cl CT hr (pa_cons (pv 4) pa_nil))) pa_nil)))) pss_nv pss_nil)
      (pss_one (ps_ret (pe_mkG (j := 0) S CTold CStr (pe_cl CX hr (pa_cons (pe_cl CR hr (pa_cons (pv 3) (pa_cons (pv 2) pa_nil))) (pa_cons (pv 3) pa_nil))) (hr.mono (by decide)) (by rfl)))))))), ?_⟩
    refine ⟨_, rfl, (p, xs), rfl, ⟨hp, o1⟩, ?_⟩
    rintro _ H1 s1 -
    refine ⟨_, rfl, _, rfl, (l, hh, a, b, c, d), rfl, ⟨TI.same s1 hl, TI.same s1 hhh, o2⟩, ?_⟩
    rintro _ H2 s2' -
    have s2 := s1.trans s2'
    refine ⟨_, rfl, _, rfl, _, rfl, (p, l, hh, xs, a, b, c, d), rfl, ⟨TI.same s2 hp, TI.same s2 hl, TI.same s2 hhh, o3⟩, ?_⟩
    rintro v H3 s3' ho
    have s3 := s2.trans s3'
    have ho : oT H3 v (fwL xs a b c d) := ho
    have eL : fwL xs a b c d = some (ofL xs a b c d) := by
      unfold ofL
      cases hf : fwL xs a b c d with
      | none => rw [hf] at o4; cases o4
      | some z => rfl
    rw [eL] at ho
    obtain ⟨q, rfl, hq⟩ := ho
    have hq0 : H3 q = some (.tup ((ofL xs a b c d).map V.int)) := hq
    refine ⟨_, rfl, rfl, _, rfl, iteF ?_⟩
    refine ⟨_, rfl, q, rfl, ⟨_, SqT.of hq0⟩, fun D hD => lc_tup (xs := (ofL xs a b c d).map V.int) (fun i H' => Same H3 H' ∧ H' D = some (.lst ((List.replicate i true).map V.bl))) ⟨same_new hD, upd_same⟩ (fun i H' _ e => SqT.of (e.1 _ _ hq0)) (fun i x H' hx e => ?_) (fun H' e => ?_)⟩
    · obtain ⟨s4, e4⟩ := e
      obtain ⟨z, hz, rfl⟩ := at_map hx
      have li := lt_of_at hz
      have bb := List.all_eq_true.mp o5 z (List.mem_of_getElem? hz)
      simp only [Bool.and_eq_true, decide_eq_true_eq] at bb
      refine ⟨rfl, _, rfl, z, rfl, bb, ?_⟩
      rintro _ HX - ⟨rfl, eX⟩
      have eX : H' = HX := eX.symm
      subst eX
      refine ⟨_, e4, ?_, Same.put s4 hD, ?_⟩
      · rw [List.length_map, List.length_replicate]
        exact sz_lt (by omega)
      · rw [upd_same, List.replicate_succ', List.map_append]
        rfl
    · obtain ⟨s4, e4⟩ := e
      refine ⟨D, _, rfl, SqL.of e4, _, rfl, ?_⟩
      have ea : (List.replicate ((ofL xs a b c d).map V.int).length true).all id = true := by simp
      rw [ea]
      refine iteF ?_
      have s5 := s3.trans s4
      have hq4 := TI.same s4 hq
      refine ⟨_, rfl, _, rfl, (q, hh, ofL xs a b c d, c, d), rfl, ⟨hq4, TI.same s5 hhh, o7⟩, ?_⟩
      rintro _ H5 s6 rfl
      refine ⟨_, rfl, (q, ofR xs a b c d, ofL xs a b c d), rfl, ⟨TI.same s6 hq4, o8⟩, ?_⟩
      rintro _ H6 s7 rfl
      have s8 := s5.trans (s6.trans s7)
      intro x dx hx hdx nx
      refine ⟨H6, x, dx, ofT xs a b c d, ofR xs a b c d, ofL xs a b c d, rfl, Same.put (same_new hdx) hx, hx, upd_same, o9, o10, fun H' sH hsh => ⟨rfl, k _ _ (s8.trans sH) ⟨x, rfl, hsh⟩⟩⟩
/-- Shape.of(..) -/
structure ShO (K : PySem.W.Frag) (C : Addr) : Prop where
  rd : ∃ mc, ClX.CRead K C mc ∧ ∃ p g fd, CSm K C mc "of" p g ∧ PySem.W.keepIn K (.ref g) = true ∧ Fun K "of" "Shape.of" (inClass (top 53) 1) g fd
end
end Xq
/-! What the law draws. -/
namespace Xq
open PySem PySem.Spec PyProof.Rows L2
def Prx {α : Type} (args : α → List V) (ask : α → Hp → VK → Prop) : Sp := fun vs H Q _ => ∃ a, vs = args a ∧ ask a H Q
theorem mkP {P : Program} {w : World} {K : PySem.W.Frag} {mg : Str → Option Value} {base : Heap} {α : Type} {args : α → List V} {ask : α → Hp → VK → Prop} {N ps : List Str} {x : Str} {st : Stmt} {k : Nat}
    (D : Df K mg x st) (S : FnScope N ps (defScope st))
    (hb : ∀ (kV doc pm : Value) (an : Option Addr) (cdv ct : Value) (us : List Value), us.length = ps.length → bindArgs (PySem.W.fnOf x x (defArgs st) (defBody st) (defScope st) .none kV doc pm an cdv ct) ⟨us, []⟩ = pure (ps.zip us))
    (hl : ∀ a : α, (args a).length = ps.length)
    (h : ∀ (f : Addr) (cdv : Value) (A : Around) (outer : List Env) (s : Shared) (H : Hp) (a : α) (Q : VK) (E : XK), Room k (A.deeper (envOfC x (defScope st) s.heap.objs.size f cdv)) → ask a H Q →
      ∃ t, PSs (cxOf CX0 P w K mg base N x (defScope st) f cdv A outer s H E).nox (defBody st) t ∧ t { nx := fun _ H' => Q .non H', rt := Q } (L2.start N (args a)) H) :
    Cal P w K mg base (k + 1) x ps (Prx args ask) := by
  obtain ⟨f, fd, F, m⟩ := D.ex
  have lk : ∃ oc od osl, K.lookup f = some ⟨oc, od, .func fd, osl⟩ := by
    obtain ⟨oc, od, kV, doc, pm, an, cdv, ct, osl, _, lk, _⟩ := F.ex
    exact ⟨oc, od, osl, lk⟩
  refine ⟨f, fd, F.ok S (fun vs H Q E h => ?_) (fun cdv A outer s H vs Q E hr hp => ?_), F.binds hb, m, F.kp, lk⟩
  · obtain ⟨a, rfl, _⟩ := h
    exact hl a
  · obtain ⟨a, rfl, hpre⟩ := hp
    exact h f cdv A outer s H a Q E hr hpre
theorem none_same' {H H' : Hp} {d : Addr} (s : Same H H') (h : H' d = none) : H d = none := by
  cases e : H d with
  | none => rfl
  | some u =>
    have := s d u e
    rw [h] at this
    cases this
/-- all but the one at r stays -/
def SameX (r : Addr) (H H' : Hp) : Prop := ∀ b o, b ≠ r → H b = some o → H' b = some o
theorem SameX.put {r : Addr} {H : Hp} {o : HO} : SameX r H (upd H r o) := fun b u n e => by
  rw [upd_ne n]
  exact e
/-- the tub's two ints at r -/
def RkI (H : Hp) (r : Addr) : Prop := ∃ a b, H r = some (.lst [.int a, .int b])
theorem RkI.same {H H' : Hp} {r : Addr} (s : Same H H') (h : RkI H r) : RkI H' r := by
  obtain ⟨a, b, e⟩ := h
  exact ⟨a, b, s _ _ e⟩
theorem SqL.sm {K : PySem.W.Frag} {H H' : Hp} {a : Addr} {xs : List V} (h : SqL K H a xs) (s : Same H H') : SqL K H' a xs :=
  h.elim (fun h => .inl (h.elim (fun h => .inl (s _ _ h)) fun ⟨o, h⟩ => .inr ⟨o, s _ _ h⟩)) .inr
section
variable {P : Program} {w : World} {K : PySem.W.Frag} {mg : Str → Option Value} {base : Heap}
abbrev nTu : List Str := ["_law_cells", "_law_turn", "_law_mixed", "_law_cell", "_law_own"]
theorem l122 : FnScope nTu ["_law_cells", "_law_turn"] (defScope (top 68)) := (⟨rfl, rfl, rfl, by decide +kernel, rfl, by decide +kernel, by decide +kernel⟩)
abbrev spTub (K : PySem.W.Frag) : Sp := Prx (α := Addr × List Int × Nat) (fun a => [.ref a.1, .int (a.2.2 : Int)]) (fun a H Q => SqL K H a.1 (a.2.1.map V.int) ∧ a.2.1.length ≤ 63 ∧ ∀ p H', Same H H' → H p = none → RkI H' p → Q (.ref p) H')
theorem c_tub (D : Df K mg "_law_tub" (top 68)) (B : Bl mg) : Cal P w K mg base 1 "_law_tub" ["_law_cells", "_law_turn"] (spTub K) := by
  refine mkP D l122 (fun _ _ _ _ _ _ us hl => match us, hl with | [_, _], _ => rfl) (fun _ => rfl) (fun f cdv A outer s H a Q E hr k => ?_)
  obtain ⟨a, ns, j⟩ := a
  obtain ⟨hS, hlen, k⟩ := k
  have hS : SqL K H a (ns.map V.int) := hS
  have hlen : ns.length ≤ 63 := hlen
  refine ⟨_, pss_cons ((ps_set (i := 2) (FnScope.nd l122) rfl (Or.inl rfl) (pe_op op_add pe_int (pe_op op_mul pe_int (pv 1)))))
    (pss_cons (ps_for PassesOwn.never rfl (pi_list (pe_slice sl_list (pv 0) po_none (po_some pe_int))) ((pg_name (i := 3) (FnScope.nd l122) rfl (Or.inl rfl)))
      (pss_one ((ps_set (i := 2) (FnScope.nd l122) rfl (Or.inl rfl) (pe_op op_mod (pe_callTy call_int1 (by rfl) B.int_ PyProof.Rows.boot_int (pa_cons (pe_op op_add (pe_op op_add (pe_op op_mul (pv 2) pe_int) (pv 3)) pe_int) pa_nil)) pe_int)))))
    (pss_cons ((ps_set (i := 4) (FnScope.nd l122) rfl (Or.inl rfl) (pe_ifExp ((pt_cmpR op_lt (pv 1) ((pe_callB call_len_seq (by rfl) (Bl.len_ B) PySem.boot_len (pa_cons (pv 0) pa_nil))) (nomark _))) ((pe_ix ix_list (pv 0) (pv 1) (fun _ _ => rfl))) pe_int)))
    (pss_one (ps_ret (pe_lst (pa_cons (pe_op op_mod (pe_callTy call_int1 (by rfl) B.int_ PyProof.Rows.boot_int (pa_cons (pe_op op_add (pe_op op_mul (pv 2) pe_int) (pv 4)) pa_nil)) pe_int)
      (pa_cons (pe_ifExp ((pt_cmpR op_ge (pe_callB call_abs (by rfl) B.abs_ PyProof.Rows.boot_abs (pa_cons (pv 4) pa_nil)) (pe_op op_pow pe_int pe_int) (nomark _))) (pe_callB call_abs (by rfl) B.abs_ PyProof.Rows.boot_abs (pa_cons (pv 4) pa_nil)) pe_int) pa_nil))))))), ?_⟩
  have e0 : L2.start nTu [V.ref a, V.int (j : Int)] = [some (.ref a), some (.int (j : Int)), none, none, none] := rfl
  rw [e0]
  obtain ⟨ms, ems, lms⟩ : ∃ ms : List Int, cutV (ns.map V.int) none (some 4) = ms.map V.int ∧ ms.length ≤ 63 := by
    refine ⟨(ns.drop (HT.sIx (ns.map V.int).length 0 none)).take (HT.sIx (ns.map V.int).length (ns.map V.int).length (some 4) - HT.sIx (ns.map V.int).length 0 none), ?_, ?_⟩
    · unfold cutV
      rw [List.map_take, List.map_drop]
    · rw [List.length_take, List.length_drop]
      omega
  refine ⟨_, rfl, _, _, rfl, rfl, .inl ⟨by decide, by decide⟩, _, _, rfl, rfl, ?_⟩
  refine ⟨_, rfl, _, rfl, a, _, rfl, hS, fun l nl => ⟨l, rfl, ?_⟩⟩
  rw [ems]
  have s1 := same_new (o := .lst (ms.map V.int)) nl
  refine ⟨⟨_, SqL.of upd_same⟩, for_list (xs := ms.map V.int) (fun i σ H' => H' = upd H l (.lst (ms.map V.int)) ∧ ∃ m z, σ = [some (.ref a), some (.int (j : Int)), some (.int m), z, none])
    ⟨rfl, _, _, rfl⟩ (fun i σ H' _ q => by rw [q.1]; exact SqL.of upd_same) ?_ ?_⟩
  · rintro i x σ H' hx ⟨rfl, m, z, rfl⟩
    rw [List.getElem?_map] at hx
    obtain ⟨y, _, rfl⟩ := Option.map_eq_some_iff.mp hx
    exact ⟨_, rfl, _, _, rfl, rfl, .inr ⟨by decide, by decide⟩, _, rfl, _, _, rfl, rfl, _, _, rfl, rfl, .inl ⟨_, rfl, _, _, rfl, rfl, (by show (0 : Int) < 2147482367; decide), rfl, _, _, rfl⟩⟩
  · rintro σ H' ⟨rfl, m, z, rfl⟩
    refine ⟨_, rfl, _, rfl, a, _, rfl, .inl (SqL.sm hS s1), _, _, rfl, rfl, _, rfl, ite2 (fun hb => ?a) (fun hb => ?b)⟩
    case' a =>
      have hj : j < ns.length := by
        have q := of_decide_eq_true hb
        rw [List.length_map] at q
        omega
      have hx : (ns.map V.int)[j]? = some (.int ns[j]) := by rw [List.getElem?_map, List.getElem?_eq_getElem hj]; rfl
      refine ⟨_, rfl, _, rfl, a, _, _, .int ns[j], rfl, rfl, SqL.sm hS s1, atI_nat hx, ?_⟩
    all_goals
      refine ⟨_, rfl, _, _, rfl, rfl, .inr ⟨by decide, by decide⟩, _, rfl, _, _, rfl, rfl, .inl ⟨_, rfl, _, _, rfl, rfl, (by show (0 : Int) < 2147482367; decide), ?_⟩⟩
      refine ⟨_, rfl, _, rfl, 10, 18, rfl, rfl, ⟨by decide, by decide, by decide⟩, _, _, rfl, rfl, _, rfl, ite2 (fun hb => ?_) (fun hb => ?_)⟩
      · refine ⟨_, rfl, _, rfl, (by show 2 ≤ sizeLine; decide), fun p np => k p _ (s1.trans (same_new np)) (none_same' s1 np) ⟨_, _, upd_same⟩⟩
      · refine ⟨(by show 2 ≤ sizeLine; decide), fun p np => k p _ (s1.trans (same_new np)) (none_same' s1 np) ⟨_, _, upd_same⟩⟩
abbrev nTa : List Str := ["_law_tub_here", "_law_amount", "_law_figure"]
theorem l123 : FnScope nTa ["_law_tub_here", "_law_amount"] (defScope (top 69)) := (⟨rfl, rfl, rfl, by decide +kernel, rfl, by decide +kernel, by decide +kernel⟩)
abbrev spTap : Sp := Prx (α := Addr × Int) (fun a => [.ref a.1, .int a.2]) (fun a H Q => RkI H a.1 ∧ 1 ≤ a.2 ∧ a.2 ≤ 1000 ∧ ∀ n H', SameX a.1 H H' → RkI H' a.1 → 0 ≤ n → n < a.2 → Q (.int n) H')
theorem c_tap (D : Df K mg "_law_tap" (top 69)) (B : Bl mg) (dm : mg "divmod" = none) : Cal P w K mg base 1 "_law_tap" ["_law_tub_here", "_law_amount"] spTap := by
  refine mkP D l123 (fun _ _ _ _ _ _ us hl => match us, hl with | [_, _], _ => rfl) (fun _ => rfl) (fun f cdv A outer s H a Q E hr k => ?_)
  obtain ⟨r, m⟩ := a
  obtain ⟨⟨a, b, hR⟩, m1, m2, k⟩ := k
  have m1 : 1 ≤ m := m1
  have m2 : m ≤ 1000 := m2
  have hR0 : H r = some (.lst [.int a, .int b]) := hR
  refine ⟨_, pss_cons (ps_if ((pt_cmpR op_gt ((pe_ix ix_list (pv 0) pe_int (fun _ _ => rfl))) pe_int (nomark _)))
      (pss_cons (ps_asg (pe_callB call_divmodW (by rfl) dm PyProof.Rows.boot_divmod (pa_cons ((pe_ix ix_list (pv 0) pe_int (fun _ _ => rfl))) (pa_cons (pv 1) pa_nil)))
          (pg_tup rfl (pgs_cons (pg_sub (pv 0) pe_int set_list (fun _ => rfl)) (pgs_cons ((pg_name (i := 2) (FnScope.nd l123) rfl (Or.inl rfl))) pgs_nil))))
        (pss_one (ps_ret (pv 2)))) pss_nil)
    (pss_cons (ps_asg (pe_op op_mod (pe_callTy call_int1 (by rfl) B.int_ PyProof.Rows.boot_int (pa_cons (pe_op op_add (pe_op op_mul ((pe_ix ix_list (pv 0) pe_int (fun _ _ => rfl))) pe_int) pe_int) pa_nil)) pe_int) (pg_sub (pv 0) pe_int set_list (fun _ => rfl)))
    (pss_one (ps_ret (pe_op op_mod (pe_callTy call_int1 (by rfl) B.int_ PyProof.Rows.boot_int (pa_cons (pe_op op_fdiv ((pe_ix ix_list (pv 0) pe_int (fun _ _ => rfl))) pe_int) pa_nil)) (pv 1))))), ?_⟩
  have e0 : L2.start nTa [V.ref r, V.int m] = [some (.ref r), some (.int m), none] := rfl
  rw [e0]
  refine ⟨_, rfl, r, _, 1, .int b, rfl, rfl, SqL.of hR0, atI_nat (j := 1) rfl, _, _, rfl, rfl, _, rfl, ?_⟩
  refine ite2 (fun hb => ?_) (fun hb => ?_)
  · refine ⟨_, rfl, r, _, 1, .int b, rfl, rfl, SqL.of hR0, atI_nat (j := 1) rfl, _, rfl, _, _, rfl, ⟨by omega, PyProof.noPylong_of_log2 (Nat.lt_of_lt_of_le (PySem.Flt.log2_lt_of (show 0 < 150 by decide) (show m.natAbs < 2 ^ 150 from Nat.lt_of_le_of_lt (show m.natAbs ≤ 1000 by omega) (by decide))) (by decide))⟩, fun p hp => ?_⟩
    have nrp : r ≠ p := fun e => by rw [← e, hR0] at hp; cases hp
    refine ⟨p, _, rfl, SqT.of upd_same, rfl, _, _, rfl, ?_⟩
    refine ⟨_, rfl, r, [.int a, .int b], 1, 1, rfl, rfl, (by rw [upd_ne nrp]; exact hR0), rfl, _, _, rfl, rfl, ?_⟩
    refine ⟨_, rfl, ?_⟩
    refine k (b % m) _ (fun b o n e => ?_) ⟨_, _, upd_same⟩ (Int.emod_nonneg _ (by omega)) (Int.emod_lt_of_pos _ (by omega))
    rw [upd_ne n, upd_ne (fun z => by rw [← z, e] at hp; cases hp)]
    exact e
  · refine ⟨_, rfl, r, _, 0, .int a, rfl, rfl, SqL.of hR0, atI_nat (j := 0) rfl, _, _, rfl, rfl, .inr ⟨by decide, by decide⟩, _, _, rfl, rfl, .inl ⟨_, rfl, _, _, rfl, rfl, (by show (0 : Int) < 2147482367; decide), ?_⟩⟩
    refine ⟨_, rfl, r, [.int a, .int b], 0, 0, rfl, rfl, hR0, rfl, ?_⟩
    refine ⟨_, rfl, r, _, 0, _, rfl, rfl, SqL.of upd_same, atI_nat (j := 0) rfl, ?_⟩
    refine ⟨_, _, rfl, rfl, ⟨by decide, by decide⟩, .inl ⟨_, rfl, ?_⟩⟩
    refine ⟨_, rfl, _, _, rfl, rfl, (by show (0 : Int) < m; omega), ?_⟩
    exact k _ _ SameX.put ⟨_, _, upd_same⟩ (Int.emod_nonneg _ (by omega)) (Int.emod_lt_of_pos _ (by omega))
end
end Xq
/-! _law_root_down. -/
namespace Xq
open PySem PySem.Spec PyProof.Rows L2
def rdS (n : Int) : Nat → Int → Int
  | 0, f => f
  | m + 1, f => if (f + 1) * (f + 1) ≤ n then rdS n m (f + 1) else f
def okRd (n : Int) : Nat → Int → Bool
  | 0, f => decide (n < (f + 1) * (f + 1))
  | m + 1, f => decide (n < (f + 1) * (f + 1)) || okRd n m (f + 1)
/-- what _law_root_down tells -/
def rdL (n : Int) : Int := rdS n 40 0
section
variable {P : Program} {w : World} {K : PySem.W.Frag} {mg : Str → Option Value} {base : Heap}
theorem l66 : FnScope ["_law_number", "_law_found"] ["_law_number"] (defScope (top 77)) := (⟨rfl, rfl, rfl, by decide +kernel, rfl, by decide +kernel, by decide +kernel⟩)
abbrev spRd : Sp := Prm (α := Int) (fun n => [.int n]) (fun n _ => okRd n 40 0 = true) (fun n H v H' => v = .int (rdL n) ∧ H' = H)
theorem c_rd (D : Df K mg "_law_root_down" (top 77)) : Cal P w K mg base 1 "_law_root_down" ["_law_number"] spRd := by
  refine mkC D l66 (fun _ _ _ _ _ _ us hl => match us, hl with | [_], _ => rfl) (fun _ => rfl) (fun f cdv A outer s H n Q E hr ok k => ?_)
  have ok : okRd n 40 0 = true := ok
  have k : ∀ v H', Same H H' → (v = .int (rdL n) ∧ H' = H) → Q v H' := k
  refine ⟨_, pss_cons ((ps_set (i := 1) (FnScope.nd l66) rfl (Or.inl rfl) pe_int))
    (pss_cons (ps_whI PassesOwn.never (pt_cmpR op_le (pe_op op_mulW (pe_op op_add (pv 1) pe_int) (pe_op op_add (pv 1) pe_int)) (pv 0) (nomark _))
      (pss_one ((ps_set (i := 1) (FnScope.nd l66) rfl (Or.inl rfl) (pe_op op_add (pv 1) pe_int)))))
    (pss_one (ps_ret (pv 1)))), ?_⟩
  refine ⟨fun m σ H' => ∃ f : Int, σ = [some (.int n), some (.int f)] ∧ H' = H ∧ okRd n m f = true ∧ rdS n m f = rdL n ∧ 0 ≤ f ∧ f + m ≤ 40, ⟨40, 0, rfl, rfl, ok, rfl, by decide, by decide⟩, ?_⟩
  rintro m σ H' ⟨f, rfl, rfl, o1, e1, f0, f1⟩
  have sm1 : Sm 20 (f + 1) := by
    unfold Sm
    have : (f + 1).natAbs ≤ 41 := by omega
    exact Nat.lt_of_le_of_lt this (by decide)
  refine ⟨_, rfl, _, _, rfl, rfl, _, rfl, _, _, rfl, rfl, _, _, rfl, rfl, cm sm1 sm1, _, rfl, _, _, rfl, rfl, _, rfl, ?_⟩
  by_cases h : (f + 1) * (f + 1) ≤ n
  · rw [decide_eq_true h]
    cases m with
    | zero => exact absurd (of_decide_eq_true o1) (by omega)
    | succ m =>
      have o2 : okRd n m (f + 1) = true := by
        rcases Bool.or_eq_true_iff.mp o1 with z | z
        · exact absurd (of_decide_eq_true z) (by omega)
        · exact z
      refine iteT ⟨_, rfl, _, _, rfl, rfl, m, Nat.lt_succ_self m, f + 1, rfl, rfl, o2, ?_, by omega, by omega⟩
      rw [← e1]
      exact (if_pos h).symm
  · rw [decide_eq_false h]
    have e2 : rdS n m f = f := by
      cases m with
      | zero => rfl
      | succ m => exact if_neg h
    rw [e2] at e1
    refine iteF ⟨_, rfl, k _ _ (Same.refl _) ⟨?_, rfl⟩⟩
    rw [e1]
end
end Xq
/-! Shape.of's reckoning with its results given: what is asked is asked of literals. -/
namespace Xq
open PySem PySem.Spec PyProof.Rows L2
end Xq
/-! Texts of shapes, for any equation: what is asked of them holds by itself. -/
namespace Xq
open PySem PySem.Spec PyProof.Rows L2
theorem sp_tl : TL.tl (Str.ofString " ") = [32] := rfl
theorem tl_words : ∀ xs : List Int, TL.tl (wordsL xs) = TL.joinL [32] ((xs.map W).map TL.tl) := fun xs => by
  unfold wordsL
  rw [TL.join_eq, TL.tl_join, sp_tl]
theorem tl_root : TL.tl (Str.empty ++ Str.ofString "root ") = [114, 111, 111, 116, 32] := rfl
theorem tl_tx (r : Int) (xs : List Int) : TL.tl (txL r xs) = [114, 111, 111, 116, 32] ++ (TL.tl (W r) ++ ([32, 111, 102, 32] ++ TL.joinL [32] ((xs.map W).map TL.tl))) := by
  unfold txL
  rw [TL.tl_append, TL.tl_append, TL.tl_append, tl_root, tl_words, List.append_assoc, List.append_assoc]
  rfl
theorem tx_join (r : Int) {xs : List Int} (h : xs ≠ []) : txL r xs = Txt.join (Str.ofString " ") (Str.ofString "root" :: W r :: Str.ofString "of" :: xs.map W) := by
  refine TL.ext_tl ?_
  rw [tl_tx, TL.join_eq, TL.tl_join, sp_tl]
  cases xs with
  | nil => exact absurd rfl h
  | cons x l => 
    show _ = [114, 111, 111, 116] ++ ([32] ++ (TL.tl (W r) ++ ([32] ++ ([111, 102] ++ ([32] ++ TL.joinL [32] (((x :: l).map W).map TL.tl))))))
    simp only [List.cons_append, List.nil_append, List.append_assoc]
theorem split_tx (r : Int) {xs : List Int} (h : xs ≠ []) : Txt.split (txL r xs) (Str.ofString " ") = Str.ofString "root" :: W r :: Str.ofString "of" :: xs.map W := by
  rw [tx_join r h]
  refine TL.split_join (s := 32) (S := []) rfl (by decide +kernel) (by simp) ?_
  intro p hp
  rcases List.mem_cons.mp hp with rfl | hp
  · decide
  rcases List.mem_cons.mp hp with rfl | hp
  · exact free32 r
  rcases List.mem_cons.mp hp with rfl | hp
  · decide
  obtain ⟨x, _, rfl⟩ := List.mem_map.mp hp
  exact free32 x
theorem joinL_len : ∀ ps : List (List Nat), (TL.joinL [32] ps).length ≤ (ps.map (·.length)).sum + ps.length
  | [] => by decide
  | [p] => by
    show p.length ≤ p.length + 0 + 1
    omega
  | p :: q :: r => by
    have h := joinL_len (q :: r)
    show (p ++ ([32] ++ TL.joinL [32] (q :: r))).length ≤ _
    rw [List.length_append, List.length_append, List.map_cons, List.sum_cons]
    have e : (p :: q :: r).length = (q :: r).length + 1 := rfl
    rw [e]
    show p.length + (1 + _) ≤ _
    omega
theorem sum_le {c : Nat} : ∀ {l : List Nat}, (∀ x ∈ l, x ≤ c) → l.sum ≤ c * l.length
  | [], _ => by simp
  | x :: l, h => by
    have h1 := h x List.mem_cons_self
    have h2 := sum_le (l := l) fun y hy => h y (List.mem_cons_of_mem _ hy)
    rw [List.sum_cons, List.length_cons, Nat.mul_succ]
    omega
theorem words_sum {xs : List Int} (h6 : xs.length ≤ 6) (hx : ∀ x ∈ xs, x.natAbs ≤ 1000) : ((xs.map W).map (·.length)).sum ≤ 30 := by
  have h := sum_le (c := 5) (l := (xs.map W).map (·.length)) fun y hy => by
    obtain ⟨z, hz, rfl⟩ := List.mem_map.mp hy
    obtain ⟨x, hx', rfl⟩ := List.mem_map.mp hz
    exact w_len (hx x hx')
  rw [List.length_map, List.length_map] at h
  omega
theorem words_len {xs : List Int} (h6 : xs.length ≤ 6) (hx : ∀ x ∈ xs, x.natAbs ≤ 1000) : (wordsL xs).length ≤ 36 := by
  rw [TL.len_tl, tl_words]
  have h := joinL_len ((xs.map W).map TL.tl)
  have e : (((xs.map W).map TL.tl).map (·.length)) = (xs.map W).map (·.length) := by
    rw [List.map_map]
    refine List.map_congr_left fun s _ => ?_
    exact (TL.len_tl s).symm
  rw [e, List.length_map, List.length_map] at h
  have := words_sum h6 hx
  omega
theorem tx_len {r : Int} {xs : List Int} (hr : r.natAbs ≤ 1000) (h6 : xs.length ≤ 6) (hx : ∀ x ∈ xs, x.natAbs ≤ 1000) : (txL r xs).length ≤ 50 := by
  have hw := words_len h6 hx
  have hr' := w_len hr
  rw [TL.len_tl] at hw hr' ⊢
  rw [tl_words] at hw
  rw [tl_tx]
  simp only [List.length_append, List.length_cons, List.length_nil]
  omega
theorem okTx_of {r : Int} {xs : List Int} (hr : r.natAbs ≤ 1000) (h6 : xs.length ≤ 6) (hx : ∀ x ∈ xs, x.natAbs ≤ 1000) : okTx r xs = true := by
  have k10 : ∀ {n : Nat}, n ≤ 1000 → n < 2 ^ 1000 := fun {n} h => Nat.lt_of_le_of_lt h (by decide)
  have e1 : (Str.empty ++ Str.ofString "root ").length = 5 := rfl
  have e2 : (Str.ofString " of ").length = 4 := rfl
  have e3 : (Str.ofString " ").length = 1 := rfl
  have app : ∀ a b : Str, (a ++ b).length = a.length + b.length := fun a b => by
    rw [TL.len_tl, TL.len_tl, TL.len_tl, TL.tl_append, List.length_append]
  have hw := w_len hr
  unfold okTx
  simp only [Bool.and_eq_true, decide_eq_true_eq]
  refine ⟨⟨⟨⟨⟨⟨⟨⟨k10 hr, List.all_eq_true.mpr fun x h => decide_eq_true (k10 (hx x h))⟩, by omega⟩, ?_⟩, ?_⟩, ?_⟩, ?_⟩, Nat.le_trans (tx_len hr h6 hx) (by decide)⟩, Nat.le_trans (words_len h6 hx) (by decide)⟩
  · have := words_sum h6 hx
    rw [e3, List.length_map]
    omega
  · rw [e1]
    decide
  · rw [app, e1]
    omega
  · rw [app, app, e1, e2]
    omega
end Xq
/-! guessed and refined in general: where the sign changes once in a stretch, the floor is told. -/
namespace Xq
open PySem PySem.Spec PyProof.Rows L2
theorem foV_smK {K : Nat} {t b : Int} (ht : Sm K t) (hb : Sm K b) : ∀ (l : List Int), (∀ x ∈ l, Sm K x) → ∀ (k : Nat) (a : Int × Int), Sm k a.1 → Sm k a.2 → Sm (k + (K + 1) * l.length) (l.foldl (stV t b) a).1 ∧ Sm (k + (K + 1) * l.length) (l.foldl (stV t b) a).2
  | [], _, k, a, h1, h2 => ⟨h1, h2⟩
  | x :: l, hx, k, a, h1, h2 => by
    have hx0 := hx x List.mem_cons_self
    have q := foV_smK ht hb l (fun y hy => hx y (List.mem_cons_of_mem _ hy)) (k + (K + 1)) (stV t b a x) (sm_add (a := k + K) (sm_mul h1 ht) (sm_le (sm_mul hx0 h2) (by omega))) (sm_le (sm_mul h2 hb) (by omega))
    have e : k + (K + 1) + (K + 1) * l.length = k + (K + 1) * (x :: l).length := by
      rw [List.length_cons, Nat.mul_succ]
      omega
    rw [e] at q
    exact q
theorem val_sm {K : Nat} {xs : List Int} {t b : Int} (ht : Sm K t) (hb : Sm K b) (hx : ∀ x ∈ xs, Sm K x) : Sm (1 + (K + 1) * xs.length) (valL xs t b) := by
  have q := foV_smK ht hb xs.reverse (fun x h => hx x (List.mem_reverse.mp h)) 1 (0, 1) (by decide) (by decide)
  rw [List.length_reverse] at q
  exact q.1
theorem okVB_of {xs : List Int} {t b : Int} (l1 : 1 ≤ xs.length) (l8 : xs.length ≤ 8) (ht : Sm 900 t) (hb : Sm 900 b) (hx : ∀ x ∈ xs, Sm 900 x) : okVB xs t b = true := by
  have k : ∀ {x : Int}, Sm 900 x → smI 4000 x = true := fun {x} h => decide_eq_true (sm_le h (by decide))
  unfold okVB smB
  rw [decide_eq_true l1, decide_eq_true l8, k ht, k hb]
  exact List.all_eq_true.mpr fun x h => decide_eq_true (sm_le (hx x h) (by decide))
/-- in a stretch the sign changes once, at no fraction of a power of 2 -/
structure Fl (xs : List Int) (s : Bool) (F : Nat → Int) (b0 : Nat) : Prop where
  st : ∀ b, b0 ≤ b → F (b + 1) = 2 * F b ∨ F (b + 1) = 2 * F b + 1
  sg : ∀ b t, b0 ≤ b → F b0 * 2 ^ (b - b0) ≤ t → t ≤ (F b0 + 1) * 2 ^ (b - b0) → (ng xs t (pw b) = s ↔ t ≤ F b)
  nz : ∀ b t, b0 ≤ b → F b0 * 2 ^ (b - b0) ≤ t → t ≤ (F b0 + 1) * 2 ^ (b - b0) → valL xs t (pw b) ≠ 0
  l3 : 3 ≤ xs.length
  l8 : xs.length ≤ 8
  sm : ∀ x ∈ xs, Sm 30 x
  f0 : 0 ≤ F b0
  f1 : F b0 < 2 ^ 30
theorem two_pos (k : Nat) : (0 : Int) < 2 ^ k := Int.pow_pos (by decide)
theorem two_add (a b : Nat) : (2 : Int) ^ (a + b) = 2 ^ a * 2 ^ b := Int.pow_add ..
section
variable {xs : List Int} {s : Bool} {F : Nat → Int} {b0 : Nat}
theorem Fl.up (h : Fl xs s F b0) {b : Nat} (hb : b0 ≤ b) : ∀ j, F b * 2 ^ j ≤ F (b + j) ∧ F (b + j) + 1 ≤ (F b + 1) * 2 ^ j
  | 0 => by
    show F b * 1 ≤ F b ∧ F b + 1 ≤ (F b + 1) * 1
    omega
  | j + 1 => by
    obtain ⟨h1, h2⟩ := h.up hb j
    have e : (2 : Int) ^ (j + 1) = 2 ^ j * 2 := Int.pow_succ ..
    have a1 : F b * 2 ^ (j + 1) = F b * 2 ^ j * 2 := by rw [e, Int.mul_assoc]
    have a2 : (F b + 1) * 2 ^ (j + 1) = (F b + 1) * 2 ^ j * 2 := by rw [e, Int.mul_assoc]
    rw [a1, a2]
    show _ ≤ F (b + j + 1) ∧ F (b + j + 1) + 1 ≤ _
    rcases h.st (b + j) (by omega) with z | z <;> rw [z] <;> omega
/-- the finer stretch lies in the first one -/
theorem Fl.rng (h : Fl xs s F b0) {b k : Nat} (hb : b0 ≤ b) {t : Int} (h1 : F b * 2 ^ k ≤ t) (h2 : t ≤ (F b + 1) * 2 ^ k) : F b0 * 2 ^ (b + k - b0) ≤ t ∧ t ≤ (F b0 + 1) * 2 ^ (b + k - b0) := by
  obtain ⟨j, rfl⟩ : ∃ j, b = b0 + j := ⟨b - b0, by omega⟩
  obtain ⟨u1, u2⟩ := h.up (Nat.le_refl b0) j
  have e : b0 + j + k - b0 = j + k := by omega
  have p := two_pos k
  rw [e, two_add, ← Int.mul_assoc, ← Int.mul_assoc]
  exact ⟨Int.le_trans (Int.mul_le_mul_of_nonneg_right u1 (Int.le_of_lt p)) h1, Int.le_trans h2 (Int.mul_le_mul_of_nonneg_right u2 (Int.le_of_lt p))⟩
theorem Fl.sg' (h : Fl xs s F b0) {b k : Nat} (hb : b0 ≤ b) {t : Int} (h1 : F b * 2 ^ k ≤ t) (h2 : t ≤ (F b + 1) * 2 ^ k) : (ng xs t (pw (b + k)) = s ↔ t ≤ F (b + k)) ∧ valL xs t (pw (b + k)) ≠ 0 := by
  obtain ⟨r1, r2⟩ := h.rng hb h1 h2
  exact ⟨h.sg (b + k) t (by omega) r1 r2, h.nz (b + k) t (by omega) r1 r2⟩
theorem sm_of {a : Nat} {t : Int} (h0 : 0 ≤ t) (h1 : t < 2 ^ a) : Sm a t := by
  obtain ⟨n, rfl⟩ := Int.eq_ofNat_of_zero_le h0
  show n < 2 ^ a
  have e : ((2 : Int) ^ a) = ((2 ^ a : Nat) : Int) := by rw [Int.natCast_pow]; rfl
  rw [e] at h1
  exact Int.ofNat_lt.mp h1
/-- all that lies in the first stretch is small -/
theorem Fl.small (h : Fl xs s F b0) {b : Nat} (hb : b0 ≤ b) (lb : b ≤ 800) {t : Int} (h1 : F b0 * 2 ^ (b - b0) ≤ t) (h2 : t ≤ (F b0 + 1) * 2 ^ (b - b0)) : Sm 900 t ∧ 0 ≤ t := by
  have p := two_pos (b - b0)
  have t0 : 0 ≤ t := Int.le_trans (Int.mul_nonneg h.f0 (Int.le_of_lt p)) h1
  refine ⟨sm_of t0 (Int.lt_of_le_of_lt h2 ?_), t0⟩
  have a1 : (F b0 + 1) * 2 ^ (b - b0) ≤ 2 ^ 30 * 2 ^ (b - b0) := Int.mul_le_mul_of_nonneg_right (by have := h.f1; omega) (Int.le_of_lt p)
  refine Int.lt_of_le_of_lt a1 ?_
  rw [← two_add]
  exact Int.pow_lt_pow_of_lt (by decide) (by omega)
theorem pw_sm {b : Nat} (lb : b ≤ 800) : Sm 900 (pw b) := by
  have e : pw b = 2 ^ b := Int.one_mul _
  rw [e]
  exact sm_of (Int.le_of_lt (two_pos b)) (Int.pow_lt_pow_of_lt (by decide) (by omega))
theorem Fl.okv (h : Fl xs s F b0) {b : Nat} (hb : b0 ≤ b) (lb : b ≤ 800) {t : Int} (h1 : F b0 * 2 ^ (b - b0) ≤ t) (h2 : t ≤ (F b0 + 1) * 2 ^ (b - b0)) : okVB xs t (pw b) = true :=
  okVB_of (by have := h.l3; omega) h.l8 (h.small hb lb h1 h2).1 (pw_sm lb) fun x hx => sm_le (h.sm x hx) (by decide)
theorem Fl.val8 (h : Fl xs s F b0) {b : Nat} (hb : b0 ≤ b) (lb : b ≤ 800) {t : Int} (h1 : F b0 * 2 ^ (b - b0) ≤ t) (h2 : t ≤ (F b0 + 1) * 2 ^ (b - b0)) : Sm 7900 (valL xs t (pw b)) := by
  have q := val_sm (K := 900) (h.small hb lb h1 h2).1 (pw_sm lb) fun x hx => sm_le (h.sm x hx) (by decide)
  have := h.l8
  exact sm_le q (by omega)
theorem fdiv_in {X Y : Int} {k : Nat} (h : (X < 0 ∧ 0 < Y) ∨ (0 < X ∧ Y < 0)) : 0 ≤ (X * 2 ^ k).fdiv (X - Y) ∧ (X * 2 ^ k).fdiv (X - Y) < 2 ^ k := by
  have p := two_pos k
  have main : ∀ {a d : Int}, 0 ≤ a → a < d → 0 ≤ (a * 2 ^ k).fdiv d ∧ (a * 2 ^ k).fdiv d < 2 ^ k := fun {a d} h1 h2 => by
    rw [Int.fdiv_eq_ediv_of_nonneg _ (by omega)]
    refine ⟨Int.ediv_nonneg (Int.mul_nonneg h1 (Int.le_of_lt p)) (by omega), Int.ediv_lt_of_lt_mul (by omega) ?_⟩
    rw [Int.mul_comm]
    exact Int.mul_lt_mul_of_pos_left h2 p
  rcases h with ⟨h1, h2⟩ | ⟨h1, h2⟩
  · have e : (X * 2 ^ k).fdiv (X - Y) = ((-X) * 2 ^ k).fdiv (Y - X) := by
      rw [← Int.neg_fdiv_neg, Int.neg_mul, Int.neg_sub]
    rw [e]
    exact main (by omega) (by omega)
  · exact main (by omega) (by omega)
theorem Fl.gue (h : Fl xs s F b0) {b k : Nat} (hb : b0 ≤ b) (k1 : 1 ≤ k) (lb : b + k ≤ 800) :
    okG xs (F b) b k = true ∧ (gueL xs (F b) b k = none ∨ gueL xs (F b) b k = some (F (b + k))) ∧ (k = 1 → gueL xs (F b) b k = some (F (b + k))) := by
  have p := two_pos k
  -- both ends
  have A0 : F b * 2 ^ 0 ≤ F b := by show F b * 1 ≤ _; omega
  have A1 : F b ≤ (F b + 1) * 2 ^ 0 := by show F b ≤ (F b + 1) * 1; omega
  have B0 : F b * 2 ^ 0 ≤ F b + 1 := by show F b * 1 ≤ _; omega
  have B1 : F b + 1 ≤ (F b + 1) * 2 ^ 0 := by show F b + 1 ≤ (F b + 1) * 1; omega
  obtain ⟨sA, nA⟩ := h.sg' hb A0 A1
  obtain ⟨sB, nB⟩ := h.sg' hb B0 B1
  have sA : ng xs (F b) (pw b) = s := sA.mpr (Int.le_refl _)
  have sB : ¬ ng xs (F b + 1) (pw b) = s := fun e => by
    have z : F b + 1 ≤ F b := sB.mp e
    omega
  have nA : valL xs (F b) (pw b) ≠ 0 := nA
  have nB : valL xs (F b + 1) (pw b) ≠ 0 := nB
  have opp : (valL xs (F b) (pw b) < 0 ∧ 0 < valL xs (F b + 1) (pw b)) ∨ (0 < valL xs (F b) (pw b) ∧ valL xs (F b + 1) (pw b) < 0) := by
    rw [← sA] at sB
    unfold ng at sB
    by_cases c1 : valL xs (F b) (pw b) < 0
    · by_cases c2 : valL xs (F b + 1) (pw b) < 0
      · rw [decide_eq_true c1, decide_eq_true c2] at sB
        exact absurd rfl sB
      · exact .inl ⟨c1, by omega⟩
    · by_cases c2 : valL xs (F b + 1) (pw b) < 0
      · exact .inr ⟨by omega, c2⟩
      · rw [decide_eq_false c1, decide_eq_false c2] at sB
        exact absurd rfl sB
  obtain ⟨q0, q1⟩ := fdiv_in (k := k) opp
  have eP : plc xs (F b) b k = F b * 2 ^ k + (valL xs (F b) (pw b) * 2 ^ k).fdiv (valL xs (F b) (pw b) - valL xs (F b + 1) (pw b)) := rfl
  have eM : (F b + 1) * 2 ^ k = F b * 2 ^ k + 2 ^ k := by rw [Int.add_mul, Int.one_mul]
  obtain ⟨u1, u2⟩ := h.up hb k
  generalize hP : plc xs (F b) b k = Pl at *
  have P0 : F b * 2 ^ k ≤ Pl := by omega
  have P1 : Pl + 1 ≤ (F b + 1) * 2 ^ k := by omega
  have sP : ng xs Pl (pw (b + k)) = s ↔ Pl ≤ F (b + k) := (h.sg' hb P0 (by omega)).1
  have sP1 : ng xs (Pl + 1) (pw (b + k)) = s ↔ Pl + 1 ≤ F (b + k) := (h.sg' hb (by omega) P1).1
  have eA : adj xs (F b) b k = if Pl ≤ F (b + k) then (if Pl + 1 ≤ F (b + k) then Pl + 1 else Pl) else Pl - 1 := by
    unfold adj
    rw [hP, sA]
    by_cases c1 : Pl ≤ F (b + k)
    · rw [if_pos (sP.mpr c1), if_pos c1]
      by_cases c2 : Pl + 1 ≤ F (b + k)
      · rw [if_pos (sP1.mpr c2), if_pos c2]
      · rw [if_neg (fun z => c2 (sP1.mp z)), if_neg c2]
    · rw [if_neg (fun z => c1 (sP.mp z)), if_neg c1]
  have J0 : F b * 2 ^ k ≤ adj xs (F b) b k := by
    rw [eA]
    split
    · split <;> omega
    · omega
  have J1 : adj xs (F b) b k + 1 ≤ (F b + 1) * 2 ^ k := by
    rw [eA]
    split
    · split <;> omega
    · omega
  have sJ : ng xs (adj xs (F b) b k) (pw (b + k)) = s ↔ adj xs (F b) b k ≤ F (b + k) := (h.sg' hb J0 (by omega)).1
  have sJ1 : ng xs (adj xs (F b) b k + 1) (pw (b + k)) = s ↔ adj xs (F b) b k + 1 ≤ F (b + k) := (h.sg' hb (by omega) J1).1
  have eG : gueL xs (F b) b k = if adj xs (F b) b k = F (b + k) then some (F (b + k)) else none := by
    unfold gueL
    rw [sA]
    by_cases c1 : adj xs (F b) b k = F (b + k)
    · rw [if_pos (sJ.mpr (by omega)), if_neg (fun z => absurd (sJ1.mp z) (by omega)), if_pos c1, c1]
    · rw [if_neg c1]
      by_cases c2 : adj xs (F b) b k ≤ F (b + k)
      · rw [if_pos (sJ.mpr c2), if_pos (sJ1.mpr (by omega))]
      · rw [if_neg (fun z => c2 (sJ.mp z))]
  refine ⟨?_, ?_, ?_⟩
  · have bb : b ≤ 800 := by omega
    have rA := h.rng (k := 0) hb A0 A1
    have rB := h.rng (k := 0) hb B0 B1
    have rP := h.rng (k := k) hb P0 (by omega)
    have rP1 := h.rng (k := k) (t := Pl + 1) hb (by omega) P1
    have rJ := h.rng (k := k) hb J0 (by omega)
    have rJ1 := h.rng (k := k) (t := adj xs (F b) b k + 1) hb (by omega) J1
    have v1 := h.val8 hb bb rA.1 rA.2
    have v2 := h.val8 hb bb rB.1 rB.2
    unfold okG
    simp only [Bool.and_eq_true, decide_eq_true_eq, Bool.not_eq_true', decide_eq_false_iff_not]
    refine ⟨⟨⟨⟨⟨⟨⟨⟨⟨⟨decide_eq_true (sm_le (h.small hb bb rA.1 rA.2).1 (by decide)), by omega⟩, h.okv hb bb rA.1 rA.2⟩, h.okv hb bb rB.1 rB.2⟩, by omega⟩, decide_eq_true (sm_le v1 (by decide))⟩, decide_eq_true (sm_le (sm_sub v1 v2) (by decide))⟩,
      ?_⟩, ?_⟩, h.okv (by omega) lb rJ.1 rJ.2⟩, h.okv (by omega) lb rJ1.1 rJ1.2⟩
    · rw [hP]
      exact h.okv (by omega) lb rP.1 rP.2
    · rw [hP]
      exact h.okv (by omega) lb rP1.1 rP1.2
  · rw [eG]
    split
    · exact .inr rfl
    · exact .inl rfl
  · rintro rfl
    have e2 : (2 : Int) ^ 1 = 2 := rfl
    rw [eG, if_pos]
    rw [eA]
    rw [e2] at *
    split
    · split <;> omega
    · omega
theorem Fl.ref (h : Fl xs s F b0) {wd : Nat} (lw : wd ≤ 800) : ∀ (n b st : Nat), b0 ≤ b → b ≤ wd → 1 ≤ st → 2 * (wd - b) + min st (wd - b) ≤ n → okF xs wd n (F b) b st = true ∧ refS xs wd n (F b) b st = (F wd, wd)
  | 0, b, st, hb, hw, h1, hn => by
    have e : b = wd := by omega
    subst e
    exact ⟨decide_eq_true (Nat.le_refl _), rfl⟩
  | n + 1, b, st, hb, hw, h1, hn => by
    unfold okF refS
    by_cases e : wd ≤ b
    · have e' : b = wd := by omega
      subst e'
      rw [decide_eq_true e, if_pos e]
      exact ⟨rfl, rfl⟩
    · rw [decide_eq_false e, if_neg e, Bool.false_or]
      obtain ⟨o, d, one⟩ := h.gue (k := min st (wd - b)) hb (by omega) (by omega)
      rw [o, Bool.true_and]
      rcases d with d | d
      · rw [d]
        have k2 : 2 ≤ min st (wd - b) := by
          rcases Nat.lt_or_ge 1 (min st (wd - b)) with z | z
          · exact z
          · have := one (by omega)
            rw [d] at this
            cases this
        exact h.ref lw n b (min st (wd - b) / 2) hb hw (by omega) (by omega)
      · rw [d]
        exact h.ref lw n (b + min st (wd - b)) (2 * min st (wd - b)) (by omega) (by omega) (by omega) (by omega)
theorem Fl.refL (h : Fl xs s F b0) {wd : Nat} (lw : wd ≤ 800) (hw : b0 ≤ wd) : okRf xs (F b0) b0 wd = true ∧ refL xs (F b0) b0 wd = F wd := by
  obtain ⟨h1, h2⟩ := h.ref lw 20000 b0 1 (Nat.le_refl _) hw (Nat.le_refl _) (by omega)
  have l3 := h.l3
  have l8 := h.l8
  unfold okRf Xq.refL
  rw [if_neg (by omega), if_neg (by omega), h1, h2, decide_eq_true (show xs.length ≤ 1000 by omega), decide_eq_true (show wd ≤ 4000 by omega), Nat.sub_self]
  refine ⟨rfl, ?_⟩
  show F wd / 1 = F wd
  omega
end
end Xq
/-! Quadratic equations c + m x + x x: values, the chain, changes. -/
namespace Xq
open PySem PySem.Spec PyProof.Rows L2
theorem val3 (c m t b : Int) : valL [c, m, 1] t b = (t + m * b) * t + c * (b * b) := by
  show (((0 * t + 1 * 1) * t + m * (1 * b)) * t + c * (1 * b * b)) = _
  simp only [Int.zero_mul, Int.zero_add, Int.one_mul, Int.mul_one]
theorem val2 (m t b : Int) : valL [m, 2] t b = 2 * t + m * b := by
  show ((0 * t + 2 * 1) * t + m * (1 * b)) = _
  simp only [Int.zero_mul, Int.zero_add, Int.one_mul, Int.mul_one]
theorem val1 (t b : Int) : valL [1] t b = 1 := by
  show (0 * t + 1 * 1) = _
  simp only [Int.zero_mul, Int.zero_add, Int.one_mul]
def dis (c m : Int) : Int := m * m - 4 * c
theorem four (c m t b : Int) : 4 * valL [c, m, 1] t b = (2 * t + m * b) * (2 * t + m * b) - dis c m * (b * b) := by
  rw [val3]
  unfold dis
  grind
theorem nsq {D : Int} (h : ∀ u : Int, u * u ≠ D) : ∀ (k : Nat) (u : Int), u * u ≠ D * (2 ^ k * 2 ^ k)
  | 0, u, e => h u (by rw [e]; show D * (1 * 1) = D; omega)
  | k + 1, u, e => by
    have e2 : D * ((2 : Int) ^ (k + 1) * 2 ^ (k + 1)) = 4 * (D * (2 ^ k * 2 ^ k)) := by
      rw [Int.pow_succ]
      grind
    rw [e2] at e
    rcases Int.emod_two_eq u with z | z
    · obtain ⟨v, rfl⟩ : ∃ v, u = 2 * v := ⟨u / 2, by omega⟩
      refine nsq h k v ?_
      have : 2 * v * (2 * v) = 4 * (v * v) := by grind
      omega
    · obtain ⟨v, rfl⟩ : ∃ v, u = 2 * v + 1 := ⟨u / 2, by omega⟩
      have : (2 * v + 1) * (2 * v + 1) = 4 * (v * v) + 4 * v + 1 := by grind
      omega
theorem pw_eq (k : Nat) : pw k = 2 ^ k := Int.one_mul _
theorem nzq {c m : Int} (h : ∀ u : Int, u * u ≠ dis c m) (t : Int) (k : Nat) : valL [c, m, 1] t (pw k) ≠ 0 := fun e => by
  have q := four c m t (pw k)
  rw [e, pw_eq] at q
  exact nsq h k (2 * t + m * 2 ^ k) (by omega)
theorem der3 (c m : Int) : derL [c, m, 1] = [m, 2] := by
  show [((1 + 0 : Nat) : Int) * m, ((1 + 1 : Nat) : Int) * 1] = _
  simp
theorem trim_keep {xs : List Int} (h : xs.getLastD 0 ≠ 0) : trimI xs = xs := by
  cases e : xs.length with
  | zero =>
    cases xs with
    | nil => rfl
    | cons x l => cases e
  | succ n =>
    unfold trimI
    rw [e]
    unfold trimM
    have : xs.getD n 0 = xs.getLastD 0 := by
      rw [List.getD_eq_getElem?_getD, List.getLastD_eq_getLast?, List.getLast?_eq_getElem?, e]
      rfl
    rw [this, if_neg h, ← e, List.take_length]
theorem trim_drop (xs : List Int) : trimI (xs ++ [0]) = trimI xs := by
  unfold trimI
  rw [List.length_append]
  show (xs ++ [0]).take (trimM (xs ++ [0]) (xs.length + 1)) = _
  have h0 : ∀ m, m ≤ xs.length → trimM (xs ++ [0]) m = trimM xs m := fun m => by
    induction m with
    | zero => intro _; rfl
    | succ m ih =>
      intro hm
      unfold trimM
      have : (xs ++ [0]).getD m 0 = xs.getD m 0 := by
        rw [List.getD_eq_getElem?_getD, List.getD_eq_getElem?_getD, List.getElem?_append_left (by omega)]
      rw [this, ih (by omega)]
  have : (xs ++ [0]).getD xs.length 0 = 0 := by
    rw [List.getD_eq_getElem?_getD, List.getElem?_append_right (Nat.le_refl _), Nat.sub_self]
    rfl
  have e : trimM (xs ++ [0]) (xs.length + 1) = trimM xs xs.length := by
    rw [← h0 _ (Nat.le_refl _)]
    exact if_pos this
  rw [e, List.take_append_of_le_length (trimM_le xs xs.length)]
theorem nxt_a (c m : Int) : nxt [m, 2] [c, m, 1] = trimI [2 * c, m] := by
  show trimI [0 + 2 * c, 0 + 2 * m - 1 * m, 0 + 2 * 1 - 1 * 2] = _
  rw [show [0 + 2 * c, 0 + 2 * m - 1 * m, 0 + 2 * 1 - 1 * 2] = [2 * c, m] ++ [0] by simp; omega, trim_drop]
theorem nxt_b (c m : Int) : nxt [m, 2] [2 * c, m] = trimI [-(dis c m)] := by
  show trimI [0 + 2 * (2 * c) - m * m, 0 + 2 * m - m * 2] = _
  rw [show [0 + 2 * (2 * c) - m * m, 0 + 2 * m - m * 2] = [-(dis c m)] ++ [0] by unfold dis; simp; omega, trim_drop]
theorem nxt_c (m : Int) : nxt [1] [m, 2] = trimI [m] := by
  show trimI [0 + 1 * m, 0 + 1 * 2 - 2 * 1] = _
  rw [show [0 + 1 * m, 0 + 1 * 2 - 2 * 1] = [m] ++ [0] by simp, trim_drop]
theorem nxt_d (m : Int) : nxt [1] [m] = [] := by
  show trimI [0 + 1 * m - m * 1] = _
  rw [show [0 + 1 * m - m * 1] = [] ++ [0] by simp, trim_drop]
  rfl
theorem prim_neg {x : Int} (h : x < 0) : primL [x] = [-1] := by
  have e1 : gcdL [x] = x.natAbs := by
    show Nat.gcd 0 x.natAbs = _
    exact Nat.gcd_zero_left _
  unfold primL
  rw [e1]
  by_cases h1 : 1 < x.natAbs
  · rw [if_pos h1]
    show [Int.fdiv x (x.natAbs : Nat)] = [-1]
    have e2 : ((x.natAbs : Nat) : Int) = -x := by omega
    rw [e2, Int.fdiv_eq_ediv_of_nonneg _ (by omega)]
    have : x / (-x) = -1 := by
      rw [Int.ediv_neg, Int.ediv_self (by omega)]
    rw [this]
  · rw [if_neg h1]
    have : x = -1 := by omega
    rw [this]
/-- the conditions -/
structure Qd (c m : Int) : Prop where
  c1 : -1000 ≤ c
  c2 : c ≤ 1000
  m1 : -1000 ≤ m
  m2 : m ≤ 1000
  pos : 0 < dis c m
  ns : ∀ u : Int, u * u ≠ dis c m
theorem Qd.c0 {c m : Int} (h : Qd c m) : c ≠ 0 := fun e => by
  refine h.ns m ?_
  unfold dis
  rw [e]
  omega
theorem smB_of {xs : List Int} (h : ∀ x ∈ xs, x.natAbs ≤ 4000000) : smB 4000 xs = true :=
  List.all_eq_true.mpr fun x hx => decide_eq_true (Nat.lt_of_le_of_lt (h x hx) (Nat.lt_of_lt_of_le (show 4000000 < 2 ^ 22 by decide) (Nat.pow_le_pow_right (by decide) (by decide))))
section
variable {c m : Int}
theorem Qd.dis_le (h : Qd c m) : dis c m ≤ 1004000 := by
  have h1 : m * m ≤ 1000 * 1000 := by
    have := Int.natAbs_mul_self' m
    have l : m.natAbs ≤ 1000 := by
      have := h.m1
      have := h.m2
      omega
    have l2 : m.natAbs * m.natAbs ≤ 1000 * 1000 := Nat.mul_le_mul l l
    omega
  have := h.c1
  unfold dis
  omega
theorem g9 {x : Int} (hx : x.natAbs ≤ 4000000) : gcdL [x] < 2 ^ 9000 := by
  have e : gcdL [x] = x.natAbs := Nat.gcd_zero_left _
  rw [e]
  exact Nat.lt_of_le_of_lt hx (Nat.lt_of_lt_of_le (show 4000000 < 2 ^ 22 by decide) (Nat.pow_le_pow_right (by decide) (by decide)))
theorem g90 : gcdL [] < 2 ^ 9000 := by
  have e : gcdL [] = 0 := rfl
  rw [e]
  exact Nat.two_pow_pos 9000
theorem okR_stop {ys xs : List Int} (h1 : xs.length < ys.length) (h2 : gcdL xs < 2 ^ 9000) : ∀ n, okR ys n xs = true
  | 0 => by
    unfold okR
    rw [decide_eq_true h1, decide_eq_true h2]
    rfl
  | n + 1 => by
    unfold okR
    rw [decide_eq_true h1, decide_eq_true h2]
    rfl
theorem okR_step {ys xs : List Int} {n : Nat} (h1 : ys.length ≤ xs.length) (h2 : smB 4000 xs = true) (h3 : xs.length ≤ 1000) (h4 : okR ys n (nxt ys xs) = true) : okR ys (n + 1) xs = true := by
  unfold okR
  rw [decide_eq_true h1, h2, decide_eq_true h3, h4]
  simp
theorem remS_stop {ys xs : List Int} (h : xs.length < ys.length) : ∀ n, remS ys n xs = xs
  | 0 => rfl
  | n + 1 => if_pos h
theorem remS_step {ys xs : List Int} {n : Nat} (h : ys.length ≤ xs.length) : remS ys (n + 1) xs = remS ys n (nxt ys xs) := if_neg (by omega)
theorem okC_step {n : Nat} {b a : List Int} {r : List (List Int)} (h0 : SeqAt.shaped (dT b) = true) (h1 : (PyData.eqv (dT b) (.tuple []) == b.isEmpty) = true) (h2 : b.length ≤ 1000) (h3 : smB 4000 b = true) (h4 : okR b 20 a = true) {x : List Int} (hx : remL b 20 a = x) (h5 : x.length ≤ 1000) (h6 : r.length ≤ 100)
    (h7 : okC n ((x.map fun x => -x) :: b :: a :: r) = true) : okC (n + 1) (b :: a :: r) = true := by
  unfold okC
  rw [h0, h1, decide_eq_true h2, h3, h4, hx, decide_eq_true h5, decide_eq_true h6, h7]
  simp
theorem chS_step {n : Nat} {b a : List Int} {r : List (List Int)} (h : b.isEmpty = false) {x : List Int} (hx : remL b 20 a = x) : chS (n + 1) (b :: a :: r) = chS n ((x.map fun x => -x) :: b :: a :: r) := by
  show (if b.isEmpty then b :: a :: r else chS n (((remL b 20 a).map fun x => -x) :: b :: a :: r)) = _
  rw [h, hx]
  rfl
theorem Qd.rem1 (h : Qd c m) : remL [m, 2] 20 [c, m, 1] = [-1] ∧ okR [m, 2] 20 [c, m, 1] = true := by
  have e0 : dis c m = m * m - 4 * c := rfl
  have hp := h.pos
  have hc1 := h.c1
  have hc2 := h.c2
  have hm1 := h.m1
  have hm2 := h.m2
  have hd := h.dis_le
  have l32 : ([m, 2] : List Int).length ≤ [c, m, 1].length := Nat.le_succ 2
  have q1 : [c, m, 1].length ≤ 1000 := show 3 ≤ 1000 by decide
  have s3 : smB 4000 [c, m, 1] = true := smB_of fun x hx => by
    simp only [List.mem_cons, List.not_mem_nil, or_false] at hx
    omega
  by_cases z : m = 0
  · have nz : 2 * c ≠ 0 := by have := h.c0; omega
    have e1 : nxt [m, 2] [c, m, 1] = [2 * c] := by
      rw [nxt_a, z, show [2 * c, 0] = [2 * c] ++ [0] from rfl, trim_drop, trim_keep (xs := [2 * c]) nz]
    have hn : 2 * c < 0 := by
      rw [z] at e0
      have e0 : dis c 0 = 0 - 4 * c := e0
      rw [z] at hp
      omega
    have lt : ([2 * c] : List Int).length < [m, 2].length := Nat.lt_succ_self 1
    refine ⟨?_, okR_step l32 s3 q1 ?_⟩
    · unfold remL
      rw [remS_step l32, e1, remS_stop lt]
      exact prim_neg hn
    · rw [e1]
      exact okR_stop lt (g9 (by omega)) _
  · have e1 : nxt [m, 2] [c, m, 1] = [2 * c, m] := by
      rw [nxt_a, trim_keep (xs := [2 * c, m]) z]
    have e1' : nxt [m, 2] [2 * c, m] = [-(dis c m)] := by
      rw [nxt_b, trim_keep]
      show -(dis c m) ≠ 0
      omega
    have s2 : smB 4000 [2 * c, m] = true := smB_of fun x hx => by
      simp only [List.mem_cons, List.not_mem_nil, or_false] at hx
      omega
    have l22 : ([m, 2] : List Int).length ≤ [2 * c, m].length := Nat.le_refl 2
    have lt : ([-(dis c m)] : List Int).length < [m, 2].length := Nat.lt_succ_self 1
    refine ⟨?_, okR_step l32 s3 q1 ?_⟩
    · unfold remL
      rw [remS_step l32, e1, remS_step l22, e1', remS_stop lt]
      exact prim_neg (by omega)
    · rw [e1]
      refine okR_step l22 s2 (show 2 ≤ 1000 by decide) ?_
      rw [e1']
      exact okR_stop lt (g9 (by omega)) _
theorem Qd.rem2 (h : Qd c m) : remL [1] 20 [m, 2] = [] ∧ okR [1] 20 [m, 2] = true := by
  have hm1 := h.m1
  have hm2 := h.m2
  have s2 : smB 4000 [m, 2] = true := smB_of fun x hx => by
    simp only [List.mem_cons, List.not_mem_nil, or_false] at hx
    omega
  have l12 : ([1] : List Int).length ≤ [m, 2].length := Nat.le_succ 1
  have lt : ([] : List Int).length < [(1 : Int)].length := Nat.lt_succ_self 0
  by_cases z : m = 0
  · have e1 : nxt [1] [m, 2] = [] := by
      rw [nxt_c, z, show [(0 : Int)] = [] ++ [0] from rfl, trim_drop]
      rfl
    refine ⟨?_, okR_step l12 s2 (show 2 ≤ 1000 by decide) ?_⟩
    · unfold remL
      rw [remS_step l12, e1, remS_stop lt]
      rfl
    · rw [e1]
      exact okR_stop lt g90 _
  · have e1 : nxt [1] [m, 2] = [m] := by
      rw [nxt_c, trim_keep (xs := [m]) z]
    have s1 : smB 4000 [m] = true := smB_of fun x hx => by
      simp only [List.mem_cons, List.not_mem_nil, or_false] at hx
      omega
    have l11 : ([1] : List Int).length ≤ [m].length := Nat.le_refl 1
    refine ⟨?_, okR_step l12 s2 (show 2 ≤ 1000 by decide) ?_⟩
    · unfold remL
      rw [remS_step l12, e1, remS_step l11, nxt_d, remS_stop lt]
      rfl
    · rw [e1]
      refine okR_step l11 s1 (show 1 ≤ 1000 by decide) ?_
      rw [nxt_d]
      exact okR_stop lt g90 _
theorem Qd.chain (h : Qd c m) : sturmL [c, m, 1] = [[c, m, 1], [m, 2], [1]] ∧ okS [c, m, 1] = true := by
  obtain ⟨r1, o1⟩ := h.rem1
  obtain ⟨r2, o2⟩ := h.rem2
  have hm1 := h.m1
  have hm2 := h.m2
  refine ⟨?_, ?_⟩
  · unfold sturmL
    rw [der3, chS_step (n := 9) rfl r1]
    show (chS 9 ([1] :: [m, 2] :: [c, m, 1] :: [])).tail.reverse = _
    rw [chS_step (n := 8) rfl r2]
    rfl
  · have s2 : smB 4000 [m, 2] = true := smB_of fun x hx => by
      simp only [List.mem_cons, List.not_mem_nil, or_false] at hx
      omega
    have s1 : smB 4000 [1] = true := smB_of fun x hx => by
      simp only [List.mem_cons, List.not_mem_nil, or_false] at hx
      omega
    unfold okS
    rw [der3, okC_step (n := 9) (b := [m, 2]) (a := [c, m, 1]) (r := []) rfl rfl (show 2 ≤ 1000 by decide) s2 o1 r1 (show 1 ≤ 1000 by decide) (show 0 ≤ 100 by decide) (okC_step (n := 8) (b := [1]) (a := [m, 2]) (r := [[c, m, 1]]) rfl rfl (show 1 ≤ 1000 by decide) s1 o2 r2 (show 0 ≤ 1000 by decide) (show 1 ≤ 100 by decide) rfl)]
    rfl
end
end Xq
/-! The floors of a root where the sign changes once; lonely_stretch where a unit holds one root. -/
namespace Xq
open PySem PySem.Spec PyProof.Rows L2
/-- the floors, bit by bit -/
def flS (xs : List Int) (s : Bool) (z : Int) : Nat → Int
  | 0 => z
  | k + 1 => if ng xs (2 * flS xs s z k + 1) (pw (k + 1)) = s then 2 * flS xs s z k + 1 else 2 * flS xs s z k
structure Mo (xs : List Int) (s : Bool) (z : Int) : Prop where
  mono : ∀ (k : Nat) (t t' : Int), z * 2 ^ k ≤ t → t ≤ t' → t' ≤ (z + 1) * 2 ^ k → ng xs t' (pw k) = s → ng xs t (pw k) = s
  nz : ∀ (k : Nat) (t : Int), z * 2 ^ k ≤ t → t ≤ (z + 1) * 2 ^ k → valL xs t (pw k) ≠ 0
  lo : ng xs z (pw 0) = s
  hi : ng xs (z + 1) (pw 0) ≠ s
  hom : ∀ (k : Nat) (t : Int), ng xs (2 * t) (pw (k + 1)) = ng xs t (pw k)
  l3 : 3 ≤ xs.length
  l8 : xs.length ≤ 8
  sm : ∀ x ∈ xs, Sm 30 x
  z0 : 0 ≤ z
  z1 : z < 2 ^ 30
section
variable {xs : List Int} {s : Bool} {z : Int}
theorem Mo.inv (h : Mo xs s z) : ∀ k, z * 2 ^ k ≤ flS xs s z k ∧ flS xs s z k + 1 ≤ (z + 1) * 2 ^ k ∧ ng xs (flS xs s z k) (pw k) = s ∧ ng xs (flS xs s z k + 1) (pw k) ≠ s
  | 0 => ⟨show z * 1 ≤ z by omega, show z + 1 ≤ (z + 1) * 1 by omega, h.lo, h.hi⟩
  | k + 1 => by
    obtain ⟨a, b, c, d⟩ := h.inv k
    have e : (2 : Int) ^ (k + 1) = 2 ^ k * 2 := Int.pow_succ ..
    have a1 : z * 2 ^ (k + 1) = z * 2 ^ k * 2 := by rw [e, Int.mul_assoc]
    have a2 : (z + 1) * 2 ^ (k + 1) = (z + 1) * 2 ^ k * 2 := by rw [e, Int.mul_assoc]
    rw [← h.hom] at c d
    have e2 : 2 * (flS xs s z k + 1) = 2 * flS xs s z k + 1 + 1 := by omega
    rw [e2] at d
    rw [a1, a2]
    unfold flS
    by_cases q : ng xs (2 * flS xs s z k + 1) (pw (k + 1)) = s
    · rw [if_pos q]
      exact ⟨by omega, by omega, q, d⟩
    · rw [if_neg q]
      exact ⟨by omega, by omega, c, q⟩
theorem Mo.fl (h : Mo xs s z) : Fl xs s (flS xs s z) 0 where
  st := fun b _ => by
    by_cases q : ng xs (2 * flS xs s z b + 1) (pw (b + 1)) = s
    · exact .inr (if_pos q)
    · exact .inl (if_neg q)
  sg := fun b t _ h1 h2 => by
    obtain ⟨a, b', c, d⟩ := h.inv b
    have h1 : z * 2 ^ b ≤ t := h1
    have h2 : t ≤ (z + 1) * 2 ^ b := h2
    refine ⟨fun q => ?_, fun q => h.mono b t _ h1 q (by omega) c⟩
    rcases Int.lt_or_le (flS xs s z b) t with l | l
    · exact absurd (h.mono b _ t (by omega) (by omega) h2 q) d
    · exact l
  nz := fun b t _ h1 h2 => h.nz b t h1 h2
  l3 := h.l3
  l8 := h.l8
  sm := h.sm
  f0 := h.z0
  f1 := h.z1
theorem pw0 : pw 0 = 1 := rfl
/-- a root alone in its unit -/
structure Lo (cs : List (List Int)) (rank z R : Int) : Prop where
  okc : ∀ t, 0 ≤ t → t ≤ R → okChB cs t 1 = true
  up : ∀ t, 0 ≤ t → t ≤ R → (upL cs t 1 > rank ↔ t > z)
  one : chgL cs z 1 - chgL cs (z + 1) 1 ≤ 1
  z0 : 0 ≤ z
  z1 : z < R
theorem Lo.run {cs : List (List Int)} {rank R : Int} (h : Lo cs rank z R) : ∀ (n : Nat) (lo hi : Int), 0 ≤ lo → lo ≤ z → z < hi → hi ≤ R → hi - lo ≤ 2 ^ n → lonS cs rank n lo hi 0 = (z, 0) ∧ okLo cs rank n lo hi 0 = true
  | 0, lo, hi, a0, a, b, c, d => by
    have d : hi - lo ≤ 1 := d
    obtain rfl : lo = z := by omega
    obtain rfl : hi = lo + 1 := by omega
    refine ⟨rfl, ?_⟩
    have g : lonGo cs lo (lo + 1) 0 = false := by
      unfold lonGo
      rw [pw0, decide_eq_false (by omega), decide_eq_false (by have := h.one; omega)]
      rfl
    unfold okLo
    rw [pw0, h.okc _ a0 (by omega), h.okc _ (by omega) c, g]
    rfl
  | n + 1, lo, hi, a0, a, b, c, d => by
    have e : (2 : Int) ^ (n + 1) = 2 ^ n * 2 := Int.pow_succ ..
    rw [e] at d
    by_cases g1 : hi - lo = 1
    · obtain rfl : lo = z := by omega
      obtain rfl : hi = lo + 1 := by omega
      have g : lonGo cs lo (lo + 1) 0 = false := by
        unfold lonGo
        rw [pw0, decide_eq_false (by omega), decide_eq_false (by have := h.one; omega)]
        rfl
      unfold okLo lonS
      rw [pw0, h.okc _ a0 (by omega), h.okc _ (by omega) c, g]
      exact ⟨rfl, rfl⟩
    · have g : lonGo cs lo hi 0 = true := by
        unfold lonGo
        rw [decide_eq_true (by omega)]
        rfl
      have t : lonT lo hi 0 = (lo, hi, 0) := if_neg g1
      have em : lonM lo hi 0 = (lo + hi) / 2 := by
        unfold lonM
        rw [t]
      have m1 : lo < (lo + hi) / 2 := by omega
      have m2 : (lo + hi) / 2 < hi := by omega
      unfold okLo lonS
      rw [t, em, g]
      simp only
      rw [pw0, h.okc _ a0 (by omega), h.okc _ (by omega) c, h.okc ((lo + hi) / 2) (by omega) (by omega)]
      by_cases u : upL cs ((lo + hi) / 2) 1 > rank
      · have hu := (h.up _ (by omega) (by omega)).mp u
        obtain ⟨r1, r2⟩ := h.run n lo ((lo + hi) / 2) a0 a hu (by omega) (by omega)
        rw [if_pos trivial, if_pos u, if_pos u, r1, r2]
        exact ⟨rfl, rfl⟩
      · have hu : ¬ (lo + hi) / 2 > z := fun q => u ((h.up _ (by omega) (by omega)).mpr q)
        obtain ⟨r1, r2⟩ := h.run n ((lo + hi) / 2) hi (by omega) (by omega) b c (by omega)
        rw [if_pos trivial, if_neg u, if_neg u, r1, r2]
        exact ⟨rfl, rfl⟩
/-- stretch_of, where the sign changes once and the root is alone in its unit -/
theorem str_of {rank : Int} (h : Mo xs s z) (oS : okS xs = true) (oU : okUB (sturmL xs) = true) (hl : Lo (sturmL xs) rank z (reachL xs)) (hR : reachL xs ≤ 2 ^ 60) :
    okStr xs rank = true ∧ strL xs rank = (flS xs s z 64, 64) := by
  obtain ⟨r1, r2⟩ := hl.run 60 0 (reachL xs) (Int.le_refl _) hl.z0 hl.z1 (Int.le_refl _) (by omega)
  have e : lonL xs rank = (z, 0) := r1
  obtain ⟨q1, q2⟩ := h.fl.refL (wd := 64) (by decide) (Nat.zero_le _)
  have q1 : okRf xs z 0 64 = true := q1
  have q2 : refL xs z 0 64 = flS xs s z 64 := q2
  refine ⟨?_, ?_⟩
  · unfold okStr okLon
    rw [e, oS, oU, r2]
    exact q1
  · unfold strL
    rw [e]
    show (refL xs z 0 64, 64) = _
    rw [q2]
end
end Xq
/-! Quadratic equations: changes, counts, floors. -/
namespace Xq
open PySem PySem.Spec PyProof.Rows L2
abbrev qC (c m : Int) : List (List Int) := [[c, m, 1], [m, 2], [1]]
def chg3 (P Q : Int) : Int := if P < 0 then 1 else if Q < 0 then 2 else 0
theorem chg_q {c m t b : Int} (hP : valL [c, m, 1] t b ≠ 0) (hQ : 0 < valL [c, m, 1] t b → valL [m, 2] t b ≠ 0) : chgL (qC c m) t b = chg3 (valL [c, m, 1] t b) (valL [m, 2] t b) := by
  unfold chgL
  show (((difL ((sgnL [valL [c, m, 1] t b, valL [m, 2] t b, valL [1] t b]).zip ((sgnL [valL [c, m, 1] t b, valL [m, 2] t b, valL [1] t b]).drop 1))).length : Nat) : Int) = _
  rw [val1]
  generalize valL [c, m, 1] t b = P at *
  generalize valL [m, 2] t b = Q at *
  have e3 : sgnL [P, Q, 1] = sgn1 P ++ (sgn1 Q ++ [true]) := rfl
  rw [e3]
  unfold chg3
  have st : ∀ {x : Int}, 0 < x → sgn1 x = [true] := fun {x} h => by
    unfold sgn1
    rw [if_neg (by omega), decide_eq_true h]
  have sf : ∀ {x : Int}, x < 0 → sgn1 x = [false] := fun {x} h => by
    unfold sgn1
    rw [if_neg (by omega), decide_eq_false (by omega)]
  by_cases p : P < 0
  · rw [sf p, if_pos p]
    by_cases q0 : Q = 0
    · have : sgn1 Q = [] := if_pos q0
      rw [this]
      rfl
    · by_cases q : 0 < Q
      · rw [st q]
        rfl
      · rw [sf (by omega)]
        rfl
  · rw [st (by omega), if_neg p]
    have q0 := hQ (by omega)
    by_cases q : Q < 0
    · rw [sf q, if_pos q]
      rfl
    · rw [st (by omega), if_neg q]
      rfl
theorem sq_up {a b : Int} (h0 : 0 ≤ a) (h : a ≤ b) : a * a ≤ b * b := Int.mul_le_mul h h h0 (by omega)
theorem sq_dn {a b : Int} (h0 : b ≤ 0) (h : a ≤ b) : b * b ≤ a * a := by
  have := sq_up (a := -b) (b := -a) (by omega) (by omega)
  rw [Int.neg_mul_neg, Int.neg_mul_neg] at this
  exact this
theorem fourQ (c m t b : Int) : 4 * valL [c, m, 1] t b = valL [m, 2] t b * valL [m, 2] t b - dis c m * (b * b) := by
  rw [four, val2]
theorem pw_pos (k : Nat) : 0 < pw k := by
  rw [pw_eq]
  exact two_pos k
theorem reach_q (c m : Int) : absI c + 1 ≤ reachL [c, m, 1] ∧ absI m + 1 ≤ reachL [c, m, 1] ∧ 2 ≤ reachL [c, m, 1] := by
  unfold reachL
  have h1 := mxL_le (l := [c, m, 1].map absI) (x := absI c) (by simp)
  have h2 := mxL_le (l := [c, m, 1].map absI) (x := absI m) (by simp)
  have h3 := mxL_le (l := [c, m, 1].map absI) (x := 1) (by simp [absI])
  omega
theorem absI_le (x : Int) : x ≤ absI x ∧ -x ≤ absI x ∧ 0 ≤ absI x := by
  unfold absI
  split <;> omega
theorem absI_lt {x : Int} (h1 : -1000 ≤ x) (h2 : x ≤ 1000) : absI x ≤ 1000 := by
  unfold absI
  split <;> omega
section
variable {c m : Int}
theorem Qd.reach (h : Qd c m) : reachL [c, m, 1] ≤ 1001 := by
  unfold reachL
  have := mxL_mem (l := [c, m, 1].map absI) (by simp) fun x hx => by
    obtain ⟨y, _, rfl⟩ := List.mem_map.mp hx
    exact (absI_le y).2.2
  obtain ⟨y, hy, e⟩ := List.mem_map.mp this
  rw [← e]
  have := h.c1
  have := h.c2
  have := h.m1
  have := h.m2
  have : absI y ≤ 1000 := by
    simp only [List.mem_cons, List.not_mem_nil, or_false] at hy
    rcases hy with rfl | rfl | rfl
    · exact absI_lt h.c1 h.c2
    · exact absI_lt h.m1 h.m2
    · decide
  omega
theorem Qd.nzQ (h : Qd c m) {t : Int} {k : Nat} (p : 0 < valL [c, m, 1] t (pw k)) : valL [m, 2] t (pw k) ≠ 0 := fun e => by
  have q := fourQ c m t (pw k)
  rw [e] at q
  have : 0 < dis c m * (pw k * pw k) := Int.mul_pos h.pos (Int.mul_pos (pw_pos k) (pw_pos k))
  omega
theorem Qd.chg (h : Qd c m) (t : Int) (k : Nat) : chgL (qC c m) t (pw k) = chg3 (valL [c, m, 1] t (pw k)) (valL [m, 2] t (pw k)) := chg_q (nzq h.ns t k) h.nzQ
theorem v31 (t : Int) : valL [c, m, 1] t 1 = (t + m) * t + c := by
  rw [val3]
  simp only [Int.mul_one]
theorem v21 (t : Int) : valL [m, 2] t 1 = 2 * t + m := by
  rw [val2]
  omega
theorem Qd.lowest (h : Qd c m) : chgL (qC c m) (-(reachL [c, m, 1])) 1 = 2 := by
  have e := h.chg (-(reachL [c, m, 1])) 0
  rw [pw0] at e
  rw [e, v31, v21]
  obtain ⟨r1, r2, r3⟩ := reach_q c m
  have ac := absI_le c
  have am := absI_le m
  generalize reachL [c, m, 1] = R at *
  have : R ≤ (R - m) * R := by
    have := Int.mul_le_mul_of_nonneg_right (show (1 : Int) ≤ R - m by omega) (show 0 ≤ R by omega)
    omega
  have e2 : (-R + m) * -R = (R - m) * R := by grind
  unfold chg3
  rw [e2, if_neg (by omega), if_pos (by omega)]
theorem Qd.highest (h : Qd c m) : chgL (qC c m) (reachL [c, m, 1]) 1 = 0 := by
  have e := h.chg (reachL [c, m, 1]) 0
  rw [pw0] at e
  rw [e, v31, v21]
  obtain ⟨r1, r2, r3⟩ := reach_q c m
  have ac := absI_le c
  have am := absI_le m
  generalize reachL [c, m, 1] = R at *
  have : R ≤ (R + m) * R := by
    have := Int.mul_le_mul_of_nonneg_right (show (1 : Int) ≤ R + m by omega) (show 0 ≤ R by omega)
    omega
  unfold chg3
  rw [if_neg (by omega), if_neg (by omega)]
theorem Qd.up (h : Qd c m) (t : Int) : upL (qC c m) t 1 = 2 - chg3 (valL [c, m, 1] t 1) (valL [m, 2] t 1) := by
  have e := h.chg t 0
  rw [pw0] at e
  unfold upL
  show chgL (qC c m) (-(reachL [c, m, 1])) 1 - _ = _
  rw [h.lowest, e]
theorem Qd.all (h : Qd c m) : allL (qC c m) = 2 := by
  unfold allL upL
  show chgL (qC c m) (-(reachL [c, m, 1])) 1 - chgL (qC c m) (reachL [c, m, 1]) 1 = _
  rw [h.lowest, h.highest]
  rfl
/-- counts, by what is squared -/
theorem Qd.cnt (h : Qd c m) (t : Int) : ((2 * t + m) * (2 * t + m) < dis c m → chg3 (valL [c, m, 1] t 1) (valL [m, 2] t 1) = 1) ∧
    (dis c m ≤ (2 * t + m) * (2 * t + m) → 2 * t + m < 0 → chg3 (valL [c, m, 1] t 1) (valL [m, 2] t 1) = 2) ∧ (dis c m ≤ (2 * t + m) * (2 * t + m) → 0 ≤ 2 * t + m → chg3 (valL [c, m, 1] t 1) (valL [m, 2] t 1) = 0) := by
  have q := fourQ c m t 1
  rw [v21] at q ⊢
  unfold chg3
  refine ⟨fun l => ?_, fun l n => ?_, fun l n => ?_⟩
  · rw [if_pos (by omega)]
  · rw [if_neg (by omega), if_pos n]
  · rw [if_neg (by omega), if_neg (by omega)]
theorem Qd.mono (h : Qd c m) {r : Int} (hr : r = 0 ∨ r = 1) {t t' : Int} (ht : t ≤ t') (u : upL (qC c m) t 1 > r) : upL (qC c m) t' 1 > r := by
  rw [h.up] at u ⊢
  obtain ⟨a1, a2, a3⟩ := h.cnt t
  obtain ⟨b1, b2, b3⟩ := h.cnt t'
  rcases Int.lt_or_le ((2 * t' + m) * (2 * t' + m)) (dis c m) with q' | q'
  · have e' := b1 q'
    rw [e']
    rcases Int.lt_or_le ((2 * t + m) * (2 * t + m)) (dis c m) with q | q
    · rw [a1 q] at u
      exact u
    · rcases Int.lt_or_le (2 * t + m) 0 with n | n
      · rw [a2 q n] at u
        omega
      · have := sq_up n (show 2 * t + m ≤ 2 * t' + m by omega)
        omega
  · rcases Int.lt_or_le (2 * t' + m) 0 with n' | n'
    · have := sq_dn (show 2 * t' + m ≤ 0 by omega) (show 2 * t + m ≤ 2 * t' + m by omega)
      rw [a2 (by omega) (by omega)] at u
      omega
    · rw [b3 q' n']
      omega
theorem least_up {p : Int → Prop} (dp : ∀ t, p t ∨ ¬ p t) : ∀ n : Nat, ¬ p 0 → p (n : Int) → ∃ z : Int, 0 ≤ z ∧ z < n ∧ ¬ p z ∧ p (z + 1)
  | 0, h0, h1 => absurd h1 h0
  | n + 1, h0, h1 => by
    rcases dp (n : Int) with q | q
    · obtain ⟨z, a, b, c, d⟩ := least_up dp n h0 q
      exact ⟨z, a, by omega, c, d⟩
    · exact ⟨n, by omega, by omega, q, by have e : ((n + 1 : Nat) : Int) = (n : Int) + 1 := by omega
                                          rw [← e]; exact h1⟩
/-- the floor of the root of rank r, which is above 0 -/
theorem Qd.floor (h : Qd c m) {r : Int} (hr : r = 0 ∨ r = 1) (h0 : upL (qC c m) 0 1 ≤ r) : ∃ z : Int, 0 ≤ z ∧ z < reachL [c, m, 1] ∧ ∀ t, (upL (qC c m) t 1 > r ↔ t > z) := by
  obtain ⟨r1, r2, r3⟩ := reach_q c m
  obtain ⟨n, hn⟩ := Int.eq_ofNat_of_zero_le (show 0 ≤ reachL [c, m, 1] by omega)
  have hR : upL (qC c m) (n : Int) 1 > r := by
    have := h.all
    unfold allL at this
    have e : reachL ((qC c m).headD []) = (n : Int) := hn
    rw [e] at this
    omega
  obtain ⟨z, a, b, nz, y⟩ := least_up (p := fun t => upL (qC c m) t 1 > r) (fun t => Decidable.em _) n (by show ¬ _ > r; omega) hR
  refine ⟨z, a, by rw [hn]; exact b, fun t => ⟨fun u => ?_, fun u => h.mono hr (show z + 1 ≤ t by omega) y⟩⟩
  rcases Int.lt_or_le z t with l | l
  · exact l
  · exact absurd (h.mono hr l u) nz
theorem Qd.okv (h : Qd c m) {t b : Int} (ht : Sm 900 t) (hb : Sm 900 b) : okChB (qC c m) t b = true := by
  have k : ∀ {x : Int}, -1000 ≤ x → x ≤ 1000 → Sm 900 x := fun {x} h1 h2 => by
    show x.natAbs < 2 ^ 900
    exact Nat.lt_of_lt_of_le (show x.natAbs < 2 ^ 10 by omega) (Nat.pow_le_pow_right (by decide) (by decide))
  have kc := k h.c1 h.c2
  have km := k h.m1 h.m2
  have k1 : Sm 900 1 := k (by decide) (by decide)
  have k2 : Sm 900 2 := k (by decide) (by decide)
  have o1 : okVB [c, m, 1] t b = true := okVB_of (show 1 ≤ 3 by decide) (show 3 ≤ 8 by decide) ht hb fun x hx => by
    simp only [List.mem_cons, List.not_mem_nil, or_false] at hx
    rcases hx with rfl | rfl | rfl <;> assumption
  have o2 : okVB [m, 2] t b = true := okVB_of (show 1 ≤ 2 by decide) (show 2 ≤ 8 by decide) ht hb fun x hx => by
    simp only [List.mem_cons, List.not_mem_nil, or_false] at hx
    rcases hx with rfl | rfl <;> assumption
  have o3 : okVB [1] t b = true := okVB_of (show 1 ≤ 1 by decide) (show 1 ≤ 8 by decide) ht hb fun x hx => by
    simp only [List.mem_cons, List.not_mem_nil, or_false] at hx
    rw [hx]
    exact k1
  show (true && (okVB [c, m, 1] t b && (okVB [m, 2] t b && (okVB [1] t b && true)))) = true
  rw [o1, o2, o3]
  rfl
theorem sm9 {t : Int} (h1 : -1001 ≤ t) (h2 : t ≤ 1001) : Sm 900 t := by
  show t.natAbs < 2 ^ 900
  exact Nat.lt_of_lt_of_le (show t.natAbs < 2 ^ 10 by omega) (Nat.pow_le_pow_right (by decide) (by decide))
theorem Qd.okU (h : Qd c m) : okUB (qC c m) = true := by
  have e := h.okv (t := -(reachL [c, m, 1])) (b := 1) (sm9 (by have := h.reach; omega) (by have := reach_q c m; omega)) (sm9 (by decide) (by decide))
  show (true && true && true && okChB (qC c m) (-(reachL [c, m, 1])) 1) = true
  rw [e]
  rfl
theorem ng_q (t : Int) (k : Nat) : ng [c, m, 1] t (pw k) = true ↔ valL [m, 2] t (pw k) * valL [m, 2] t (pw k) < dis c m * (pw k * pw k) := by
  have q := fourQ c m t (pw k)
  unfold ng
  rw [decide_eq_true_iff]
  omega
theorem hom_q (k : Nat) (t : Int) : ng [c, m, 1] (2 * t) (pw (k + 1)) = ng [c, m, 1] t (pw k) := by
  have e : pw (k + 1) = 2 * pw k := by
    rw [pw_eq, pw_eq, Int.pow_succ]
    omega
  have q : valL [c, m, 1] (2 * t) (pw (k + 1)) = 4 * valL [c, m, 1] t (pw k) := by
    rw [val3, val3, e]
    grind
  unfold ng
  rw [q]
  by_cases z : valL [c, m, 1] t (pw k) < 0
  · rw [decide_eq_true z, decide_eq_true (by omega)]
  · rw [decide_eq_false z, decide_eq_false (by omega)]
theorem edge_q (z : Int) (k : Nat) : valL [m, 2] (z * 2 ^ k) (pw k) = (2 * z + m) * pw k := by
  rw [val2, pw_eq]
  grind
theorem Qd.mo (h : Qd c m) {r z : Int} (hr : r = 0 ∨ r = 1) (z0 : 0 ≤ z) (z1 : z < reachL [c, m, 1]) (hz : ∀ t, (upL (qC c m) t 1 > r ↔ t > z)) : Mo [c, m, 1] (decide (r = 1)) z := by
  have hR := h.reach
  have u0 : ¬ upL (qC c m) z 1 > r := fun q => by have := (hz z).mp q; omega
  have u1 : upL (qC c m) (z + 1) 1 > r := (hz (z + 1)).mpr (by omega)
  rw [h.up] at u0 u1
  obtain ⟨a1, a2, a3⟩ := h.cnt z
  obtain ⟨b1, b2, b3⟩ := h.cnt (z + 1)
  have dp := h.pos
  have E : ∀ (k : Nat) (x : Int), valL [m, 2] (x * 2 ^ k) (pw k) * valL [m, 2] (x * 2 ^ k) (pw k) = (2 * x + m) * (2 * x + m) * (pw k * pw k) := fun k x => by
    rw [edge_q]
    grind
  have lin : ∀ (k : Nat) {t t' : Int}, t ≤ t' → valL [m, 2] t (pw k) ≤ valL [m, 2] t' (pw k) := fun k {t t'} l => by
    rw [val2, val2]
    omega
  have nS : ∀ (t : Int) (k : Nat), valL [m, 2] t (pw k) * valL [m, 2] t (pw k) ≠ dis c m * (pw k * pw k) := fun t k e => by
    have q := fourQ c m t (pw k)
    exact nzq h.ns t k (by omega)
  -- the squares at both ends
  have key : (r = 1 ∧ (2 * z + m) * (2 * z + m) < dis c m ∧ dis c m ≤ (2 * (z + 1) + m) * (2 * (z + 1) + m) ∧ 0 ≤ 2 * (z + 1) + m) ∨
      (r = 0 ∧ dis c m ≤ (2 * z + m) * (2 * z + m) ∧ 2 * z + m < 0 ∧ (2 * (z + 1) + m) * (2 * (z + 1) + m) < dis c m) := by
    have bad : 2 * z + m < 0 → 0 ≤ 2 * (z + 1) + m → dis c m ≤ (2 * z + m) * (2 * z + m) → dis c m ≤ (2 * (z + 1) + m) * (2 * (z + 1) + m) → False := fun n1 n2 l1 l2 => by
      have : 2 * z + m = -1 ∨ 2 * z + m = -2 := by omega
      rcases this with e | e
      · rw [e] at l1
        have e2 : 2 * (z + 1) + m = 1 := by omega
        have d1 : dis c m = 1 := by omega
        exact h.ns 1 (by rw [d1]; rfl)
      · have e2 : 2 * (z + 1) + m = 0 := by omega
        rw [e2] at l2
        omega
    rcases hr with e | e <;> rw [e] at u0 u1 ⊢
    · right
      rcases Int.lt_or_le ((2 * z + m) * (2 * z + m)) (dis c m) with q | q
      · have := a1 q
        omega
      rcases Int.lt_or_le (2 * z + m) 0 with n | n
      · rcases Int.lt_or_le ((2 * (z + 1) + m) * (2 * (z + 1) + m)) (dis c m) with q' | q'
        · exact ⟨rfl, q, n, q'⟩
        · rcases Int.lt_or_le (2 * (z + 1) + m) 0 with n' | n'
          · have := b2 q' n'
            omega
          · exact (bad n n' q q').elim
      · have := a3 q n
        omega
    · left
      rcases Int.lt_or_le ((2 * (z + 1) + m) * (2 * (z + 1) + m)) (dis c m) with q' | q'
      · have := b1 q'
        omega
      rcases Int.lt_or_le (2 * (z + 1) + m) 0 with n' | n'
      · have := b2 q' n'
        omega
      · rcases Int.lt_or_le ((2 * z + m) * (2 * z + m)) (dis c m) with q | q
        · exact ⟨rfl, q, q', n'⟩
        · rcases Int.lt_or_le (2 * z + m) 0 with n | n
          · exact (bad n n' q q').elim
          · have := a3 q n
            omega
  have bb : ∀ k : Nat, 0 < pw k * pw k := fun k => Int.mul_pos (pw_pos k) (pw_pos k)
  have e1 : ∀ x : Int, valL [m, 2] x (pw 0) = 2 * x + m := fun x => by rw [pw0, v21]
  have d1 : dis c m * (pw 0 * pw 0) = dis c m := by rw [pw0]; omega
  have fls : ∀ {t : Int} {k : Nat}, ng [c, m, 1] t (pw k) = false ↔ dis c m * (pw k * pw k) ≤ valL [m, 2] t (pw k) * valL [m, 2] t (pw k) := fun {t k} => by
    have q := ng_q (c := c) (m := m) t k
    cases e : ng [c, m, 1] t (pw k) with
    | true =>
      have := q.mp e
      exact ⟨fun z => (nomatch z), fun l => by omega⟩
    | false =>
      refine ⟨fun _ => ?_, fun _ => rfl⟩
      rcases Int.lt_or_le (valL [m, 2] t (pw k) * valL [m, 2] t (pw k)) (dis c m * (pw k * pw k)) with l | l
      · have := q.mpr l
        rw [e] at this
        cases this
      · exact l
  refine ⟨?_, fun k t _ _ => nzq h.ns t k, ?_, ?_, hom_q, Nat.le_refl 3, show 3 ≤ 8 by decide, ?_, z0, ?_⟩
  · intro k t t' h1 h2 h3 hn
    have l1 := lin k h1
    have l2 := lin k h2
    have l3 := lin k h3
    have Ez := E k z
    have Ez1 := E k (z + 1)
    rcases key with ⟨er, k1, k2, k3⟩ | ⟨er, k1, k2, k3⟩
    · rw [decide_eq_true er] at hn ⊢
      have hn := (ng_q t' k).mp hn
      refine (ng_q t k).mpr ?_
      rcases Int.lt_or_le (valL [m, 2] t (pw k)) 0 with n | n
      · have s1 := sq_dn (Int.le_of_lt n) l1
        rw [Ez] at s1
        have := Int.mul_lt_mul_of_pos_right k1 (bb k)
        omega
      · have := sq_up n l2
        omega
    · rw [decide_eq_false (show ¬ r = 1 by omega)] at hn ⊢
      have hn := fls.mp hn
      refine fls.mpr ?_
      have kk := Int.mul_lt_mul_of_pos_right k3 (bb k)
      rcases Int.lt_or_le (valL [m, 2] t' (pw k)) 0 with n | n
      · have := sq_dn (Int.le_of_lt n) l2
        omega
      · have := sq_up n l3
        omega
  · rcases key with ⟨er, k1, k2, k3⟩ | ⟨er, k1, k2, k3⟩
    · rw [decide_eq_true er]
      refine (ng_q z 0).mpr ?_
      rw [e1, d1]
      exact k1
    · rw [decide_eq_false (show ¬ r = 1 by omega)]
      refine fls.mpr ?_
      rw [e1, d1]
      exact k1
  · rcases key with ⟨er, k1, k2, k3⟩ | ⟨er, k1, k2, k3⟩
    · rw [decide_eq_true er]
      intro q
      have := (ng_q (z + 1) 0).mp q
      rw [e1, d1] at this
      omega
    · rw [decide_eq_false (show ¬ r = 1 by omega)]
      intro q
      have := fls.mp q
      rw [e1, d1] at this
      omega
  · intro x hx
    have k : ∀ {x : Int}, -1000 ≤ x → x ≤ 1000 → Sm 30 x := fun {x} h1 h2 => by
      show x.natAbs < 2 ^ 30
      omega
    simp only [List.mem_cons, List.not_mem_nil, or_false] at hx
    rcases hx with rfl | rfl | rfl
    · exact k h.c1 h.c2
    · exact k h.m1 h.m2
    · exact k (by decide) (by decide)
  · show z < 1073741824
    omega
end
end Xq
/-! Shape.of and told_by without their texts; quadratic equations there. -/
namespace Xq
open PySem PySem.Spec PyProof.Rows L2
/-- told_by of the text, but for the text -/
def okTN (r : Int) (xs : List Int) : Bool := okE xs && okLe xs && okS xs && okUB (sturmL xs) && okChB (sturmL xs) 0 1 && okChB (sturmL xs) (reachL ((sturmL xs).headD [])) 1 && decide (upL (sturmL xs) 0 1 ≤ r) && decide (r < allL (sturmL xs)) && decide (r.natAbs ≤ 1000)
theorem okE_ok {xs : List Int} (h : okE xs = true) : 2 ≤ xs.length ∧ xs.length ≤ 6 ∧ ∀ x ∈ xs, x.natAbs ≤ 1000 := by
  unfold okE at h
  simp only [Bool.and_eq_true, decide_eq_true_eq, Bool.not_eq_true', decide_eq_false_iff_not] at h
  obtain ⟨⟨⟨h1, h2⟩, h3⟩, h4⟩ := h
  refine ⟨h1, h2, fun x hx => ?_⟩
  have := List.all_eq_true.mp h3 x hx
  simp only [Bool.and_eq_true, decide_eq_true_eq] at this
  omega
theorem okT_of {r : Int} {xs : List Int} (h : okTN r xs = true) : okT (txL r xs) r xs = true := by
  unfold okTN at h
  simp only [Bool.and_eq_true, decide_eq_true_eq] at h
  obtain ⟨⟨⟨⟨⟨⟨⟨⟨h1, h2⟩, h3⟩, h4⟩, h5⟩, h6⟩, h7⟩, h8⟩, h9⟩ := h
  obtain ⟨l2, l6, ax⟩ := okE_ok h1
  unfold okT
  simp only [Bool.and_eq_true, decide_eq_true_eq]
  exact ⟨⟨⟨⟨⟨⟨⟨⟨⟨⟨split_tx r (fun e => by rw [e] at l2; exact absurd l2 (by decide)), Nat.le_trans (tx_len h9 l6 ax) (by decide)⟩, h9⟩, h1⟩, h2⟩, h3⟩, h4⟩, h5⟩, h6⟩, h7⟩, h8⟩
/-- Shape.of tells rank r of ls -/
structure Of (xs : List Int) (a b c d : Int) (ls : List Int) (r : Int) : Prop where
  ok : okOf xs a b c d = true
  eL : ofL xs a b c d = ls
  eR : ofR xs a b c d = r
  eT : ofT xs a b c d = txL r ls
theorem Of.mk' {xs : List Int} {a b c d : Int} {ls : List Int} {r : Int} (h1 : okE xs = true) (h2 : okSt a b c d = true) (h3 : okFw xs a b c d = true) (h4 : fwL xs a b c d = some ls) (h5 : rlL ls c d = r) (h6 : okRl ls c d = true) (h7 : okTN r ls = true) (h8 : okStr ls r = true) : Of xs a b c d ls r := by
  have e1 : ofL xs a b c d = ls := by
    unfold ofL
    rw [h4]
    rfl
  have e2 : ofR xs a b c d = r := by
    unfold ofR
    rw [e1, h5]
  have e3 : ofT xs a b c d = txL r ls := by
    unfold ofT
    rw [e1, e2]
  have hE : okE ls = true := by
    unfold okTN at h7
    simp only [Bool.and_eq_true] at h7
    exact h7.1.1.1.1.1.1.1.1
  have hr : r.natAbs ≤ 1000 := by
    unfold okTN at h7
    simp only [Bool.and_eq_true, decide_eq_true_eq] at h7
    exact h7.2
  obtain ⟨l2, l6, ax⟩ := okE_ok hE
  refine ⟨?_, e1, e2, e3⟩
  unfold okOf
  rw [e1, e2, e3, h4]
  simp only [Bool.and_eq_true, decide_eq_true_eq]
  refine ⟨⟨⟨⟨⟨⟨⟨⟨⟨h1, h2⟩, h3⟩, rfl⟩, List.all_eq_true.mpr fun x hx => ?_⟩, by omega⟩, h6⟩, okTx_of hr l6 ax⟩, okT_of h7⟩, h8⟩
  have := ax x hx
  rw [decide_eq_true (show -1000 ≤ x by omega), decide_eq_true (show x ≤ 1000 by omega)]
  rfl
/-- the same as one check -/
def okON (xs : List Int) (a b c d : Int) (ls : List Int) (r : Int) : Bool := okE xs && okSt a b c d && okFw xs a b c d && decide (fwL xs a b c d = some ls) && decide (rlL ls c d = r) && okRl ls c d && okTN r ls && okStr ls r
theorem Of.of {xs : List Int} {a b c d : Int} {ls : List Int} {r : Int} (h : okON xs a b c d ls r = true) : Of xs a b c d ls r := by
  unfold okON at h
  simp only [Bool.and_eq_true, decide_eq_true_eq] at h
  obtain ⟨⟨⟨⟨⟨⟨⟨h1, h2⟩, h3⟩, h4⟩, h5⟩, h6⟩, h7⟩, h8⟩ := h
  exact .mk' h1 h2 h3 h4 h5 h6 h7 h8
theorem dvS_mem {n t : Int} : ∀ {k : Nat}, t ∈ dvS n k → 0 ≤ t ∧ t ≤ k
  | 0, h => nomatch h
  | k + 1, h => by
    rcases List.mem_append.mp h with q | q
    · have := dvS_mem q
      omega
    · cases z : Nat.beq (n.natAbs % (1 + k)) 0 with
      | true =>
        rw [z] at q
        have := List.mem_singleton.mp q
        omega
      | false =>
        rw [z] at q
        exact absurd q (by simp)
theorem dvL_mem {n t : Int} (h : n.natAbs ≤ 1000) (ht : t ∈ dvL n) : 0 ≤ t ∧ t ≤ 1000 := by
  rw [← dvL_eq h] at ht
  have := dvS_mem ht
  omega
theorem dv1 : dvL 1 = [1] := rfl
section
variable {c m : Int}
theorem Qd.okE (h : Qd c m) : okE [c, m, 1] = true := by
  show (true && true && ((decide (-1000 ≤ c) && decide (c ≤ 1000)) && ((decide (-1000 ≤ m) && decide (m ≤ 1000)) && (true && true))) && true) = true
  rw [decide_eq_true h.c1, decide_eq_true h.c2, decide_eq_true h.m1, decide_eq_true h.m2]
  rfl
theorem Qd.okV1 (h : Qd c m) {t : Int} (h1 : -1001 ≤ t) (h2 : t ≤ 1001) : okVB [c, m, 1] t 1 = true := by
  have e := h.okv (sm9 h1 h2) (b := 1) (sm9 (by decide) (by decide))
  have e : (true && (okVB [c, m, 1] t 1 && (okVB [m, 2] t 1 && (okVB [1] t 1 && true)))) = true := e
  simp only [Bool.and_eq_true] at e
  exact e.2.1
theorem Qd.lin (h : Qd c m) : okLin [c, m, 1] = true ∧ okLinG [c, m, 1] = true ∧ linL [c, m, 1] = none := by
  have c0 := h.c0
  have a1 : c.natAbs ≤ 1000 := by have := h.c1; have := h.c2; omega
  have nz : ∀ t : Int, valL [c, m, 1] t 1 ≠ 0 := fun t => by
    have := nzq h.ns t 0
    rw [pw0] at this
    exact this
  have ov : ∀ t ∈ dvL c, okVB [c, m, 1] t 1 = true ∧ okVB [c, m, 1] (-t) 1 = true := fun t ht => by
    have := dvL_mem a1 ht
    exact ⟨h.okV1 (by omega) (by omega), h.okV1 (by omega) (by omega)⟩
  refine ⟨?_, ?_, ?_⟩
  · unfold okLin
    show (true && true && decide (c.natAbs ≤ 1000) && true && !decide (c = 0) && (dvL c).all fun t => (dvL 1).all fun b => _) = true
    rw [decide_eq_true a1, decide_eq_false c0, dv1]
    simp only [Bool.true_and, Bool.not_false]
    refine List.all_eq_true.mpr fun t ht => ?_
    obtain ⟨v1, v2⟩ := ov t ht
    show ((!decide (Nat.gcd t.natAbs (1 : Int).natAbs = 1) || _) && true) = true
    rw [v1, v2, decide_eq_false (nz t), decide_eq_false (nz (-t))]
    simp
  · unfold okLinG
    show (true && true && decide (c.natAbs ≤ 1000) && true && (dvL c).all fun t => (dvL 1).all fun b => _) = true
    rw [decide_eq_true a1, dv1]
    simp only [Bool.true_and]
    refine List.all_eq_true.mpr fun t ht => ?_
    obtain ⟨v1, v2⟩ := ov t ht
    show ((!decide (Nat.gcd t.natAbs (1 : Int).natAbs = 1) || _) && true) = true
    rw [v1, v2]
    simp
  · show (if c = 0 then _ else (dvL c).findSome? (linF [c, m, 1])) = none
    rw [if_neg c0]
    refine List.findSome?_eq_none_iff.mpr fun t ht => ?_
    show (dvL 1).findSome? (linIn [c, m, 1] t) = none
    rw [dv1]
    refine List.findSome?_eq_none_iff.mpr fun b hb => ?_
    rw [List.mem_singleton.mp hb]
    unfold linIn
    rw [if_neg (nz t), if_neg (nz (-t))]
    split <;> rfl
theorem Qd.okLe (h : Qd c m) : okLe [c, m, 1] = true := by
  obtain ⟨h1, h2, h3⟩ := h.lin
  have g : gcdL [c, m, 1] = 1 := Nat.gcd_one_right _
  show (true && true && true && decide (gcdL [c, m, 1] = 1) && (false || (okLin [c, m, 1] && (true || _))) && true && true) = true
  rw [decide_eq_true g, h1]
  rfl
theorem divL_step {ys rest : List Int} {n : Nat} {fs : List Int} (h1 : ¬ rest.length < ys.length) (h2 : rest.getLastD 0 % ys.getLastD 0 = 0) : divL ys (n + 1) rest fs = divL ys n (nxD ys rest) (fs ++ [qD ys rest]) := by
  rw [divL, if_neg h1, if_pos h2]
theorem divL_end {ys rest : List Int} {n : Nat} {fs : List Int} (h1 : rest.length < ys.length) (h2 : (rest.any fun x => x != 0) = false) : divL ys (n + 1) rest fs = some fs.reverse := by
  rw [divL, if_pos h1, h2]
  rfl
theorem okDw_step {ys rest : List Int} {n : Nat} (h1 : ys.length ≤ rest.length) (h2 : smB 4000 rest = true) (h3 : rest.length ≤ 1000) (h4 : smI 4000 (qD ys rest) = true) (h5 : okDw ys n (nxD ys rest) = true) : okDw ys (n + 1) rest = true := by
  rw [okDw, decide_eq_true h1, h2, decide_eq_true h3, h4, h5]
  simp
theorem okDw_end {ys rest : List Int} {n : Nat} (h1 : rest.length < ys.length) : okDw ys (n + 1) rest = true := by
  rw [okDw, decide_eq_true h1]
  rfl
theorem facS_step {n : Nat} {rest : List Int} {gs : List (List Int)} {r : List Int} (h1 : ¬ rest.length ≤ 1) (h2 : divL (lfL rest) 20 rest [] = some r) : facS (n + 1) rest gs = facS n r (if inF gs (lfL rest) then gs else gs ++ [lfL rest]) := by
  rw [facS, if_neg h1, h2]
  rfl
theorem okFc_step {n : Nat} {rest r : List Int} {gs : List (List Int)} (h1 : rest.length ≤ 1000) (h2 : okLfG rest = true) (h3 : okDg rest (lfL rest) = true) (h4 : divL (lfL rest) 20 rest [] = some r) (h5 : SeqAt.shaped (dT (lfL rest)) = true) (h6 : SeqAt.shaped (.list (gs.map dT)) = true) (h7 : gs.length ≤ 100)
    (h8 : okFc n r (if inF gs (lfL rest) then gs else gs ++ [lfL rest]) = true) : okFc (n + 1) rest gs = true := by
  rw [okFc, decide_eq_true h1, h2, h3, h4, h5, h6, decide_eq_true h7]
  show (_ || (true && true && true && true && true && true && true && okFc n r _)) = true
  rw [h8]
  simp
theorem Qd.fac (h : Qd c m) : facL [c, m, 1] = [[c, m, 1]] ∧ okFac [c, m, 1] = true := by
  obtain ⟨h1, h2, h3⟩ := h.lin
  have g : gcdL [c, m, 1] = 1 := Nat.gcd_one_right _
  have e1 : primL [c, m, 1] = [c, m, 1] := by
    unfold primL
    rw [g]
    rfl
  have e2 : posL [c, m, 1] = [c, m, 1] := rfl
  have e3 : lfL [c, m, 1] = [c, m, 1] := by
    show (linL [c, m, 1]).getD [c, m, 1] = _
    rw [h3]
    rfl
  have z : nxD [c, m, 1] [c, m, 1] = [0, 0] := by
    show [c - 1 / 1 * c, m - 1 / 1 * m] = _
    rw [show ((1 : Int) / 1) = 1 from rfl]
    simp
  have q1 : qD [c, m, 1] [c, m, 1] = 1 := rfl
  have n33 : ¬ [c, m, 1].length < [c, m, 1].length := Nat.lt_irrefl 3
  have l23 : ([0, 0] : List Int).length < [c, m, 1].length := Nat.lt_succ_self 2
  have e4 : divL [c, m, 1] 20 [c, m, 1] [] = some [1] := by
    rw [divL_step n33 (show (1 : Int) % 1 = 0 by decide), z, q1, divL_end l23 rfl]
    rfl
  have s3 : smB 4000 [c, m, 1] = true := smB_of fun x hx => by
    have := h.c1
    have := h.c2
    have := h.m1
    have := h.m2
    simp only [List.mem_cons, List.not_mem_nil, or_false] at hx
    omega
  have o3 : okLfG [c, m, 1] = true := by
    show (false || (okLinG [c, m, 1] && (!decide (linL [c, m, 1] = none) || true || _))) = true
    rw [h2, h3]
    simp
  have o4 : okDg [c, m, 1] [c, m, 1] = true := by
    have q : okDw [c, m, 1] 20 [c, m, 1] = true := okDw_step (Nat.le_refl 3) s3 (show 3 ≤ 1000 by decide) (by rw [q1]; decide +kernel) (by rw [z]; exact okDw_end l23)
    unfold okDg
    rw [s3, q]
    rfl
  have inn : inF [] [c, m, 1] = false := rfl
  refine ⟨?_, ?_⟩
  · unfold facL
    rw [e1, e2, facS_step (n := 9) (rest := [c, m, 1]) (show ¬ 3 ≤ 1 by decide) (by rw [e3]; exact e4), e3, inn]
    rfl
  · have q : okFc 10 [c, m, 1] [] = true := by
      refine okFc_step (n := 9) (show 3 ≤ 1000 by decide) o3 (by rw [e3]; exact o4) (by rw [e3]; exact e4) (by rw [e3]; rfl) rfl (Nat.zero_le _) ?_
      rw [e3, inn]
      rfl
    unfold okFac
    rw [e1, e2, g, q, decide_eq_true (show 1 < 2 ^ 9000 from Nat.one_lt_two_pow (by decide))]
    rfl
theorem Qd.okTN (h : Qd c m) {r : Int} (hr : r = 0 ∨ r = 1) (h0 : upL (qC c m) 0 1 ≤ r) : okTN r [c, m, 1] = true := by
  obtain ⟨e1, e2⟩ := h.chain
  have o1 := h.okv (t := 0) (b := 1) (sm9 (by decide) (by decide)) (sm9 (by decide) (by decide))
  have o2 := h.okv (t := reachL [c, m, 1]) (b := 1) (sm9 (by have := reach_q c m; omega) (by have := h.reach; omega)) (sm9 (by decide) (by decide))
  have e3 : (qC c m).headD [] = [c, m, 1] := rfl
  unfold Xq.okTN
  rw [h.okE, h.okLe, e2, e1, h.okU, o1, e3, o2, decide_eq_true h0, h.all, decide_eq_true (show r < 2 by omega), decide_eq_true (show r.natAbs ≤ 1000 by omega)]
  rfl
/-- the shape of rank r: what is laid up in it -/
theorem Qd.str (h : Qd c m) {r : Int} (hr : r = 0 ∨ r = 1) (h0 : upL (qC c m) 0 1 ≤ r) : okStr [c, m, 1] r = true ∧
    ∃ z, 0 ≤ z ∧ (∀ t, (upL (qC c m) t 1 > r ↔ t > z)) ∧ Mo [c, m, 1] (decide (r = 1)) z ∧ strL [c, m, 1] r = (flS [c, m, 1] (decide (r = 1)) z 64, 64) := by
  obtain ⟨z, z0, z1, hz⟩ := h.floor hr h0
  have M := h.mo hr z0 z1 hz
  obtain ⟨e1, e2⟩ := h.chain
  have hR := h.reach
  have L : Lo (sturmL [c, m, 1]) r z (reachL [c, m, 1]) := by
    rw [e1]
    refine ⟨fun t a b => h.okv (sm9 (by omega) (by omega)) (sm9 (by decide) (by decide)), fun t _ _ => hz t, ?_, z0, z1⟩
    have u := hz z
    have u' := hz (z + 1)
    have a := h.up z
    have b := h.up (z + 1)
    have c1 := h.chg z 0
    have c2 := h.chg (z + 1) 0
    rw [pw0] at c1 c2
    rw [c1, c2]
    obtain ⟨a1, a2, a3⟩ := h.cnt z
    obtain ⟨b1, b2, b3⟩ := h.cnt (z + 1)
    have lo := M.lo
    have hi := M.hi
    have q := ng_q (c := c) (m := m) z 0
    have q' := ng_q (c := c) (m := m) (z + 1) 0
    rw [pw0, v21] at q q'
    rw [pw0] at lo hi
    rcases hr with e | e
    · rw [decide_eq_false (show ¬ r = 1 by omega)] at lo hi
      have n : ng [c, m, 1] (z + 1) 1 = true := by
        cases k : ng [c, m, 1] (z + 1) 1 with
        | true => rfl
        | false => exact absurd k hi
      have := b1 (by have := q'.mp n; omega)
      rw [this]
      unfold chg3
      split
      · omega
      · split <;> omega
    · rw [decide_eq_true e] at lo hi
      have := a1 (by have := q.mp lo; omega)
      rw [this]
      unfold chg3
      split
      · omega
      · split <;> omega
  obtain ⟨s1, s2⟩ := str_of M e2 (by rw [e1]; exact h.okU) L (Int.le_trans hR (by decide))
  exact ⟨s1, z, z0, hz, M, s2⟩
/-- Shape.of of it, between integers -/
theorem Qd.of (h : Qd c m) {a d r : Int} (hr : r = 0 ∨ r = 1) (h0 : upL (qC c m) 0 1 ≤ r) (a0 : 0 ≤ a) (ad : a ≤ d) (d1 : d ≤ 1000) (u1 : upL (qC c m) a 1 = r) (u2 : upL (qC c m) d 1 = r + 1) : Of [c, m, 1] a 1 d 1 [c, m, 1] r := by
  obtain ⟨e1, e2⟩ := h.chain
  obtain ⟨f1, f2⟩ := h.fac
  have oa := h.okv (t := a) (b := 1) (sm9 (by omega) (by omega)) (sm9 (by decide) (by decide))
  have od := h.okv (t := d) (b := 1) (sm9 (by omega) (by omega)) (sm9 (by decide) (by decide))
  have rw1 : rwL [c, m, 1] a 1 d 1 = 1 := by
    have nz := nzq h.ns a 0
    rw [pw0] at nz
    unfold rwL
    rw [if_neg (fun q => nz q.2), e1]
    show chgL (qC c m) a 1 - chgL (qC c m) d 1 = 1
    have v1 : chgL (qC c m) (-(reachL [c, m, 1])) 1 - chgL (qC c m) a 1 = r := u1
    have v2 : chgL (qC c m) (-(reachL [c, m, 1])) 1 - chgL (qC c m) d 1 = r + 1 := u2
    omega
  refine .mk' h.okE ?_ ?_ ?_ ?_ ?_ (h.okTN hr h0) (h.str hr h0).1
  · have s4 : ∀ {x : Int}, 0 ≤ x → x ≤ 1000 → smI 4000 x = true := fun {x} p q => decide_eq_true (Nat.lt_of_lt_of_le (show x.natAbs < 2 ^ 10 by omega) (Nat.pow_le_pow_right (by decide) (by decide)))
    unfold okSt
    rw [s4 a0 (by omega), s4 (show 0 ≤ d by omega) d1, s4 (show (0 : Int) ≤ 1 by decide) (by decide), decide_eq_true a0, decide_eq_true (show Nat.gcd a.natAbs (1 : Int).natAbs = 1 from Nat.gcd_one_right _), decide_eq_true (show Nat.gcd d.natAbs (1 : Int).natAbs = 1 from Nat.gcd_one_right _), decide_eq_false (show ¬ d * 1 < a * 1 by omega)]
    rfl
  · unfold okFw
    rw [f1, f2]
    show (true && ((okS [c, m, 1] && okChB (sturmL [c, m, 1]) a 1 && okChB (sturmL [c, m, 1]) d 1 && okVB [c, m, 1] a 1) && true)) = true
    rw [e2, e1, oa, od, h.okV1 (by omega) (by omega)]
    rfl
  · have es : fwS [c, m, 1] a 1 d 1 (facL [c, m, 1]).length = (some [c, m, 1], 1) := by
      unfold fwS
      rw [f1]
      show fwT a 1 d 1 (none, 0) [c, m, 1] = _
      unfold fwT
      rw [rw1]
      rfl
    unfold fwL
    rw [es]
    rfl
  · unfold rlL
    rw [e1, u2]
    omega
  · unfold okRl
    rw [e2, e1, h.okU, od]
    rfl
end
end Xq
/-! Sums of powers, with rational places: how they grow, how they change. -/
namespace St
/-- the value at x -/
def ev : List Int → Rat → Rat
  | [], _ => 0
  | a :: l, x => (a : Rat) + x * ev l x
/-- the derivative's value -/
def dv : List Int → Rat → Rat
  | [], _ => 0
  | _ :: l, x => ev l x + x * dv l x
theorem mul_nn {a b : Rat} (ha : 0 ≤ a) (hb : 0 ≤ b) : 0 ≤ a * b := Rat.mul_nonneg ha hb
/-- |a| ≤ b -/
def Ab (a b : Rat) : Prop := -b ≤ a ∧ a ≤ b
theorem Ab.nn {a b : Rat} (h : Ab a b) : 0 ≤ b := by
  obtain ⟨h1, h2⟩ := h
  grind
theorem Ab.add {a b c d : Rat} (h : Ab a b) (h' : Ab c d) : Ab (a + c) (b + d) := by
  obtain ⟨h1, h2⟩ := h
  obtain ⟨h3, h4⟩ := h'
  constructor <;> grind
theorem Ab.neg {a b : Rat} (h : Ab a b) : Ab (-a) b := by
  obtain ⟨h1, h2⟩ := h
  constructor <;> grind
theorem Ab.sub {a b c d : Rat} (h : Ab a b) (h' : Ab c d) : Ab (a - c) (b + d) := by
  obtain ⟨h1, h2⟩ := h
  obtain ⟨h3, h4⟩ := h'
  constructor <;> grind
theorem Ab.mul {a b c d : Rat} (h : Ab a b) (h' : Ab c d) : Ab (a * c) (b * d) := by
  have b0 := h.nn
  have d0 := h'.nn
  obtain ⟨h1, h2⟩ := h
  obtain ⟨h3, h4⟩ := h'
  have p1 : 0 ≤ (b - a) * (d - c) := mul_nn (by grind) (by grind)
  have p2 : 0 ≤ (b + a) * (d + c) := mul_nn (by grind) (by grind)
  have p3 : 0 ≤ (b - a) * (d + c) := mul_nn (by grind) (by grind)
  have p4 : 0 ≤ (b + a) * (d - c) := mul_nn (by grind) (by grind)
  constructor <;> grind
theorem Ab.le {a b c : Rat} (h : Ab a b) (hc : b ≤ c) : Ab a c := by
  obtain ⟨h1, h2⟩ := h
  constructor <;> grind
theorem Ab.self (a : Rat) : ∃ b, Ab a b := by
  rcases (Rat.le_total : (0 : Rat) ≤ a ∨ a ≤ 0) with h | h
  · exact ⟨a, by grind, by grind⟩
  · exact ⟨-a, by grind, by grind⟩
/-- bounded between -M and M -/
theorem ev_bd (M : Rat) (hM : 0 ≤ M) : ∀ l : List Int, ∃ B, ∀ x, Ab x M → Ab (ev l x) B
  | [] => ⟨0, fun x _ => ⟨by simp [ev], by simp [ev]⟩⟩
  | a :: l => by
    obtain ⟨B, hB⟩ := ev_bd M hM l
    obtain ⟨A, hA⟩ := Ab.self (a : Rat)
    exact ⟨A + M * B, fun x hx => hA.add (hx.mul (hB x hx))⟩
/-- changes no faster than L -/
theorem ev_lip (M : Rat) (hM : 0 ≤ M) : ∀ l : List Int, ∃ L, 0 ≤ L ∧ ∀ x y d, Ab x M → Ab y M → Ab (y - x) d → Ab (ev l y - ev l x) (L * d)
  | [] => ⟨0, by grind, fun x y d _ _ hd => by
    have := hd.nn
    constructor <;> simp [ev] <;> grind⟩
  | a :: l => by
    obtain ⟨B, hB⟩ := ev_bd M hM l
    obtain ⟨L, hL, h⟩ := ev_lip M hM l
    have B0 : 0 ≤ B := (hB 0 ⟨by grind, by grind⟩).nn
    refine ⟨B + M * L, by have := mul_nn hM hL; grind, fun x y d hx hy hd => ?_⟩
    have e : ev (a :: l) y - ev (a :: l) x = (y - x) * ev l y + x * (ev l y - ev l x) := by
      simp only [ev]
      grind
    rw [e]
    have q := (hd.mul (hB y hy)).add (hx.mul (h x y d hx hy hd))
    have e2 : d * B + M * (L * d) = (B + M * L) * d := by grind
    rw [e2] at q
    exact q
/-- the derivative tells the change, up to the square -/
theorem ev_dv (M : Rat) (hM : 0 ≤ M) : ∀ l : List Int, ∃ C, 0 ≤ C ∧ ∀ x y d, Ab x M → Ab y M → Ab (y - x) d → Ab (ev l y - ev l x - (y - x) * dv l x) (C * (d * d))
  | [] => ⟨0, by grind, fun x y d _ _ hd => by
    have := hd.nn
    constructor <;> simp [ev, dv] <;> grind⟩
  | a :: l => by
    obtain ⟨L, hL, hl⟩ := ev_lip M hM l
    obtain ⟨C, hC, h⟩ := ev_dv M hM l
    refine ⟨L + M * C, by have := mul_nn hM hC; grind, fun x y d hx hy hd => ?_⟩
    have e : ev (a :: l) y - ev (a :: l) x - (y - x) * dv (a :: l) x = (y - x) * (ev l y - ev l x) + x * (ev l y - ev l x - (y - x) * dv l x) := by
      simp only [ev, dv]
      grind
    rw [e]
    have q := (hd.mul (hl x y d hx hy hd)).add (hx.mul (h x y d hx hy hd))
    have e2 : d * (L * d) + M * (C * (d * d)) = (L + M * C) * (d * d) := by grind
    rw [e2] at q
    exact q
/-! ### signs -/
def sg1 (v : Rat) : List Bool := if v = 0 then [] else [decide (0 < v)]
def sgs : List Rat → List Bool
  | [] => []
  | v :: vs => sg1 v ++ sgs vs
/-- how often the neighbours differ -/
def ad : List Bool → Nat
  | [] => 0
  | [_] => 0
  | a :: b :: l => (if a = b then 0 else 1) + ad (b :: l)
/-- v has the sign s -/
def Sg (v : Rat) (s : Bool) : Prop := (s = true ∧ 0 < v) ∨ (s = false ∧ v < 0)
theorem Sg.one {v : Rat} {s : Bool} (h : Sg v s) : sg1 v = [s] := by
  unfold sg1
  rcases h with ⟨rfl, h⟩ | ⟨rfl, h⟩
  · rw [if_neg (by grind), decide_eq_true h]
  · rw [if_neg (by grind), decide_eq_false (by grind)]
theorem sg_ex {v : Rat} (h : v ≠ 0) : ∃ s, Sg v s := by
  rcases (Rat.le_total : (0 : Rat) ≤ v ∨ v ≤ 0) with q | q
  · exact ⟨true, .inl ⟨rfl, by grind⟩⟩
  · exact ⟨false, .inr ⟨rfl, by grind⟩⟩
theorem Sg.eq {v : Rat} {s t : Bool} (h : Sg v s) (h' : Sg v t) : s = t := by
  rcases h with ⟨rfl, h⟩ | ⟨rfl, h⟩ <;> rcases h' with ⟨rfl, h'⟩ | ⟨rfl, h'⟩
  · rfl
  · exfalso; grind
  · exfalso; grind
  · rfl
theorem big_sg {v e : Rat} (he : 0 ≤ e) (h : ¬ Ab v e) : (e < v) ∨ (v < -e) := by
  unfold Ab at h
  grind
/-- what is great keeps its sign -/
theorem settle {a b e d : Rat} (he : 0 ≤ e) (h : ¬ Ab a e) (hd : Ab (b - a) d) (hde : d ≤ e) : ∃ s, Sg a s ∧ Sg b s := by
  obtain ⟨h1, h2⟩ := hd
  rcases big_sg he h with q | q
  · exact ⟨true, .inl ⟨rfl, by grind⟩, .inl ⟨rfl, by grind⟩⟩
  · exact ⟨false, .inr ⟨rfl, by grind⟩, .inr ⟨rfl, by grind⟩⟩
/-- the changes behind a sign -/
def VS (s : Bool) (cs : List (List Int)) (x : Rat) : Nat := ad (s :: sgs (cs.map fun c => ev c x))
theorem VS_cons {s t : Bool} {c : List Int} {l : List (List Int)} {x : Rat} (h : Sg (ev c x) t) : VS s (c :: l) x = (if s = t then 0 else 1) + VS t l x := by
  unfold VS
  show ad (s :: (sg1 (ev c x) ++ sgs (l.map fun c => ev c x))) = _
  rw [h.one]
  rfl
/-- between opposite signs it doesn't matter what stands -/
theorem VS_mid {s : Bool} {b c : List Int} {l : List (List Int)} {x : Rat} (h : Sg (ev c x) (!s)) : VS s (b :: c :: l) x = 1 + VS (!s) l x := by
  by_cases z : ev b x = 0
  · have : VS s (b :: c :: l) x = VS s (c :: l) x := by
      unfold VS
      show ad (s :: (sg1 (ev b x) ++ _)) = _
      have e : sg1 (ev b x) = [] := if_pos z
      rw [e]
      rfl
    rw [this, VS_cons h]
    cases s <;> rfl
  · obtain ⟨t, ht⟩ := sg_ex z
    rw [VS_cons ht, VS_cons h]
    cases s <;> cases t <;> simp
/-! ### the chain -/
/-- of three neighbours the outer ones are on both sides of 0 where the middle one is 0 -/
def Rel (a b c : List Int) : Prop := ∃ (al be : Rat) (q : Rat → Rat), 0 < al ∧ 0 < be ∧ (∀ M, 0 ≤ M → ∃ Q, ∀ x, Ab x M → Ab (q x) Q) ∧ ∀ x, al * ev a x + be * ev c x = q x * ev b x
def Chn : List (List Int) → Prop
  | [] => False
  | [b] => ∃ k : Rat, k ≠ 0 ∧ ∀ x, ev b x = k
  | [_, b] => ∃ k : Rat, k ≠ 0 ∧ ∀ x, ev b x = k
  | a :: b :: c :: l => Rel a b c ∧ Chn (b :: c :: l)
theorem Chn.tail : ∀ {a b : List Int} {l : List (List Int)}, Chn (a :: b :: l) → Chn (b :: l)
  | _, _, [], h => h
  | _, _, _ :: _, h => h.2
theorem pos_half {e : Rat} (h : 0 < e) : 0 < e / 2 := by grind
/-- neighbours are not small together -/
theorem apart (M : Rat) (hM : 0 ≤ M) : ∀ (l : List (List Int)) (a b : List Int), Chn (a :: b :: l) → ∃ e : Rat, 0 < e ∧ ∀ x, Ab x M → ¬ (Ab (ev a x) e ∧ Ab (ev b x) e)
  | [], a, b, h => by
    obtain ⟨k, k0, hk⟩ := h
    rcases (Rat.le_total : (0 : Rat) ≤ k ∨ k ≤ 0) with q | q
    · exact ⟨k / 2, by grind, fun x _ ⟨_, h1, h2⟩ => by rw [hk] at h2; grind⟩
    · exact ⟨-k / 2, by grind, fun x _ ⟨_, h1, h2⟩ => by rw [hk] at h1; grind⟩
  | c :: l, a, b, h => by
    obtain ⟨⟨al, be, q, ha, hb, hq, e⟩, hc⟩ := h
    obtain ⟨e', he', h'⟩ := apart M hM l b c hc
    obtain ⟨Q, hQ⟩ := hq M hM
    have Q0 : 0 ≤ Q := (hQ 0 ⟨by grind, by grind⟩).nn
    have S : 0 < Q + al + be := by grind
    obtain ⟨w, hw⟩ : ∃ w, w = e' * be / (Q + al + be) := ⟨_, rfl⟩
    have ew : w * (Q + al + be) = e' * be := by rw [hw]; exact Rat.div_mul_cancel (by grind)
    have w0 : 0 < w := by
      have : 0 < e' * be := Rat.mul_pos he' hb
      rcases (Rat.le_total : w ≤ 0 ∨ 0 ≤ w) with z | z
      · exfalso
        have := mul_nn (show 0 ≤ -w by grind) (show 0 ≤ Q + al + be by grind)
        grind
      · have : w ≠ 0 := fun z => by rw [z] at ew; grind
        grind
    have wl : w ≤ e' := by
      have p : 0 ≤ w * (Q + al) := mul_nn (by grind) (by grind)
      have p2 : 0 ≤ (e' - w) * be := by grind
      rcases (Rat.le_total : w ≤ e' ∨ e' ≤ w) with z | z
      · exact z
      · rcases Classical.em (w = e') with y | y
        · grind
        · exfalso
          have := Rat.mul_pos (show 0 < w - e' by grind) hb
          grind
    refine ⟨w, w0, fun x hx ⟨h1, h2⟩ => h' x hx ⟨h2.le wl, ?_⟩⟩
    have A : Ab (q x * ev b x - al * ev a x) (Q * w + al * w) := ((hQ x hx).mul h2).sub ((show Ab al al from ⟨by grind, by grind⟩).mul h1)
    have A2 : Ab (be * ev c x) (e' * be) := by
      have e2 : be * ev c x = q x * ev b x - al * ev a x := by have := e x; grind
      rw [e2]
      refine A.le ?_
      have : 0 ≤ be * w := mul_nn (by grind) (by grind)
      grind
    obtain ⟨a1, a2⟩ := A2
    constructor
    · rcases (Rat.le_total : -e' ≤ ev c x ∨ ev c x ≤ -e') with z | z
      · exact z
      · rcases Classical.em (ev c x = -e') with y | y
        · grind
        · exfalso
          have := Rat.mul_pos (show 0 < -e' - ev c x by grind) hb
          grind
    · rcases (Rat.le_total : ev c x ≤ e' ∨ e' ≤ ev c x) with z | z
      · exact z
      · rcases Classical.em (ev c x = e') with y | y
        · grind
        · exfalso
          have := Rat.mul_pos (show 0 < ev c x - e' by grind) hb
          grind
theorem min_pos {a b : Rat} (ha : 0 < a) (hb : 0 < b) : ∃ d : Rat, 0 < d ∧ d ≤ a ∧ d ≤ b := by
  rcases (Rat.le_total : a ≤ b ∨ b ≤ a) with h | h
  · exact ⟨a, ha, by grind, h⟩
  · exact ⟨b, hb, h, by grind⟩
/-- so little a change that L times it is below e -/
theorem small_of {L e : Rat} (hL : 0 ≤ L) (he : 0 < e) : ∃ d : Rat, 0 < d ∧ L * d ≤ e := by
  refine ⟨e / (L + 1), ?_, ?_⟩
  · have ew : e / (L + 1) * (L + 1) = e := Rat.div_mul_cancel (by grind)
    rcases (Rat.le_total : e / (L + 1) ≤ 0 ∨ 0 ≤ e / (L + 1)) with z | z
    · exfalso
      have := mul_nn (show 0 ≤ -(e / (L + 1)) by grind) (show 0 ≤ L + 1 by grind)
      grind
    · have : e / (L + 1) ≠ 0 := fun z => by rw [z] at ew; grind
      grind
  · have ew : e / (L + 1) * (L + 1) = e := Rat.div_mul_cancel (by grind)
    have p : 0 ≤ e / (L + 1) := by
      rcases (Rat.le_total : e / (L + 1) ≤ 0 ∨ 0 ≤ e / (L + 1)) with z | z
      · have := mul_nn (show 0 ≤ -(e / (L + 1)) by grind) (show 0 ≤ L + 1 by grind)
        grind
      · exact z
    grind
theorem Ab.mono {a b c : Rat} (h : Ab a b) (hc : b ≤ c) : Ab a c := h.le hc
theorem mul_le_l {L d d' : Rat} (hL : 0 ≤ L) (h : d ≤ d') : L * d ≤ L * d' := by
  have := mul_nn hL (show 0 ≤ d' - d by grind)
  grind
/-- behind a settled head the changes stay -/
theorem stays (M : Rat) (hM : 0 ≤ M) : ∀ (l : List (List Int)) (a : List Int), Chn (a :: l) → ∃ d : Rat, 0 < d ∧ ∀ x y, Ab x M → Ab y M → Ab (y - x) d → ∀ s, Sg (ev a x) s → Sg (ev a y) s → VS s l x = VS s l y
  | [], a, h => ⟨1, by grind, fun x y _ _ _ s _ _ => rfl⟩
  | [b], a, h => by
    obtain ⟨k, k0, hk⟩ := h
    refine ⟨1, by grind, fun x y _ _ _ s _ _ => ?_⟩
    obtain ⟨t, ht⟩ := sg_ex k0
    rw [VS_cons (t := t) (by rw [hk]; exact ht), VS_cons (t := t) (by rw [hk]; exact ht)]
    rfl
  | b :: c :: l, a, h => by
    obtain ⟨⟨al, be, q, ha, hb, hq, e⟩, hc⟩ := h
    obtain ⟨d1, hd1, P1⟩ := stays M hM (c :: l) b hc
    obtain ⟨d2, hd2, P2⟩ := stays M hM l c hc.tail
    obtain ⟨w, hw, hap⟩ := apart M hM l b c hc
    obtain ⟨Q, hQ⟩ := hq M hM
    have Q0 : 0 ≤ Q := (hQ 0 ⟨by grind, by grind⟩).nn
    have bw : 0 < be * w := Rat.mul_pos hb hw
    obtain ⟨g, hg, hgQ⟩ := small_of Q0 (pos_half bw)
    obtain ⟨n, hn, hnw, hng⟩ := min_pos hw hg
    obtain ⟨Lb, hLb, lb⟩ := ev_lip M hM b
    obtain ⟨Lc, hLc, lc⟩ := ev_lip M hM c
    obtain ⟨d3, hd3, h3⟩ := small_of hLb hn
    obtain ⟨d4, hd4, h4⟩ := small_of hLc hw
    obtain ⟨d5, hd5, k1, k2⟩ := min_pos hd1 hd2
    obtain ⟨d6, hd6, k3, k4⟩ := min_pos hd3 hd4
    obtain ⟨d, hd, k5, k6⟩ := min_pos hd5 hd6
    refine ⟨d, hd, fun x y hx hy hxy s sx sy => ?_⟩
    have nQ : Q * n < be * w := by
      have := mul_le_l Q0 hng
      grind
    by_cases sm : Ab (ev b x) n
    · have nc : ¬ Ab (ev c x) w := fun z => hap x hx ⟨sm.le hnw, z⟩
      obtain ⟨t, tx, ty⟩ := settle (by grind) nc (lc x y d4 hx hy (hxy.le (by grind))) h4
      have ts : t = !s := by
        obtain ⟨q1, q2⟩ := (hQ x hx).mul sm
        have ex := e x
        rcases big_sg (by grind) nc with z | z
        · have t1 : t = true := by
            rcases tx with ⟨r, _⟩ | ⟨_, r⟩
            · exact r
            · exfalso; grind
          have := Rat.mul_pos (show 0 < ev c x - w by grind) hb
          rcases sx with ⟨r, p⟩ | ⟨r, p⟩
          · exfalso
            have := Rat.mul_pos ha p
            grind
          · rw [t1, r]; rfl
        · have t1 : t = false := by
            rcases tx with ⟨_, r⟩ | ⟨r, _⟩
            · exfalso; grind
            · exact r
          have := Rat.mul_pos (show 0 < -w - ev c x by grind) hb
          rcases sx with ⟨r, p⟩ | ⟨r, p⟩
          · rw [t1, r]; rfl
          · exfalso
            have := Rat.mul_pos ha (show 0 < -ev a x by grind)
            grind
      subst ts
      rw [VS_mid tx, VS_mid ty, P2 x y hx hy (hxy.le (by grind)) _ tx ty]
    · obtain ⟨t, tx, ty⟩ := settle (by grind) sm (lb x y d3 hx hy (hxy.le (by grind))) h3
      rw [VS_cons tx, VS_cons ty, P1 x y hx hy (hxy.le (by grind)) _ tx ty]
/-- all changes, of a chain whose head is not 0 -/
def VA : List (List Int) → Rat → Nat
  | [], _ => 0
  | c :: l, x => ad (sgs ((c :: l).map fun c => ev c x))
theorem VA_of {c : List Int} {l : List (List Int)} {x : Rat} {s : Bool} (h : Sg (ev c x) s) : VA (c :: l) x = VS s l x := by
  unfold VA VS
  show ad (sg1 (ev c x) ++ _) = _
  rw [h.one]
  rfl
/-- Sturm's theorem for little steps: a step over a change of the head's sign takes one change away -/
theorem step (M : Rat) (hM : 0 ≤ M) {p p' : List Int} {l : List (List Int)} (h : Chn (p :: p' :: l)) (hp : ∀ x, ev p' x = dv p x) : ∃ d : Rat, 0 < d ∧ ∀ x y, Ab x M → Ab y M → x < y → y - x ≤ d → ∀ s t, Sg (ev p x) s → Sg (ev p y) t →
    VA (p :: p' :: l) x = VA (p :: p' :: l) y + if s = t then 0 else 1 := by
  obtain ⟨w, hw, hap⟩ := apart M hM l p p' h
  obtain ⟨d1, hd1, P1⟩ := stays M hM (p' :: l) p h
  obtain ⟨d2, hd2, P2⟩ := stays M hM l p' h.tail
  obtain ⟨L, hL, lp⟩ := ev_lip M hM p
  obtain ⟨L', hL', lp'⟩ := ev_lip M hM p'
  obtain ⟨C, hC, cp⟩ := ev_dv M hM p
  obtain ⟨d3, hd3, h3⟩ := small_of hL hw
  obtain ⟨d4, hd4, h4⟩ := small_of hL' hw
  obtain ⟨d5, hd5, h5⟩ := small_of hC (pos_half hw)
  obtain ⟨e1, he1, k1, k2⟩ := min_pos hd1 hd2
  obtain ⟨e2, he2, k3, k4⟩ := min_pos hd3 hd4
  obtain ⟨e3, he3, k5, k6⟩ := min_pos he1 he2
  obtain ⟨d, hd, k7, k8⟩ := min_pos he3 hd5
  refine ⟨d, hd, fun x y hx hy hxy hd' s t sx sy => ?_⟩
  have xy : Ab (y - x) d := ⟨by grind, hd'⟩
  rw [VA_of sx, VA_of sy]
  by_cases st : s = t
  · subst st
    rw [if_pos rfl, P1 x y hx hy (xy.le (by grind)) s sx sy]
    rfl
  · rw [if_neg st]
    have sm : Ab (ev p x) w := by
      obtain ⟨q1, q2⟩ := (lp x y d3 hx hy (xy.le (by grind))).le h3
      rcases sx with ⟨r, a⟩ | ⟨r, a⟩ <;> rcases sy with ⟨r', b⟩ | ⟨r', b⟩
      · exact absurd (r.trans r'.symm) st
      · constructor <;> grind
      · constructor <;> grind
      · exact absurd (r.trans r'.symm) st
    have nc : ¬ Ab (ev p' x) w := fun z => hap x hx ⟨sm, z⟩
    obtain ⟨u, ux, uy⟩ := settle (by grind) nc (lp' x y d4 hx hy (xy.le (by grind))) h4
    -- the change of the head has the derivative's sign
    have key : Sg (ev p y - ev p x) u := by
      obtain ⟨q1, q2⟩ := cp x y (y - x) hx hy ⟨by grind, by grind⟩
      rw [← hp] at q1 q2
      have c1 : C * (y - x) ≤ w / 2 := by
        have := mul_le_l hC (show y - x ≤ d5 by grind)
        grind
      have c2 : C * ((y - x) * (y - x)) ≤ (y - x) * (w / 2) := by
        have := mul_nn (show 0 ≤ y - x by grind) (show 0 ≤ w / 2 - C * (y - x) by grind)
        grind
      have pw : 0 < (y - x) * w := Rat.mul_pos (by grind) hw
      rcases big_sg (by grind) nc with z | z
      · have u1 : u = true := by
          rcases ux with ⟨r, _⟩ | ⟨_, r⟩
          · exact r
          · exfalso; grind
        have := Rat.mul_pos (show 0 < y - x by grind) (show 0 < ev p' x - w by grind)
        exact .inl ⟨u1, by grind⟩
      · have u1 : u = false := by
          rcases ux with ⟨_, r⟩ | ⟨r, _⟩
          · exfalso; grind
          · exact r
        have := Rat.mul_pos (show 0 < y - x by grind) (show 0 < -w - ev p' x by grind)
        exact .inr ⟨u1, by grind⟩
    have tu : t = u := by
      rcases sx with ⟨r, a⟩ | ⟨r, a⟩ <;> rcases sy with ⟨r', b⟩ | ⟨r', b⟩
      · exact absurd (r.trans r'.symm) st
      · rcases key with ⟨_, z⟩ | ⟨z, _⟩
        · exfalso; grind
        · rw [r', z]
      · rcases key with ⟨z, _⟩ | ⟨_, z⟩
        · rw [r', z]
        · exfalso; grind
      · exact absurd (r.trans r'.symm) st
    rw [VS_cons ux, VS_cons uy, P2 x y hx hy (xy.le (by grind)) u ux uy, if_pos tu, if_neg (fun z => st (z.trans tu.symm))]
    omega
section
variable {p p' : List Int} {l : List (List Int)}
theorem walk {M : Rat} {d : Rat} (nz : ∀ x, ev p x ≠ 0)
    (hd : ∀ x y, Ab x M → Ab y M → x < y → y - x ≤ d → ∀ s t, Sg (ev p x) s → Sg (ev p y) t → VA (p :: p' :: l) x = VA (p :: p' :: l) y + if s = t then 0 else 1)
    {a h : Rat} (hh : 0 < h) (hhd : h ≤ d) (ha : -M ≤ a) : ∀ N : Nat, a + (N : Rat) * h ≤ M → VA (p :: p' :: l) (a + (N : Rat) * h) ≤ VA (p :: p' :: l) a ∧
      ((∀ x y, a ≤ x → x < y → y ≤ a + (N : Rat) * h → 0 < ev p x → 0 < ev p y) → ∀ s t, Sg (ev p a) s → Sg (ev p (a + (N : Rat) * h)) t → VA (p :: p' :: l) a = VA (p :: p' :: l) (a + (N : Rat) * h) + if s = t then 0 else 1)
  | 0, _ => by
    have e : a + ((0 : Nat) : Rat) * h = a := by
      have : ((0 : Nat) : Rat) = 0 := rfl
      rw [this]
      grind
    rw [e]
    refine ⟨Nat.le_refl _, fun _ s t hs ht => ?_⟩
    rw [if_pos (hs.eq ht)]
    rfl
  | N + 1, hM => by
    have c : ((N + 1 : Nat) : Rat) = (N : Rat) + 1 := by
      rw [Rat.natCast_add]
      rfl
    rw [c] at hM ⊢
    have N0 : (0 : Rat) ≤ (N : Rat) := Rat.natCast_nonneg
    have nh := mul_nn N0 (show 0 ≤ h by grind)
    obtain ⟨i1, i2⟩ := walk nz hd hh hhd ha N (by grind)
    obtain ⟨x, ex⟩ : ∃ x, x = a + (N : Rat) * h := ⟨_, rfl⟩
    obtain ⟨y, ey⟩ : ∃ y, y = a + ((N : Rat) + 1) * h := ⟨_, rfl⟩
    rw [← ex] at i1 i2
    rw [← ey]
    rw [← ey] at hM
    have xy : y - x = h := by grind
    have q := hd x y ⟨by grind, by grind⟩ ⟨by grind, by grind⟩ (by grind) (by grind)
    obtain ⟨sx, hx⟩ := sg_ex (nz x)
    refine ⟨?_, fun mono s t hs ht => ?_⟩
    · obtain ⟨sy, hy⟩ := sg_ex (nz y)
      have := q sx sy hx hy
      omega
    · have e1 := i2 (fun u v h1 h2 h3 => mono u v h1 h2 (by grind)) s sx hs hx
      have e2 := q sx t hx ht
      rw [e2] at e1
      rw [e1]
      have m1 : s = true → sx = true := fun z => by
        rcases hs with ⟨_, r⟩ | ⟨r, _⟩
        · rcases Classical.em (a < x) with w | w
          · have := mono a x (by grind) w (by grind) r
            rcases hx with ⟨r', _⟩ | ⟨_, r'⟩
            · exact r'
            · exfalso; grind
          · have : x = a := by grind
            rw [this] at hx
            rcases hx with ⟨r', _⟩ | ⟨_, r'⟩
            · exact r'
            · exfalso; grind
        · rw [r] at z; cases z
      have m2 : sx = true → t = true := fun z => by
        rcases hx with ⟨_, r⟩ | ⟨r, _⟩
        · have := mono x y (by grind) (by grind) (by grind) r
          rcases ht with ⟨r', _⟩ | ⟨_, r'⟩
          · exact r'
          · exfalso; grind
        · rw [r] at z; cases z
      cases s <;> cases sx <;> cases t <;> simp_all
theorem arch (q : Rat) : ∃ n : Nat, 0 < n ∧ q ≤ (n : Rat) := by
  refine ⟨q.ceil.toNat + 1, by omega, ?_⟩
  have h1 : q ≤ (q.ceil : Rat) := Rat.le_ceil
  have h2 : (q.ceil : Rat) ≤ ((q.ceil.toNat : Int) : Rat) := Rat.intCast_le_intCast.mpr (by omega)
  rw [Rat.natCast_add]
  have : (((q.ceil.toNat : Nat) : Int) : Rat) = ((q.ceil.toNat : Nat) : Rat) := rfl
  rw [this] at h2
  have h3 : ((1 : Nat) : Rat) = 1 := rfl
  grind
/-- Sturm's theorem: the changes never grow; where the head's sign turns at most once, from - to +, they tell whether it does -/
theorem sturm (nz : ∀ x, ev p x ≠ 0) (h : Chn (p :: p' :: l)) (hp : ∀ x, ev p' x = dv p x) {a b : Rat} (ab : a < b) :
    VA (p :: p' :: l) b ≤ VA (p :: p' :: l) a ∧ ((∀ x y, a ≤ x → x < y → y ≤ b → 0 < ev p x → 0 < ev p y) → ∀ s t, Sg (ev p a) s → Sg (ev p b) t → VA (p :: p' :: l) a = VA (p :: p' :: l) b + if s = t then 0 else 1) := by
  obtain ⟨A, hA⟩ := Ab.self a
  obtain ⟨B, hB⟩ := Ab.self b
  have A0 := hA.nn
  have B0 := hB.nn
  have M0 : 0 ≤ A + B := by grind
  obtain ⟨d, hd, st⟩ := step (A + B) M0 h hp
  obtain ⟨n, n0, hn⟩ := arch ((b - a) / d)
  have np : (0 : Rat) < (n : Rat) := Rat.natCast_pos.mpr n0
  have e1 : (b - a) / d * d = b - a := Rat.div_mul_cancel (by grind)
  have e2 : (b - a) / (n : Rat) * (n : Rat) = b - a := Rat.div_mul_cancel (by grind)
  have le : b - a ≤ (n : Rat) * d := by
    have := mul_nn (show 0 ≤ (n : Rat) - (b - a) / d by grind) (show 0 ≤ d by grind)
    grind
  have h1 : 0 < (b - a) / (n : Rat) := by
    rcases (Rat.le_total : (b - a) / (n : Rat) ≤ 0 ∨ 0 ≤ (b - a) / (n : Rat)) with z | z
    · exfalso
      have := mul_nn (show 0 ≤ -((b - a) / (n : Rat)) by grind) (show 0 ≤ (n : Rat) by grind)
      grind
    · have : (b - a) / (n : Rat) ≠ 0 := fun z => by rw [z] at e2; grind
      grind
  have h2 : (b - a) / (n : Rat) ≤ d := by
    rcases (Rat.le_total : (b - a) / (n : Rat) ≤ d ∨ d ≤ (b - a) / (n : Rat)) with z | z
    · exact z
    · have := mul_nn (show 0 ≤ (b - a) / (n : Rat) - d by grind) (show 0 ≤ (n : Rat) by grind)
      rcases Classical.em ((b - a) / (n : Rat) = d) with y | y
      · grind
      · exfalso
        have := Rat.mul_pos (show 0 < (b - a) / (n : Rat) - d by grind) np
        grind
  have eb : a + (n : Rat) * ((b - a) / (n : Rat)) = b := by grind
  obtain ⟨a1, a2⟩ := hA
  obtain ⟨b1, b2⟩ := hB
  have w := walk (a := a) (h := (b - a) / (n : Rat)) (M := A + B) nz st h1 h2 (by grind) n (by rw [eb]; grind)
  rw [eb] at w
  exact w
end
end St
/-! Sums of powers as the program holds them, and their values at rational places. -/
namespace Xq
open PySem PySem.Spec PyProof.Rows L2
open St (ev dv Ab VA)
/-! ### value_at -/
theorem foV_2 (t b : Int) : ∀ l : List Int, (foV t b l).2 = b ^ l.length := fun l => by
  have : ∀ (l : List Int) (a : Int × Int), (l.foldl (stV t b) a).2 = a.2 * b ^ l.length := by
    intro l
    induction l with
    | nil => intro a; simp
    | cons x l ih =>
      intro a
      rw [List.foldl_cons, ih]
      show a.2 * b * b ^ l.length = a.2 * b ^ (l.length + 1)
      rw [Int.pow_succ]
      grind
  have q := this l (0, 1)
  rw [Int.one_mul] at q
  exact q
theorem val_cons (x : Int) (xs : List Int) (t b : Int) : valL (x :: xs) t b = valL xs t b * t + x * b ^ xs.length := by
  unfold valL
  rw [List.reverse_cons]
  have : foV t b (xs.reverse ++ [x]) = stV t b (foV t b xs.reverse) x := by
    unfold foV
    rw [List.foldl_append]
    rfl
  rw [this]
  show (foV t b xs.reverse).1 * t + x * (foV t b xs.reverse).2 = _
  rw [foV_2, List.length_reverse]
theorem pow_pos_rat {b : Int} (h : 0 < b) (n : Nat) : (0 : Rat) < ((b ^ n : Int) : Rat) := Rat.intCast_pos.mpr (Int.pow_pos h)
theorem val_ev {b : Int} (hb : 0 < b) (t : Int) : ∀ xs : List Int, ((valL xs t b : Int) : Rat) * (b : Rat) = ((b ^ xs.length : Int) : Rat) * ev xs ((t : Rat) / (b : Rat))
  | [] => by
    have : valL [] t b = 0 := rfl
    rw [this]
    simp [ev]
  | x :: xs => by
    have b0 : (b : Rat) ≠ 0 := by
      have : (0 : Rat) < (b : Rat) := Rat.intCast_pos.mpr hb
      grind
    have ih := val_ev hb t xs
    have e : (t : Rat) / (b : Rat) * (b : Rat) = (t : Rat) := Rat.div_mul_cancel b0
    rw [val_cons]
    have c1 : ((b ^ (x :: xs).length : Int) : Rat) = ((b ^ xs.length : Int) : Rat) * (b : Rat) := by
      rw [List.length_cons, Int.pow_succ, Rat.intCast_mul]
    rw [c1, Rat.intCast_add, Rat.intCast_mul, Rat.intCast_mul]
    simp only [ev]
    generalize ((b ^ xs.length : Int) : Rat) = B at *
    generalize ((valL xs t b : Int) : Rat) = V at *
    generalize ev xs ((t : Rat) / (b : Rat)) = E at *
    generalize (t : Rat) / (b : Rat) = q at *
    have : V * (b : Rat) * (t : Rat) = B * E * (q * (b : Rat)) := by rw [ih, e]
    grind
/-- the sign of what value_at tells is that of the value -/
theorem val_sg {b : Int} (hb : 0 < b) (t : Int) (xs : List Int) : (0 < valL xs t b ↔ 0 < ev xs ((t : Rat) / (b : Rat))) ∧ (valL xs t b = 0 ↔ ev xs ((t : Rat) / (b : Rat)) = 0) ∧ (valL xs t b < 0 ↔ ev xs ((t : Rat) / (b : Rat)) < 0) := by
  have e := val_ev hb t xs
  have B := pow_pos_rat hb xs.length
  have bp : (0 : Rat) < (b : Rat) := Rat.intCast_pos.mpr hb
  have i0 : ((0 : Int) : Rat) = 0 := rfl
  generalize ((b ^ xs.length : Int) : Rat) = B' at *
  generalize ev xs ((t : Rat) / (b : Rat)) = E at *
  have p : 0 < valL xs t b → 0 < E := fun h => by
    have h1 : (0 : Rat) < ((valL xs t b : Int) : Rat) := Rat.intCast_pos.mpr h
    have h2 := Rat.mul_pos h1 bp
    rcases (Rat.le_total : E ≤ 0 ∨ 0 ≤ E) with z | z
    · have := Rat.mul_nonneg (show 0 ≤ -E by grind) (show 0 ≤ B' by grind)
      exfalso
      grind
    · have : E ≠ 0 := fun q => by rw [q] at e; grind
      grind
  have n : valL xs t b < 0 → E < 0 := fun h => by
    have h1 : ((valL xs t b : Int) : Rat) < 0 := Rat.intCast_neg_iff.mpr h
    have h2 := Rat.mul_pos (show 0 < -((valL xs t b : Int) : Rat) by grind) bp
    rcases (Rat.le_total : E ≤ 0 ∨ 0 ≤ E) with z | z
    · have : E ≠ 0 := fun q => by rw [q] at e; grind
      grind
    · have := Rat.mul_nonneg (show 0 ≤ E by grind) (show 0 ≤ B' by grind)
      exfalso
      grind
  have z : valL xs t b = 0 → E = 0 := fun h => by
    rw [h, i0, Rat.zero_mul] at e
    rcases Rat.mul_eq_zero.mp e.symm with q | q
    · exfalso; grind
    · exact q
  refine ⟨⟨p, fun h => ?_⟩, ⟨z, fun h => ?_⟩, ⟨n, fun h => ?_⟩⟩
  · rcases Int.lt_trichotomy (valL xs t b) 0 with q | q | q
    · have := n q; exfalso; grind
    · have := z q; exfalso; grind
    · exact q
  · rcases Int.lt_trichotomy (valL xs t b) 0 with q | q | q
    · have := n q; exfalso; grind
    · exact q
    · have := p q; exfalso; grind
  · rcases Int.lt_trichotomy (valL xs t b) 0 with q | q | q
    · exact q
    · have := z q; exfalso; grind
    · have := p q; exfalso; grind
theorem sgn_ev {b : Int} (hb : 0 < b) (t : Int) (xs : List Int) : sgn1 (valL xs t b) = St.sg1 (ev xs ((t : Rat) / (b : Rat))) := by
  obtain ⟨h1, h2, h3⟩ := val_sg hb t xs
  unfold sgn1 St.sg1
  by_cases z : valL xs t b = 0
  · rw [if_pos z, if_pos (h2.mp z)]
  · rw [if_neg z, if_neg (fun q => z (h2.mpr q))]
    by_cases q : 0 < valL xs t b
    · rw [decide_eq_true q, decide_eq_true (h1.mp q)]
    · rw [decide_eq_false q, decide_eq_false (fun r => q (h1.mpr r))]
theorem sgnL_ev {b : Int} (hb : 0 < b) (t : Int) : ∀ cs : List (List Int), sgnL (cs.map fun xs => valL xs t b) = St.sgs (cs.map fun xs => ev xs ((t : Rat) / (b : Rat)))
  | [] => rfl
  | c :: cs => by
    show sgn1 (valL c t b) ++ sgnL (cs.map fun xs => valL xs t b) = St.sg1 _ ++ St.sgs _
    rw [sgn_ev hb, sgnL_ev hb t cs]
theorem dif_ad : ∀ l : List Bool, (difL (l.zip (l.drop 1))).length = St.ad l
  | [] => rfl
  | [_] => rfl
  | a :: b :: l => by
    have ih := dif_ad (b :: l)
    show (dif1 (a, b) ++ difL ((b :: l).zip ((b :: l).drop 1))).length = _
    rw [List.length_append, ih]
    unfold dif1
    show (if a = b then [] else [a]).length + _ = (if a = b then 0 else 1) + St.ad (b :: l)
    split <;> rfl
/-- changes are the chain's changes at the place -/
theorem chg_VA {b : Int} (hb : 0 < b) (t : Int) (c : List Int) (cs : List (List Int)) : chgL (c :: cs) t b = ((VA (c :: cs) ((t : Rat) / (b : Rat)) : Nat) : Int) := by
  unfold chgL
  rw [sgnL_ev hb, dif_ad]
  rfl
/-! ### places -/
abbrev cf (xs : List Int) (k : Nat) : Int := xs.getD k 0
theorem ev_zero {x : Rat} : ∀ l : List Int, (∀ k, cf l k = 0) → ev l x = 0
  | [], _ => rfl
  | a :: l, h => by
    have h0 : a = 0 := h 0
    have := ev_zero (x := x) l fun k => h (k + 1)
    have z : ((0 : Int) : Rat) = 0 := rfl
    simp only [ev]
    rw [this, h0, z]
    grind
theorem ev_ext {x : Rat} : ∀ a b : List Int, (∀ k, cf a k = cf b k) → ev a x = ev b x
  | [], b, h => (ev_zero b fun k => (h k).symm).symm
  | a :: l, [], h => ev_zero (a :: l) fun k => h k
  | a :: l, b :: m, h => by
    have h0 : a = b := h 0
    have := ev_ext (x := x) l m fun k => h (k + 1)
    simp only [ev]
    rw [this, h0]
def addP : List Int → List Int → List Int
  | [], m => m
  | a :: l, [] => a :: l
  | a :: l, b :: m => (a + b) :: addP l m
def smulP (c : Int) (l : List Int) : List Int := l.map fun x => c * x
def mulP : List Int → List Int → List Int
  | [], _ => []
  | a :: l, m => addP (smulP a m) (0 :: mulP l m)
def shP (s : Nat) (l : List Int) : List Int := List.replicate s 0 ++ l
theorem ev_add {x : Rat} : ∀ a b : List Int, ev (addP a b) x = ev a x + ev b x
  | [], b => by simp [addP, ev]; grind
  | a :: l, [] => by simp [addP, ev]; grind
  | a :: l, b :: m => by
    simp only [addP, ev, ev_add l m, Rat.intCast_add]
    grind
theorem ev_smul {x : Rat} (c : Int) : ∀ l : List Int, ev (smulP c l) x = (c : Rat) * ev l x
  | [] => by simp [smulP, ev]
  | a :: l => by
    have ih := ev_smul (x := x) c l
    show ((c * a : Int) : Rat) + x * ev (smulP c l) x = _
    rw [ih, Rat.intCast_mul]
    simp only [ev]
    grind
theorem ev_mul {x : Rat} : ∀ l m : List Int, ev (mulP l m) x = ev l x * ev m x
  | [], m => by simp [mulP, ev]
  | a :: l, m => by
    simp only [mulP, ev_add, ev_smul, ev, ev_mul l m]
    have : ((0 : Int) : Rat) = 0 := rfl
    rw [this]
    grind
theorem ev_sh {x : Rat} (l : List Int) : ∀ s : Nat, ev (shP s l) x = x ^ s * ev l x
  | 0 => by simp [shP]
  | s + 1 => by
    have ih := ev_sh (x := x) l s
    have e : shP (s + 1) l = 0 :: shP s l := rfl
    rw [e]
    simp only [ev]
    rw [ih, Rat.pow_succ]
    have : ((0 : Int) : Rat) = 0 := rfl
    rw [this]
    grind
theorem cf_add : ∀ (a b : List Int) (k : Nat), cf (addP a b) k = cf a k + cf b k
  | [], b, k => by simp [addP, cf]
  | a :: l, [], k => by simp [addP, cf]
  | a :: l, b :: m, 0 => rfl
  | a :: l, b :: m, k + 1 => cf_add l m k
theorem cf_smul (c : Int) : ∀ (l : List Int) (k : Nat), cf (smulP c l) k = c * cf l k
  | [], k => by simp [smulP, cf]
  | a :: l, 0 => rfl
  | a :: l, k + 1 => cf_smul c l k
theorem cf_sh (l : List Int) : ∀ (s k : Nat), cf (shP s l) k = if s ≤ k then cf l (k - s) else 0
  | 0, k => by simp [shP]
  | s + 1, 0 => rfl
  | s + 1, k + 1 => by
    have ih := cf_sh l s k
    show cf (shP s l) k = _
    rw [ih]
    by_cases h : s ≤ k
    · rw [if_pos h, if_pos (by omega), Nat.add_sub_add_right]
    · rw [if_neg h, if_neg (by omega)]
end Xq
/-! combined, remainder, sturm_chain, by places. -/
namespace Xq
open PySem PySem.Spec PyProof.Rows L2
open St (ev dv Ab VA)
theorem cf_out {xs : List Int} {k : Nat} (h : xs.length ≤ k) : cf xs k = 0 := by
  show xs.getD k 0 = 0
  rw [List.getD_eq_getElem?_getD, List.getElem?_eq_none h]
  rfl
theorem cf_set (xs : List Int) (i k : Nat) (z : Int) (h : i < xs.length) : cf (xs.set i z) k = if k = i then z else cf xs k := by
  show (xs.set i z).getD k 0 = _
  rw [List.getD_eq_getElem?_getD, List.getElem?_set]
  by_cases e : i = k
  · subst e
    rw [if_pos rfl, if_pos rfl, if_pos h]
    rfl
  · rw [if_neg e, if_neg (fun q => e q.symm)]
    rfl
theorem cf_st (g : Int → Int → Int) (xs : List Int) (sh : Nat) (a : List Int) : ∀ n, n + sh ≤ a.length → ∀ k, cf (stG g xs sh a n) k = if sh ≤ k ∧ k < n + sh then g (cf a k) (cf xs (k - sh)) else cf a k
  | 0, _, k => by
    rw [if_neg (by omega)]
    rfl
  | n + 1, h, k => by
    have ih := cf_st g xs sh a n (by omega)
    show cf ((stG g xs sh a n).set (n + sh) (g ((stG g xs sh a n).getD (n + sh) 0) (xs.getD n 0))) k = _
    rw [cf_set _ _ _ _ (by rw [stG_len]; omega)]
    by_cases e : k = n + sh
    · subst e
      rw [if_pos rfl, if_pos (by omega)]
      have e2 : (stG g xs sh a n).getD (n + sh) 0 = cf a (n + sh) := by
        have := ih (n + sh)
        rw [if_neg (by omega)] at this
        exact this
      rw [e2, Nat.add_sub_cancel]
    · rw [if_neg e, ih k]
      by_cases c : sh ≤ k ∧ k < n + sh
      · rw [if_pos c, if_pos (by omega)]
      · rw [if_neg c, if_neg (by omega)]
theorem cf_rep (n k : Nat) : cf (List.replicate n (0 : Int)) k = 0 := by
  show (List.replicate n (0 : Int)).getD k 0 = 0
  rw [List.getD_eq_getElem?_getD, List.getElem?_replicate]
  split <;> rfl
/-! ### without zeros at the end -/
theorem trimM_zero (xs : List Int) : ∀ m, ∀ k, trimM xs m ≤ k → k < m → cf xs k = 0
  | 0, k, _, h => by omega
  | m + 1, k, h1, h2 => by
    unfold trimM at h1
    by_cases z : xs.getD m 0 = 0
    · rw [if_pos z] at h1
      by_cases e : k = m
      · rw [e]; exact z
      · exact trimM_zero xs m k h1 (by omega)
    · rw [if_neg z] at h1
      omega
theorem trimM_last (xs : List Int) : ∀ m, 0 < trimM xs m → cf xs (trimM xs m - 1) ≠ 0
  | 0, h => by
    have : trimM xs 0 = 0 := rfl
    omega
  | m + 1, h => by
    unfold trimM at h ⊢
    by_cases z : xs.getD m 0 = 0
    · rw [if_pos z] at h ⊢
      exact trimM_last xs m h
    · rw [if_neg z] at h ⊢
      exact z
theorem cf_take (xs : List Int) (n k : Nat) : cf (xs.take n) k = if k < n then cf xs k else 0 := by
  show (xs.take n).getD k 0 = _
  rw [List.getD_eq_getElem?_getD, List.getElem?_take]
  split <;> rfl
theorem cf_trim (xs : List Int) (k : Nat) : cf (trimI xs) k = cf xs k := by
  unfold trimI
  rw [cf_take]
  by_cases h : k < trimM xs xs.length
  · rw [if_pos h]
  · rw [if_neg h]
    by_cases q : k < xs.length
    · exact (trimM_zero xs xs.length k (by omega) q).symm
    · exact (cf_out (by omega)).symm
/-- no zero at the end -/
def Tr (xs : List Int) : Prop := ∀ n, xs.length = n + 1 → cf xs n ≠ 0
theorem tr_trim (xs : List Int) : Tr (trimI xs) := fun n hn => by
  have l : (trimI xs).length = trimM xs xs.length := by
    unfold trimI
    rw [List.length_take, Nat.min_eq_left (trimM_le xs xs.length)]
  rw [cf_trim]
  have := trimM_last xs xs.length (by omega)
  rw [l] at hn
  rw [hn] at this
  exact this
theorem tr_len {xs : List Int} (h : Tr xs) {m : Nat} (z : ∀ k, m ≤ k → cf xs k = 0) : xs.length ≤ m := by
  rcases Nat.lt_or_ge m xs.length with q | q
  · exfalso
    obtain ⟨n, hn⟩ : ∃ n, xs.length = n + 1 := ⟨xs.length - 1, by omega⟩
    exact h n hn (z n (by omega))
  · exact q
theorem last_cf {xs : List Int} {n : Nat} (h : xs.length = n + 1) : xs.getLastD 0 = cf xs n := by
  show _ = xs.getD n 0
  rw [List.getLastD_eq_getLast?, List.getLast?_eq_getElem?, List.getD_eq_getElem?_getD, h]
  rfl
/-! ### combined -/
theorem cf_comb (c : Int) (xs : List Int) (w : Int) (ys : List Int) (sh k : Nat) : cf (combL c xs w ys sh) k = c * cf xs k - w * (if sh ≤ k then cf ys (k - sh) else 0) := by
  unfold combL
  rw [cf_trim]
  have la : (combA c xs ys sh).length = max xs.length (ys.length + sh) := by
    unfold combA
    rw [stG_len, List.length_replicate]
  rw [cf_st _ _ _ _ _ (by rw [la]; omega)]
  have ea : ∀ k, cf (combA c xs ys sh) k = c * cf xs k := fun k => by
    unfold combA
    rw [cf_st _ _ _ _ _ (by rw [List.length_replicate]; omega), cf_rep]
    by_cases h : k < xs.length
    · rw [if_pos (by omega)]
      show 0 + c * cf xs (k - 0) = _
      rw [Int.zero_add]
      rfl
    · rw [if_neg (by omega), cf_out (xs := xs) (by omega), Int.mul_zero]
  rw [ea]
  by_cases h : sh ≤ k
  · rw [if_pos h]
    by_cases q : k < ys.length + sh
    · rw [if_pos ⟨h, q⟩]
    · rw [if_neg (by omega), cf_out (xs := ys) (by omega)]
      omega
  · rw [if_neg (by omega), if_neg h]
    omega
theorem tr_comb (c : Int) (xs : List Int) (w : Int) (ys : List Int) (sh : Nat) : Tr (combL c xs w ys sh) := tr_trim _
theorem ev_comb {x : Rat} (c : Int) (xs : List Int) (w : Int) (ys : List Int) (sh : Nat) : ev (combL c xs w ys sh) x = (c : Rat) * ev xs x - (w : Rat) * (x ^ sh * ev ys x) := by
  have q : ev (combL c xs w ys sh) x = ev (addP (smulP c xs) (smulP (-w) (shP sh ys))) x := ev_ext _ _ fun k => by
    rw [cf_comb, cf_add, cf_smul, cf_smul, cf_sh]
    grind
  rw [q, ev_add, ev_smul, ev_smul, ev_sh, Rat.intCast_neg]
  grind
/-! ### remainder -/
def sgM (ys xs : List Int) : Int := if ys.getLastD 0 > 0 then xs.getLastD 0 else -(xs.getLastD 0)
def abM (ys : List Int) : Int := if ys.getLastD 0 < 0 then -(ys.getLastD 0) else ys.getLastD 0
theorem nxt_eq (ys xs : List Int) : nxt ys xs = combL (abM ys) xs (sgM ys xs) ys (xs.length - ys.length) := rfl
theorem abM_pos {ys : List Int} (h : Tr ys) (h1 : 1 ≤ ys.length) : 0 < abM ys := by
  obtain ⟨n, hn⟩ : ∃ n, ys.length = n + 1 := ⟨ys.length - 1, by omega⟩
  have := h n hn
  rw [← last_cf hn] at this
  unfold abM
  split <;> omega
/-- a turn makes it shorter -/
theorem nxt_len {ys xs : List Int} (h1 : 1 ≤ ys.length) (h : ys.length ≤ xs.length) : (nxt ys xs).length ≤ xs.length - 1 := by
  refine tr_len (tr_comb _ _ _ _ _) fun k hk => ?_
  show cf (combL (abM ys) xs (sgM ys xs) ys (xs.length - ys.length)) k = 0
  rw [cf_comb]
  obtain ⟨n, hn⟩ : ∃ n, ys.length = n + 1 := ⟨ys.length - 1, by omega⟩
  obtain ⟨m, hm⟩ : ∃ m, xs.length = m + 1 := ⟨xs.length - 1, by omega⟩
  rw [if_pos (by omega)]
  by_cases e : k = m
  · subst e
    rw [show k - (xs.length - ys.length) = n by omega, ← last_cf hn, ← last_cf hm]
    unfold abM sgM
    rcases Int.lt_trichotomy (ys.getLastD 0) 0 with q | q | q
    · rw [if_pos q, if_neg (by omega)]
      grind
    · rw [if_neg (by omega), if_neg (by omega), q]
      simp
    · rw [if_neg (by omega), if_pos q]
      grind
  · rw [cf_out (xs := xs) (by omega), cf_out (xs := ys) (by omega)]
    simp
/-- what is left, by a chain of turns: al a = q b + r -/
def Lf (a b r : List Int) : Prop := ∃ (al : Int) (q : List Int), 0 < al ∧ ∀ x : Rat, (al : Rat) * ev a x = ev q x * ev b x + ev r x
theorem lf_self (a b : List Int) : Lf a b a := ⟨1, [], by decide, fun x => by
  have : ((1 : Int) : Rat) = 1 := rfl
  simp only [ev]
  rw [this]
  grind⟩
theorem lf_nxt {a b r : List Int} (hb : Tr b) (b1 : 1 ≤ b.length) (h : Lf a b r) : Lf a b (nxt b r) := by
  obtain ⟨al, q, a0, e⟩ := h
  have p := abM_pos hb b1
  refine ⟨abM b * al, addP (smulP (abM b) q) (smulP (sgM b r) (shP (r.length - b.length) [1])), Int.mul_pos p a0, fun x => ?_⟩
  have i1 : ((1 : Int) : Rat) = 1 := rfl
  rw [nxt_eq, ev_comb, ev_add, ev_smul, ev_smul, ev_sh, Rat.intCast_mul]
  simp only [ev]
  rw [i1]
  have := e x
  grind
theorem remS_of {b : List Int} (hb : Tr b) (b1 : 1 ≤ b.length) {a : List Int} : ∀ (n : Nat) (r : List Int), Tr r → Lf a b r → r.length + 1 ≤ n + b.length → Tr (remS b n r) ∧ Lf a b (remS b n r) ∧ (remS b n r).length < b.length
  | 0, r, h1, h2, h3 => ⟨h1, h2, by show r.length < b.length; omega⟩
  | n + 1, r, h1, h2, h3 => by
    unfold remS
    by_cases c : r.length < b.length
    · rw [if_pos c]
      exact ⟨h1, h2, c⟩
    · rw [if_neg c]
      have l := nxt_len b1 (show b.length ≤ r.length by omega)
      exact remS_of hb b1 n (nxt b r) (tr_comb _ _ _ _ _) (lf_nxt hb b1 h2) (by omega)
/-! ### without the divisor in common -/
theorem gcd_foldl (d : Nat) : ∀ (l : List Int) (g : Nat), d ∣ l.foldl (fun g x => Nat.gcd g x.natAbs) g ↔ d ∣ g ∧ ∀ x ∈ l, d ∣ x.natAbs
  | [], g => by simp
  | x :: l, g => by
    rw [List.foldl_cons, gcd_foldl d l, Nat.dvd_gcd_iff]
    simp only [List.mem_cons, forall_eq_or_imp]
    exact and_assoc
theorem gcd_all (d : Nat) (l : List Int) : d ∣ gcdL l ↔ ∀ x ∈ l, d ∣ x.natAbs := by
  unfold gcdL
  rw [gcd_foldl]
  simp
theorem gcd_mem {l : List Int} {x : Int} (h : x ∈ l) : ((gcdL l : Nat) : Int) ∣ x := Int.ofNat_dvd_left.mpr ((gcd_all _ l).mp (Nat.dvd_refl _) x h)
theorem prim_of (xs : List Int) : (primL xs).length = xs.length ∧ ∃ g : Int, 0 < g ∧ ∀ k, cf xs k = g * cf (primL xs) k := by
  unfold primL
  by_cases h : 1 < (gcdL xs : Nat)
  · rw [if_pos h]
    refine ⟨List.length_map .., (gcdL xs : Nat), by omega, fun k => ?_⟩
    show xs.getD k 0 = _ * (List.map _ xs).getD k 0
    rw [List.getD_eq_getElem?_getD, List.getD_eq_getElem?_getD, List.getElem?_map]
    cases e : xs[k]? with
    | none => simp
    | some z =>
      have d := gcd_mem (List.mem_of_getElem? e)
      show z = _ * z.fdiv _
      rw [Int.mul_comm]
      exact (Int.fdiv_mul_cancel d).symm
  · rw [if_neg h]
    exact ⟨rfl, 1, by decide, fun k => (Int.one_mul _).symm⟩
/-- al a = q b + be r -/
def Lg (a b r : List Int) : Prop := ∃ (al be : Int) (q : List Int), 0 < al ∧ 0 < be ∧ ∀ x : Rat, (al : Rat) * ev a x = ev q x * ev b x + (be : Rat) * ev r x
theorem rem_of {a b : List Int} (ha : Tr a) (hb : Tr b) (b1 : 1 ≤ b.length) (hl : a.length + 1 ≤ 20 + b.length) : Tr (remL b 20 a) ∧ Lg a b (remL b 20 a) ∧ (remL b 20 a).length < b.length := by
  obtain ⟨h1, ⟨al, q, a0, e⟩, h3⟩ := remS_of hb b1 20 a ha (lf_self a b) hl
  obtain ⟨p1, g, g0, p2⟩ := prim_of (remS b 20 a)
  have eg : ∀ x : Rat, ev (remS b 20 a) x = (g : Rat) * ev (remL b 20 a) x := fun x => by
    rw [← ev_smul]
    exact ev_ext _ _ fun k => by rw [cf_smul]; exact p2 k
  refine ⟨fun n hn z => ?_, ⟨al, g, q, a0, g0, fun x => by rw [e, eg]⟩, by show (primL _).length < _; omega⟩
  have hn : (primL (remS b 20 a)).length = n + 1 := hn
  have := h1 n (by omega)
  rw [p2 n] at this
  have z : cf (primL (remS b 20 a)) n = 0 := z
  rw [z, Int.mul_zero] at this
  exact this rfl
/-! ### the derivative -/
theorem der_len (xs : List Int) : (derL xs).length = xs.length - 1 := by
  unfold derL
  rw [List.length_map, List.length_range]
theorem cf_der (xs : List Int) (k : Nat) : cf (derL xs) k = ((1 + k : Nat) : Int) * cf xs (1 + k) := by
  show (derL xs).getD k 0 = _
  unfold derL
  rw [List.getD_eq_getElem?_getD, List.getElem?_map]
  by_cases h : k < xs.length - 1
  · rw [List.getElem?_range h]
    rfl
  · rw [List.getElem?_eq_none (by rw [List.length_range]; omega), cf_out (xs := xs) (by omega)]
    simp
/-- k l0, (k + 1) l1, .. -/
def kP : Nat → List Int → List Int
  | _, [] => []
  | k, a :: l => (k : Int) * a :: kP (k + 1) l
theorem cf_kP : ∀ (l : List Int) (k j : Nat), cf (kP k l) j = ((k + j : Nat) : Int) * cf l j
  | [], k, j => by simp [kP, cf]
  | a :: l, k, 0 => rfl
  | a :: l, k, j + 1 => by
    have := cf_kP l (k + 1) j
    show cf (kP (k + 1) l) j = _
    rw [this, show k + 1 + j = k + (j + 1) by omega]
    rfl
theorem ev_kP {x : Rat} : ∀ (l : List Int) (k : Nat), ev (kP k l) x = (k : Rat) * ev l x + x * dv l x
  | [], k => by simp [kP, ev, dv]; grind
  | a :: l, k => by
    have ih := ev_kP (x := x) l (k + 1)
    simp only [kP, ev, dv]
    rw [ih, Rat.intCast_mul, Rat.natCast_add]
    have : ((1 : Nat) : Rat) = 1 := rfl
    have e2 : (((k : Nat) : Int) : Rat) = (k : Rat) := rfl
    rw [this, e2]
    grind
theorem ev_der (xs : List Int) (x : Rat) : ev (derL xs) x = dv xs x := by
  cases xs with
  | nil => rfl
  | cons a l =>
    have e : ev (derL (a :: l)) x = ev (kP 1 l) x := ev_ext _ _ fun k => by
      rw [cf_der, cf_kP, show 1 + k = k + 1 by omega]
      rfl
    rw [e, ev_kP]
    have : ((1 : Nat) : Rat) = 1 := rfl
    simp only [dv]
    rw [this]
    grind
theorem tr_der {xs : List Int} (h : Tr xs) : Tr (derL xs) := fun n hn => by
  rw [der_len] at hn
  rw [cf_der]
  have := h (1 + n) (by omega)
  exact Int.mul_ne_zero (by omega) this
end Xq
/-! sturm_chain of what has no factors is a chain as Sturm's theorem wants it. -/
namespace Xq
open PySem PySem.Spec PyProof.Rows L2
open St (ev dv Ab VA)
/-- no factor of a degree between -/
def Irr (xs : List Int) : Prop := ∀ (al : Int) (g q : List Int), 0 < al → Tr g → 2 ≤ g.length → g.length < xs.length → (∀ x : Rat, (al : Rat) * ev xs x = ev q x * ev g x) → False
/-- al a + be c = q b -/
def Lh (a b c : List Int) : Prop := ∃ (al be : Int) (q : List Int), 0 < al ∧ 0 < be ∧ ∀ x : Rat, (al : Rat) * ev a x + (be : Rat) * ev c x = ev q x * ev b x
theorem Lh.rel {a b c : List Int} (h : Lh a b c) : St.Rel a b c := by
  obtain ⟨al, be, q, h1, h2, e⟩ := h
  exact ⟨al, be, ev q, Rat.intCast_pos.mpr h1, Rat.intCast_pos.mpr h2, fun M hM => St.ev_bd M hM q, e⟩
def negL (l : List Int) : List Int := l.map fun x => -x
theorem ev_neg {x : Rat} : ∀ l : List Int, ev (negL l) x = -ev l x
  | [] => by simp [negL, ev]
  | a :: l => by
    have ih := ev_neg (x := x) l
    show ((-a : Int) : Rat) + x * ev (negL l) x = _
    rw [ih, Rat.intCast_neg]
    simp only [ev]
    grind
theorem tr_neg {l : List Int} (h : Tr l) : Tr (negL l) := fun n hn => by
  have hn : l.length = n + 1 := by rw [← hn]; exact (List.length_map ..).symm
  have := h n hn
  show (List.map _ l).getD n 0 ≠ 0
  rw [List.getD_eq_getElem?_getD, List.getElem?_map]
  have e : cf l n = (l[n]?).getD 0 := List.getD_eq_getElem?_getD ..
  rw [e] at this
  cases q : l[n]? with
  | none => rw [q] at this; exact absurd rfl this
  | some z =>
    rw [q] at this
    show -z ≠ 0
    have : z ≠ 0 := this
    omega
/-- the chain with its last one first: neighbours are bound as they should be -/
def Pr : List (List Int) → Prop
  | c :: b :: a :: r => Lh a b c ∧ Pr (b :: a :: r)
  | _ => True
/-- g goes in l -/
def Dv (g l : List Int) : Prop := ∃ (al : Int) (q : List Int), 0 < al ∧ ∀ x : Rat, (al : Rat) * ev l x = ev q x * ev g x
theorem dv_self (g : List Int) : Dv g g := ⟨1, [1], by decide, fun x => by
  have : ((1 : Int) : Rat) = 1 := rfl
  simp only [ev]
  rw [this]
  grind⟩
theorem dv_up {g a b c : List Int} (h : Lh a b c) (hb : Dv g b) (hc : Dv g c) : Dv g a := by
  obtain ⟨al, be, q, a0, b0, e⟩ := h
  obtain ⟨be', qb, b0', eb⟩ := hb
  obtain ⟨ga', qc, c0', ec⟩ := hc
  refine ⟨al * be' * ga', addP (smulP ga' (mulP q qb)) (smulP (-(be * be')) qc), Int.mul_pos (Int.mul_pos a0 b0') c0', fun x => ?_⟩
  rw [ev_add, ev_smul, ev_smul, ev_mul, Rat.intCast_mul, Rat.intCast_mul, Rat.intCast_neg, Rat.intCast_mul]
  have e1 := e x
  have e2 := eb x
  have e3 := ec x
  generalize ev a x = A at *
  generalize ev b x = B at *
  generalize ev c x = C' at *
  generalize ev g x = G at *
  generalize ev q x = Q at *
  generalize ev qb x = QB at *
  generalize ev qc x = QC at *
  generalize (al : Rat) = a' at *
  generalize (be : Rat) = b' at *
  generalize (be' : Rat) = p at *
  generalize (ga' : Rat) = r at *
  have f1 : a' * p * r * A = p * r * (Q * B - b' * C') := by grind
  rw [f1]
  have f2 : p * r * (Q * B) = r * Q * (p * B) := by grind
  have f3 : p * r * (b' * C') = p * b' * (r * C') := by grind
  have f4 : p * r * (Q * B - b' * C') = r * Q * (p * B) - p * b' * (r * C') := by grind
  rw [f4, e2, e3]
  grind
theorem dv_all {g : List Int} : ∀ (r : List (List Int)) (b a : List Int), Pr (b :: a :: r) → Dv g b → Dv g a → ∀ l ∈ a :: r, Dv g l
  | [], b, a, _, _, ha, l, hl => by
    rw [List.mem_singleton.mp hl]
    exact ha
  | z :: r, b, a, hp, hb, ha, l, hl => by
    have hz := dv_up hp.1 ha hb
    rcases List.mem_cons.mp hl with rfl | hl
    · exact ha
    · exact dv_all r a z hp.2 ha hz l hl
/-- read from the head -/
theorem chn_of : ∀ (r : List (List Int)) (a b : List Int) (s : List (List Int)), Pr (b :: a :: r) → St.Chn (a :: b :: s) → St.Chn ((a :: r).reverse ++ b :: s)
  | [], a, b, s, _, h => h
  | z :: r, a, b, s, hp, h => by
    have hz : St.Chn (z :: a :: b :: s) := ⟨hp.1.rel, h⟩
    have := chn_of r z a (b :: s) hp.2 hz
    rw [List.reverse_cons, List.append_assoc]
    exact this
theorem lh_rem {a b : List Int} (ha : Tr a) (hb : Tr b) (b1 : 1 ≤ b.length) (hl : a.length + 1 ≤ 20 + b.length) : Lh a b (negL (remL b 20 a)) := by
  obtain ⟨_, ⟨al, be, q, a0, b0, e⟩, _⟩ := rem_of ha hb b1 hl
  refine ⟨al, be, q, a0, b0, fun x => ?_⟩
  rw [ev_neg, e]
  grind
theorem const_1 {l : List Int} (h : l.length = 1) (t : Tr l) : ∃ k : Rat, k ≠ 0 ∧ ∀ x, ev l x = k := by
  rcases l with _ | ⟨a, _ | ⟨b, l⟩⟩
  · cases h
  · refine ⟨(a : Rat), fun z => t 0 rfl (Rat.intCast_eq_zero_iff.mp z), fun x => ?_⟩
    simp only [ev]
    grind
  · simp at h
/-- the chain as it grows; at its end a number stands -/
theorem chS_of {xs : List Int} (hI : Irr xs) : ∀ (n : Nat) (b a : List Int) (r : List (List Int)), Pr (b :: a :: r) → Tr a → Tr b → 1 ≤ a.length → b.length < a.length → a.length ≤ 10 → b.length < n → (∀ l ∈ r, a.length < l.length) → xs ∈ a :: r → (a = xs → 1 ≤ b.length) →
    ∃ (c : List Int) (s : List (List Int)), chS n (b :: a :: r) = [] :: c :: s ∧ (∃ t, c :: s = t ++ a :: r) ∧ Pr ([] :: c :: s) ∧ c.length = 1 ∧ Tr c
  | 0, b, a, r, _, _, _, _, _, _, h, _, _, _ => by omega
  | n + 1, b, a, r, hp, ha, hb, a1, ba, a10, hn, hlen, hx, hxa => by
    show ∃ c s, (if b.isEmpty then b :: a :: r else chS n ((negL (remL b 20 a)) :: b :: a :: r)) = [] :: c :: s ∧ _
    by_cases e : b = []
    · subst e
      refine ⟨a, r, rfl, ⟨[], rfl⟩, hp, ?_, ha⟩
      -- a goes in all of them, so also in xs
      rcases Nat.lt_or_ge a.length 2 with q | q
      · omega
      · exfalso
        have d := dv_all (g := a) r [] a hp ⟨1, [], by decide, fun x => by simp [ev]⟩ (dv_self a) xs hx
        obtain ⟨al, qq, a0, ee⟩ := d
        rcases Nat.lt_or_ge a.length xs.length with z | z
        · exact hI al a qq a0 ha q z ee
        · -- as long as xs: xs itself
          rcases List.mem_cons.mp hx with w | w
          · have := hxa w.symm
            simp at this
          · have := hlen xs w
            omega
    · have b1 : 1 ≤ b.length := by
        cases b with
        | nil => exact absurd rfl e
        | cons z l => simp
      have hne : b.isEmpty = false := by
        cases b with
        | nil => exact absurd rfl e
        | cons z l => rfl
      rw [hne]
      simp only [Bool.false_eq_true, if_false]
      obtain ⟨t1, _, t3⟩ := rem_of ha hb b1 (by omega)
      have ln : (negL (remL b 20 a)).length = (remL b 20 a).length := List.length_map ..
      obtain ⟨c, s, e1, ⟨t, e2⟩, e3, e4, e5⟩ := chS_of hI n (negL (remL b 20 a)) b (a :: r) ⟨lh_rem ha hb b1 (by omega), hp⟩ hb (tr_neg t1) b1 (by omega) (by omega) (by omega) (fun l hl => by
        rcases List.mem_cons.mp hl with rfl | hl
        · exact ba
        · have := hlen l hl
          omega) (List.mem_cons_of_mem _ hx) (fun z => by
        rcases List.mem_cons.mp hx with w | w
        · rw [z, w] at ba
          omega
        · have := hlen xs w
          rw [z] at ba
          omega)
      exact ⟨c, s, e1, ⟨t ++ [b], by rw [e2]; simp⟩, e3, e4, e5⟩
end Xq
/-! The chain of what has no factors; its counts where the sign turns once above 0. -/
namespace Xq
open PySem PySem.Spec PyProof.Rows L2
open St (ev dv Ab VA)
theorem sturm_chn {xs : List Int} (hI : Irr xs) (ht : Tr xs) (l3 : 3 ≤ xs.length) (l8 : xs.length ≤ 8) : ∃ l, sturmL xs = xs :: derL xs :: l ∧ St.Chn (sturmL xs) ∧ l.length ≤ 9 := by
  have dl := der_len xs
  have td := tr_der ht
  have hne : (derL xs).isEmpty = false := by
    cases e : derL xs with
    | nil => rw [e] at dl; simp at dl; omega
    | cons z l => rfl
  obtain ⟨t1, _, t3⟩ := rem_of ht td (by omega) (by omega)
  have ln : (negL (remL (derL xs) 20 xs)).length = (remL (derL xs) 20 xs).length := List.length_map ..
  obtain ⟨c, s, e1, ⟨t, e2⟩, e3, e4, e5⟩ := chS_of hI 9 (negL (remL (derL xs) 20 xs)) (derL xs) [xs] ⟨lh_rem ht td (by omega) (by omega), trivial⟩ td (tr_neg t1) (by omega) (by omega) (by omega) (by omega)
    (fun l hl => by rw [List.mem_singleton.mp hl]; omega) (by simp) (fun z => by rw [z] at dl; omega)
  have es : chS 10 [derL xs, xs] = [] :: c :: s := by
    rw [← e1]
    show (if (derL xs).isEmpty then [derL xs, xs] else chS 9 (negL (remL (derL xs) 20 xs) :: derL xs :: [xs])) = chS 9 (negL (remL (derL xs) 20 xs) :: derL xs :: [xs])
    rw [hne]
    simp only [Bool.false_eq_true, if_false]
  have ec : sturmL xs = (c :: s).reverse := by
    unfold sturmL
    rw [es]
    rfl
  have ex : sturmL xs = xs :: derL xs :: t.reverse := by
    rw [ec, e2]
    simp
  refine ⟨t.reverse, ex, ?_, ?_⟩
  · rw [ec]
    cases s with
    | nil =>
      exfalso
      have q := congrArg List.length e2
      simp at q
    | cons y s' =>
      have hc := const_1 e4 e5
      have := chn_of s' y c [] e3.2 hc
      rw [List.reverse_cons]
      exact this
  · rw [List.length_reverse]
    -- the lengths fall
    have bd : ∀ (n : Nat) (b a : List Int) (r : List (List Int)), (chS n (b :: a :: r)).length ≤ n + 2 + r.length := by
      intro n
      induction n with
      | zero => intro b a r; show r.length + 1 + 1 ≤ _; omega
      | succ n ih =>
        intro b a r
        show (if b.isEmpty then b :: a :: r else chS n ((remL b 20 a).map (fun x => -x) :: b :: a :: r)).length ≤ n + 1 + 2 + r.length
        split
        · show r.length + 1 + 1 ≤ _; omega
        · have := ih ((remL b 20 a).map fun x => -x) b (a :: r)
          rw [List.length_cons] at this
          omega
    have := bd 10 (derL xs) xs []
    rw [es] at this
    have q : (c :: s).length = (t ++ [derL xs, xs]).length := congrArg List.length e2
    rw [List.length_append] at q
    have q : s.length + 1 = t.length + 2 := q
    have this : s.length + 1 + 1 ≤ 10 + 2 + 0 := this
    omega
/-- no fraction is a root -/
theorem irr_nz {xs : List Int} (hI : Irr xs) (ht : Tr xs) (l3 : 3 ≤ xs.length) (l8 : xs.length ≤ 8) (x : Rat) : ev xs x ≠ 0 := fun e => by
  have xd : x = ((x.num : Int) : Rat) / ((x.den : Int) : Rat) := (by rw [← Rat.divInt_eq_div]; exact (Rat.num_divInt_den x).symm)
  have d0 : (0 : Rat) < ((x.den : Int) : Rat) := Rat.intCast_pos.mpr (by have := x.den_pos; omega)
  have tb : Tr [-x.num, (x.den : Int)] := fun n hn => by
    have : n = 1 := by simpa using hn.symm
    subst this
    show (x.den : Int) ≠ 0
    have := x.den_pos
    omega
  have eb : ∀ y : Rat, ev [-x.num, (x.den : Int)] y = -((x.num : Int) : Rat) + y * ((x.den : Int) : Rat) := fun y => by
    simp only [ev]
    rw [Rat.intCast_neg]
    grind
  have e0 : ev [-x.num, (x.den : Int)] x = 0 := by
    rw [eb]
    have : x * ((x.den : Int) : Rat) = ((x.num : Int) : Rat) := by
      have q : ((x.num : Int) : Rat) / ((x.den : Int) : Rat) * ((x.den : Int) : Rat) = ((x.num : Int) : Rat) := Rat.div_mul_cancel (by grind)
      rw [← xd] at q
      exact q
    rw [this]
    grind
  obtain ⟨t1, ⟨al, be, q, a0, b0, e2⟩, t3⟩ := rem_of (a := xs) ht tb (by show 1 ≤ 2; decide) (by show xs.length + 1 ≤ 22; omega)
  have h := e2 x
  rw [e, e0] at h
  have bz : (be : Rat) ≠ 0 := by
    have : (0 : Rat) < (be : Rat) := Rat.intCast_pos.mpr b0
    grind
  have hr : ev (remL [-x.num, (x.den : Int)] 20 xs) x = 0 := by
    have : (be : Rat) * ev (remL [-x.num, (x.den : Int)] 20 xs) x = 0 := by grind
    rcases Rat.mul_eq_zero.mp this with z | z
    · exact absurd z bz
    · exact z
  have rn : remL [-x.num, (x.den : Int)] 20 xs = [] := by
    have t3 : (remL [-x.num, (x.den : Int)] 20 xs).length < 2 := t3
    rcases h1 : remL [-x.num, (x.den : Int)] 20 xs with _ | ⟨a, _ | ⟨b, l⟩⟩
    · rfl
    · exfalso
      rw [h1] at hr t1
      have : (a : Rat) = 0 := by
        simp only [ev] at hr
        grind
      exact t1 0 rfl (Rat.intCast_eq_zero_iff.mp this)
    · rw [h1] at t3
      have t3 : l.length + 1 + 1 < 2 := t3
      omega
  refine hI al [-x.num, (x.den : Int)] q a0 tb (by show 2 ≤ 2; decide) (by show 2 < xs.length; omega) fun y => ?_
  have := e2 y
  rw [rn] at this
  simp only [ev] at this
  rw [this]
  simp only [ev]
  grind
/-! ### one change of sign above 0 -/
inductive One : List Int → Prop
  | up {l : List Int} : (∀ a ∈ l, 0 ≤ a) → One l
  | dn {a : Int} {l : List Int} : a ≤ 0 → One l → One (a :: l)
theorem ev_nn {x : Rat} (hx : 0 ≤ x) : ∀ l : List Int, (∀ a ∈ l, 0 ≤ a) → 0 ≤ ev l x
  | [], _ => by simp [ev]
  | a :: l, h => by
    have := Rat.mul_nonneg hx (ev_nn hx l fun b hb => h b (List.mem_cons_of_mem _ hb))
    have a0 : (0 : Rat) ≤ (a : Rat) := Rat.intCast_nonneg.mpr (h a (List.mem_cons_self ..))
    simp only [ev]
    grind
theorem ev_up {x y : Rat} (hx : 0 ≤ x) (hxy : x ≤ y) : ∀ l : List Int, (∀ a ∈ l, 0 ≤ a) → ev l x ≤ ev l y
  | [], _ => by simp [ev]
  | a :: l, h => by
    have hl : ∀ b ∈ l, 0 ≤ b := fun b hb => h b (List.mem_cons_of_mem _ hb)
    have i1 := ev_up hx hxy l hl
    have i2 := ev_nn hx l hl
    have m1 := Rat.mul_nonneg (show 0 ≤ y by grind) (show 0 ≤ ev l y - ev l x by grind)
    have m2 := Rat.mul_nonneg (show 0 ≤ y - x by grind) i2
    simp only [ev]
    grind
theorem One.mono {l : List Int} (h : One l) : ∀ {x y : Rat}, 0 ≤ x → x ≤ y → 0 < ev l x → ev l x ≤ ev l y := by
  induction h with
  | up h => exact fun hx hxy _ => ev_up hx hxy _ h
  | @dn a l a0 _ ih =>
    intro x y hx hxy p
    have a0 : (a : Rat) ≤ 0 := Rat.intCast_nonpos.mpr a0
    simp only [ev] at p ⊢
    have q : 0 < x * ev l x := by grind
    have x0 : 0 < x := by
      rcases Classical.em (x = 0) with z | z
      · rw [z] at q; exfalso; grind
      · grind
    have e0 : 0 < ev l x := by
      rcases (Rat.le_total : ev l x ≤ 0 ∨ 0 ≤ ev l x) with z | z
      · have := Rat.mul_nonneg hx (show 0 ≤ -ev l x by grind)
        exfalso; grind
      · rcases Classical.em (ev l x = 0) with w | w
        · rw [w] at q; exfalso; grind
        · grind
    have i := ih hx hxy e0
    have m1 := Rat.mul_nonneg (show 0 ≤ y by grind) (show 0 ≤ ev l y - ev l x by grind)
    have m2 := Rat.mul_nonneg (show 0 ≤ y - x by grind) (show 0 ≤ ev l x by grind)
    grind
/-- what is needed of a drawn equation -/
structure Dq (xs : List Int) : Prop where
  irr : Irr xs
  tr : Tr xs
  l3 : 3 ≤ xs.length
  l6 : xs.length ≤ 6
  one : One xs
  c0 : cf xs 0 < 0
  last : 1 ≤ xs.getLastD 0
  sm : ∀ x ∈ xs, -1000 ≤ x ∧ x ≤ 1000
theorem ratdiv_nn {t b : Int} (ht : 0 ≤ t) (hb : 0 < b) : (0 : Rat) ≤ (t : Rat) / (b : Rat) := by
  have b0 : (0 : Rat) < (b : Rat) := Rat.intCast_pos.mpr hb
  have t0 : (0 : Rat) ≤ (t : Rat) := Rat.intCast_nonneg.mpr ht
  have e : (t : Rat) / (b : Rat) * (b : Rat) = (t : Rat) := Rat.div_mul_cancel (by grind)
  rcases (Rat.le_total : (t : Rat) / (b : Rat) ≤ 0 ∨ 0 ≤ (t : Rat) / (b : Rat)) with z | z
  · have := Rat.mul_nonneg (show 0 ≤ -((t : Rat) / (b : Rat)) by grind) (show 0 ≤ (b : Rat) by grind)
    rcases Classical.em ((t : Rat) / (b : Rat) = 0) with w | w
    · grind
    · exfalso
      have := Rat.mul_pos (show 0 < -((t : Rat) / (b : Rat)) by grind) b0
      grind
  · exact z
theorem ratdiv_le {t t' b : Int} (h : t ≤ t') (hb : 0 < b) : (t : Rat) / (b : Rat) ≤ (t' : Rat) / (b : Rat) := by
  have b0 : (0 : Rat) < (b : Rat) := Rat.intCast_pos.mpr hb
  have e : (t : Rat) / (b : Rat) * (b : Rat) = (t : Rat) := Rat.div_mul_cancel (by grind)
  have e' : (t' : Rat) / (b : Rat) * (b : Rat) = (t' : Rat) := Rat.div_mul_cancel (by grind)
  have le : (t : Rat) ≤ (t' : Rat) := Rat.intCast_le_intCast.mpr h
  rcases (Rat.le_total : (t : Rat) / (b : Rat) ≤ (t' : Rat) / (b : Rat) ∨ (t' : Rat) / (b : Rat) ≤ (t : Rat) / (b : Rat)) with z | z
  · exact z
  · rcases Classical.em ((t : Rat) / (b : Rat) = (t' : Rat) / (b : Rat)) with w | w
    · grind
    · exfalso
      have := Rat.mul_pos (show 0 < (t : Rat) / (b : Rat) - (t' : Rat) / (b : Rat) by grind) b0
      grind
section
variable {xs : List Int}
theorem Dq.nz (h : Dq xs) (x : Rat) : ev xs x ≠ 0 := irr_nz h.irr h.tr h.l3 (by have := h.l6; omega) x
theorem Dq.val_nz (h : Dq xs) (t : Int) {b : Int} (hb : 0 < b) : valL xs t b ≠ 0 := fun e => h.nz _ ((val_sg hb t xs).2.1.mp e)
theorem Dq.ev0 (h : Dq xs) : ev xs 0 < 0 := by
  have c := h.c0
  cases xs with
  | nil => have := h.l3; simp at this
  | cons a l =>
    have c : a < 0 := c
    have : (a : Rat) < 0 := Rat.intCast_neg_iff.mpr c
    simp only [ev]
    grind
/-- where the sign is above 0 it stays so -/
theorem Dq.val_mono (h : Dq xs) {t t' b b' : Int} (ht : 0 ≤ t) (hb : 0 < b) (hb' : 0 < b') (le : (t : Rat) / (b : Rat) ≤ (t' : Rat) / (b' : Rat)) (p : 0 < valL xs t b) : 0 < valL xs t' b' := by
  have p := (val_sg hb t xs).1.mp p
  have := h.one.mono (ratdiv_nn ht hb) le p
  exact (val_sg hb' t' xs).1.mpr (by grind)
/-- the changes at places from 0 on -/
theorem Dq.chg (h : Dq xs) {t b : Int} (ht : 0 ≤ t) (hb : 0 < b) : chgL (sturmL xs) t b = chgL (sturmL xs) 0 1 - if 0 < valL xs t b then 1 else 0 := by
  obtain ⟨l, e, hc, _⟩ := sturm_chn h.irr h.tr h.l3 (by have := h.l6; omega)
  rw [e] at hc ⊢
  rw [chg_VA hb, chg_VA (show (0 : Int) < 1 by decide)]
  have z0 : ((0 : Int) : Rat) / ((1 : Int) : Rat) = 0 := by
    have : ((0 : Int) : Rat) = 0 := rfl
    rw [this]
    grind
  rw [z0]
  have sv := val_sg hb t xs
  have q0 := ratdiv_nn ht hb
  generalize (t : Rat) / (b : Rat) = q at *
  have e0 := h.ev0
  by_cases qz : q = 0
  · rw [qz] at sv ⊢
    rw [if_neg (fun z => by have := sv.1.mp z; grind)]
    omega
  · obtain ⟨_, st⟩ := St.sturm h.nz hc (ev_der xs) (a := 0) (b := q) (by grind)
    have st := st fun x y hx hxy _ p => by
      have := h.one.mono (x := x) (y := y) hx (by grind) p
      grind
    by_cases p : 0 < valL xs t b
    · rw [if_pos p]
      have := st false true (.inr ⟨rfl, e0⟩) (.inl ⟨rfl, sv.1.mp p⟩)
      rw [this, if_neg (by decide)]
      omega
    · rw [if_neg p]
      have n : ev xs q < 0 := by
        have n1 := h.nz q
        have n2 : ¬ 0 < ev xs q := fun z => p (sv.1.mpr z)
        grind
      have := st false false (.inr ⟨rfl, e0⟩) (.inr ⟨rfl, n⟩)
      rw [this, if_pos rfl]
      omega
/-- the real roots below 0 -/
theorem Dq.low (h : Dq xs) {R : Int} (hR : 0 < R) : chgL (sturmL xs) 0 1 ≤ chgL (sturmL xs) (-R) 1 ∧ chgL (sturmL xs) (-R) 1 ≤ 20 ∧ 0 ≤ chgL (sturmL xs) 0 1 := by
  obtain ⟨l, e, hc, hl⟩ := sturm_chn h.irr h.tr h.l3 (by have := h.l6; omega)
  rw [e] at hc ⊢
  rw [chg_VA (show (0 : Int) < 1 by decide), chg_VA (show (0 : Int) < 1 by decide)]
  have z0 : ((0 : Int) : Rat) / ((1 : Int) : Rat) = 0 := by
    have : ((0 : Int) : Rat) = 0 := rfl
    rw [this]
    grind
  have lt : ((-R : Int) : Rat) / ((1 : Int) : Rat) < 0 := by
    have r0 : (0 : Rat) < (R : Rat) := Rat.intCast_pos.mpr hR
    have : ((1 : Int) : Rat) = 1 := rfl
    rw [this, Rat.intCast_neg]
    grind
  rw [z0]
  obtain ⟨st, _⟩ := St.sturm h.nz hc (ev_der xs) lt
  refine ⟨by omega, ?_, by omega⟩
  have adl : ∀ l : List Bool, St.ad l ≤ l.length := by
    intro l
    induction l with
    | nil => exact Nat.le_refl _
    | cons a l ih =>
      cases l with
      | nil => show 0 ≤ 1; omega
      | cons b l =>
        show (if a = b then 0 else 1) + St.ad (b :: l) ≤ _
        have : (if a = b then 0 else 1) ≤ 1 := by split <;> omega
        rw [List.length_cons]
        omega
  have sgl : ∀ l : List Rat, (St.sgs l).length ≤ l.length := by
    intro l
    induction l with
    | nil => exact Nat.le_refl _
    | cons a l ih =>
      show (St.sg1 a ++ St.sgs l).length ≤ _
      rw [List.length_append, List.length_cons]
      have : (St.sg1 a).length ≤ 1 := by unfold St.sg1; split <;> simp
      omega
  have : VA (xs :: derL xs :: l) (((-R : Int) : Rat) / ((1 : Int) : Rat)) ≤ l.length + 2 := by
    unfold VA
    refine Nat.le_trans (adl _) (Nat.le_trans (sgl _) ?_)
    rw [List.length_map]
    simp
  omega
end
end Xq
/-! Nothing grows too great in the chain. -/
namespace Xq
open PySem PySem.Spec PyProof.Rows L2
open St (ev dv Ab VA)
theorem sh_int9 (l : List Int) : SeqAt.shaped (dT l) = true := by
  have e1 : PyData.canLayAll0 (l.map PyData.int) = true := by
    induction l with
    | nil => rfl
    | cons b r ih =>
      show (PyData.canLay0 (.int b) && PyData.canLayAll0 (r.map PyData.int)) = true
      rw [ih]
      first | done | rfl
  have e2 : ∀ l : List Int, PyData.depthAll (l.map PyData.int) = 0 := by
    intro l
    induction l with
    | nil => rfl
    | cons b r ih =>
      simp only [List.map_cons, PyData.depthAll, PyData.depth, ih]
      rfl
  unfold SeqAt.shaped dT
  rw [Bool.and_eq_true]
  refine ⟨e1, decide_eq_true ?_⟩
  simp only [PyData.depth, e2]
  decide
/-- all places are so small -/
def Bd (n : Nat) (l : List Int) : Prop := ∀ k, Sm n (cf l k)
theorem Bd.mono {n m : Nat} {l : List Int} (h : Bd n l) (hm : n ≤ m) : Bd m l := fun k => sm_le (h k) hm
theorem bd_of {n : Nat} {l : List Int} (h : ∀ x ∈ l, Sm n x) : Bd n l := fun k => by
  show Sm n (l.getD k 0)
  rw [List.getD_eq_getElem?_getD]
  cases e : l[k]? with
  | none => exact Nat.two_pow_pos n
  | some z => exact h z (List.mem_of_getElem? e)
theorem Bd.mem {n : Nat} {l : List Int} (h : Bd n l) : ∀ x ∈ l, Sm n x := fun x hx => by
  obtain ⟨k, hk, e⟩ := List.getElem_of_mem hx
  have := h k
  have q : cf l k = x := by
    show l.getD k 0 = x
    rw [List.getD_eq_getElem?_getD, List.getElem?_eq_getElem hk, e]
    rfl
  rw [q] at this
  exact this
theorem Bd.smB {n m : Nat} {l : List Int} (h : Bd n l) (hm : n ≤ m) : smB m l = true := List.all_eq_true.mpr fun x hx => decide_eq_true (sm_le (h.mem x hx) hm)
theorem Bd.last {n : Nat} {l : List Int} (h : Bd n l) : Sm n (l.getLastD 0) := by
  cases e : l.length with
  | zero =>
    have : l = [] := List.eq_nil_of_length_eq_zero e
    rw [this]
    exact Nat.two_pow_pos n
  | succ m => rw [last_cf e]; exact h m
theorem bd_nxt {n p : Nat} {ys xs : List Int} (hx : Bd n xs) (hy : Bd p ys) : Bd (n + p + 1) (nxt ys xs) := fun k => by
  have lx := hx.last
  have ly := hy.last
  have sa : Sm p (abM ys) := by
    unfold abM
    split
    · exact sm_neg ly
    · exact ly
  have sg : Sm n (sgM ys xs) := by
    unfold sgM
    split
    · exact lx
    · exact sm_neg lx
  show Sm _ (cf (combL (abM ys) xs (sgM ys xs) ys (xs.length - ys.length)) k)
  rw [cf_comb]
  refine sm_sub (a := n + p) (sm_le (sm_mul sa (hx k)) (by omega)) ?_
  split
  · exact sm_mul sg (hy _)
  · rw [Int.mul_zero]
    exact Nat.two_pow_pos _
theorem gcd_lt9 {n : Nat} {l : List Int} (h : Bd n l) (hn : n ≤ 4000) : gcdL l < 2 ^ 9000 := by
  by_cases e : ∃ x ∈ l, x ≠ 0
  · obtain ⟨x, hx, x0⟩ := e
    have d := (gcd_all _ l).mp (Nat.dvd_refl _) x hx
    have := Nat.le_of_dvd (by omega) d
    exact Nat.lt_of_le_of_lt this (Nat.lt_of_lt_of_le (h.mem x hx) (Nat.pow_le_pow_right (by decide) (by omega)))
  · have : 0 ∣ gcdL l := (gcd_all 0 l).mpr fun x hx => by
      have : x = 0 := Classical.byContradiction fun z => e ⟨x, hx, z⟩
      rw [this]
      exact Nat.dvd_refl _
    rw [Nat.eq_zero_of_zero_dvd this]
    exact Nat.two_pow_pos _
theorem okR_of {b : List Int} {p : Nat} (hb : Bd p b) (b1 : 1 ≤ b.length) : ∀ (m n : Nat) (r : List Int), Bd n r → r.length + 1 ≤ m + b.length → r.length ≤ 10 → n + (r.length + 1 - b.length) * (p + 1) ≤ 4000 →
    okR b m r = true ∧ Bd (n + (r.length + 1 - b.length) * (p + 1)) (remS b m r)
  | 0, n, r, hr, hm, _, hn => by
    have n4 : n ≤ 4000 := Nat.le_trans (Nat.le_add_right ..) hn
    refine ⟨?_, hr.mono (Nat.le_add_right ..)⟩
    unfold okR
    rw [decide_eq_true (show r.length < b.length by omega), decide_eq_true (gcd_lt9 hr n4)]
    rfl
  | m + 1, n, r, hr, hm, l10, hn => by
    have n4 : n ≤ 4000 := Nat.le_trans (Nat.le_add_right ..) hn
    unfold okR remS
    by_cases c : r.length < b.length
    · rw [if_pos c, decide_eq_true c, decide_eq_true (gcd_lt9 hr n4)]
      exact ⟨rfl, hr.mono (Nat.le_add_right ..)⟩
    · rw [if_neg c, decide_eq_false c]
      have l := nxt_len (ys := b) (xs := r) b1 (by omega)
      have key : n + p + 1 + ((nxt b r).length + 1 - b.length) * (p + 1) ≤ n + (r.length + 1 - b.length) * (p + 1) := by
        have h1 : (nxt b r).length + 1 - b.length + 1 ≤ r.length + 1 - b.length := by omega
        have h2 := Nat.mul_le_mul_right (p + 1) h1
        rw [Nat.add_mul, Nat.one_mul] at h2
        omega
      obtain ⟨i1, i2⟩ := okR_of hb b1 m (n + p + 1) (nxt b r) (bd_nxt hr hb) (by omega) (by omega) (by omega)
      rw [i1, hr.smB n4, decide_eq_true (show b.length ≤ r.length by omega), decide_eq_true (show r.length ≤ 1000 by omega)]
      exact ⟨rfl, i2.mono key⟩
theorem bd_prim {n : Nat} {l : List Int} (h : Bd n l) : Bd n (primL l) := fun k => by
  obtain ⟨_, g, g0, e⟩ := prim_of l
  have := h k
  rw [e k] at this
  have q : (cf (primL l) k).natAbs ≤ (g * cf (primL l) k).natAbs := by
    rw [Int.natAbs_mul]
    exact Nat.le_mul_of_pos_left _ (by omega)
  exact Nat.lt_of_le_of_lt q this
theorem bd_neg {n : Nat} {l : List Int} (h : Bd n l) : Bd n (negL l) := bd_of fun x hx => by
  obtain ⟨y, hy, rfl⟩ := List.mem_map.mp hx
  exact sm_neg (h.mem y hy)
/-- the sizes along the chain, by lengths -/
def okSz : Nat → Nat → Nat → Nat → Nat → Bool
  | 0, _, _, _, _ => false
  | f + 1, la, lb, na, nb => decide (nb ≤ 4000) && (decide (lb = 0) || (decide (na + (la + 1 - lb) * (nb + 1) ≤ 4000) && (List.range lb).all fun lr => okSz f lb lr nb (na + (la + 1 - lb) * (nb + 1))))
theorem okC_of : ∀ (n f : Nat) (b a : List Int) (r : List (List Int)) (na nb : Nat), okSz f a.length b.length na nb = true → Tr a → Tr b → Bd na a → Bd nb b → b.length < a.length → a.length ≤ 8 → b.length ≤ n → r.length + n ≤ 50 →
    okC n (b :: a :: r) = true ∧ ∀ l ∈ (chS n (b :: a :: r)).tail, l ∈ a :: r ∨ (Bd 4000 l ∧ l.length ≤ 8 ∧ 1 ≤ l.length)
  | n, 0, b, a, r, na, nb, h, _, _, _, _, _, _, _, _ => by cases h
  | n, f + 1, b, a, r, na, nb, h, ta, tb, ba, bb, lt, l10, ln, rn => by
    unfold okSz at h
    simp only [Bool.and_eq_true, Bool.or_eq_true, decide_eq_true_eq] at h
    obtain ⟨h1, h2⟩ := h
    have e1 := sh_int9 b
    have e2 : (PyData.eqv (dT b) (.tuple []) == b.isEmpty) = true := by
      cases b with
      | nil => rfl
      | cons x l => rfl
    by_cases e : b = []
    · subst e
      cases n with
      | zero =>
        refine ⟨?_, fun l hl => .inl hl⟩
        show (SeqAt.shaped (dT []) && (PyData.eqv (dT []) (.tuple []) == true) && true) = true
        rfl
      | succ n =>
        refine ⟨?_, fun l hl => .inl hl⟩
        show (SeqAt.shaped (dT []) && (PyData.eqv (dT []) (.tuple []) == true) && (true || _)) = true
        rfl
    · have b1 : 1 ≤ b.length := by
        cases b with
        | nil => exact absurd rfl e
        | cons z l => simp
      have hne : b.isEmpty = false := by
        cases b with
        | nil => exact absurd rfl e
        | cons z l => rfl
      rcases h2 with h2 | ⟨h2, h3⟩
      · omega
      cases n with
      | zero => omega
      | succ n =>
        obtain ⟨o1, o2⟩ := okR_of bb b1 20 na a ba (by omega) (by omega) h2
        obtain ⟨t1, _, t3⟩ := rem_of ta tb b1 (by omega)
        have lnn : (negL (remL b 20 a)).length = (remL b 20 a).length := List.length_map ..
        have hz := List.all_eq_true.mp h3 (remL b 20 a).length (List.mem_range.mpr t3)
        obtain ⟨i1, i2⟩ := okC_of n f (negL (remL b 20 a)) b (a :: r) nb (na + (a.length + 1 - b.length) * (nb + 1)) (by rw [lnn]; exact hz) tb (tr_neg t1) bb (bd_neg (bd_prim o2)) (by omega) (by omega) (by omega) (by rw [List.length_cons]; omega)
        constructor
        · show (SeqAt.shaped (dT b) && (PyData.eqv (dT b) (.tuple []) == b.isEmpty) && (b.isEmpty || (decide (b.length ≤ 1000) && smB 4000 b && okR b 20 a && decide ((remL b 20 a).length ≤ 1000) && decide (r.length ≤ 100) && okC n (negL (remL b 20 a) :: b :: a :: r)))) = true
          rw [e1, e2, hne, o1, i1, bb.smB h1, decide_eq_true (show b.length ≤ 1000 by omega), decide_eq_true (show (remL b 20 a).length ≤ 1000 by omega), decide_eq_true (show r.length ≤ 100 by omega)]
          rfl
        · intro l hl
          have q : chS (n + 1) (b :: a :: r) = chS n (negL (remL b 20 a) :: b :: a :: r) := by
            show (if b.isEmpty then b :: a :: r else chS n (negL (remL b 20 a) :: b :: a :: r)) = _
            rw [hne]
            simp only [Bool.false_eq_true, if_false]
          rw [q] at hl
          rcases i2 l hl with z | z
          · rcases List.mem_cons.mp z with rfl | z
            · exact .inr ⟨bb.mono h1, by omega, b1⟩
            · exact .inl z
          · exact .inr z
theorem sizes : okSz 7 6 5 10 13 = true ∧ okSz 7 5 4 10 13 = true ∧ okSz 7 4 3 10 13 = true ∧ okSz 7 3 2 10 13 = true := by decide +kernel
section
variable {xs : List Int}
theorem Dq.bd (h : Dq xs) : Bd 10 xs := bd_of fun x hx => show x.natAbs < 2 ^ 10 by have := h.sm x hx; omega
theorem Dq.bdd (h : Dq xs) : Bd 13 (derL xs) := fun k => by
  rw [cf_der]
  by_cases q : 1 + k < xs.length
  · have s1 : Sm 3 (((1 + k : Nat) : Int)) := show Int.natAbs _ < 2 ^ 3 by have := h.l6; omega
    exact sm_mul s1 (h.bd (1 + k))
  · rw [cf_out (xs := xs) (by omega), Int.mul_zero]
    exact Nat.two_pow_pos _
theorem Dq.okS (h : Dq xs) : okS xs = true ∧ ∀ l ∈ sturmL xs, Bd 4000 l ∧ l.length ≤ 8 ∧ 1 ≤ l.length := by
  have l3 := h.l3
  have l6 := h.l6
  have dl := der_len xs
  have sz : okSz 7 xs.length (derL xs).length 10 13 = true := by
    rw [dl]
    rcases (show xs.length = 3 ∨ xs.length = 4 ∨ xs.length = 5 ∨ xs.length = 6 by omega) with e | e | e | e
    · rw [e]; exact sizes.2.2.2
    · rw [e]; exact sizes.2.2.1
    · rw [e]; exact sizes.2.1
    · rw [e]; exact sizes.1
  obtain ⟨o, m⟩ := okC_of 10 7 (derL xs) xs [] 10 13 sz h.tr (tr_der h.tr) h.bd h.bdd (by omega) (by omega) (by omega) (by show 0 + 10 ≤ 50; decide)
  refine ⟨?_, fun l hl => ?_⟩
  · unfold Xq.okS
    rw [o, decide_eq_true (show 2 ≤ xs.length by omega), decide_eq_true (show xs.length ≤ 1000 by omega)]
    rfl
  · unfold sturmL at hl
    rcases m l (List.mem_reverse.mp hl) with z | z
    · rw [List.mem_singleton.mp z]
      exact ⟨h.bd.mono (by decide), by omega, by omega⟩
    · exact z
end
end Xq
/-! A drawn equation's shape: its rank, its floors; Shape.of tells it. -/
namespace Xq
open PySem PySem.Spec PyProof.Rows L2
open St (ev dv Ab VA)
/-- beyond 1 and the greatest term the value is above 0 -/
theorem cauchy {M : Rat} (hM : 0 ≤ M) : ∀ l : List Int, l ≠ [] → 1 ≤ l.getLastD 0 → (∀ a ∈ l, -M ≤ (a : Rat)) → 1 ≤ ev l (1 + M)
  | [], h, _, _ => absurd rfl h
  | [a], _, h, _ => by
    have : (1 : Rat) ≤ (a : Rat) := by
      have h : (1 : Int) ≤ a := h
      have := Rat.intCast_le_intCast.mpr h
      have e : ((1 : Int) : Rat) = 1 := rfl
      rw [e] at this
      exact this
    simp only [ev]
    grind
  | a :: b :: l, _, h, hm => by
    have ih := cauchy hM (b :: l) (by simp) h fun x hx => hm x (List.mem_cons_of_mem _ hx)
    have ha := hm a (List.mem_cons_self ..)
    have q := Rat.mul_nonneg (show 0 ≤ 1 + M by grind) (show 0 ≤ ev (b :: l) (1 + M) - 1 by grind)
    have e : ev (a :: b :: l) (1 + M) = (a : Rat) + (1 + M) * ev (b :: l) (1 + M) := rfl
    rw [e]
    grind
theorem absI_le9 (x : Int) : x ≤ absI x ∧ -x ≤ absI x ∧ 0 ≤ absI x := by
  unfold absI
  split <;> omega
theorem cf_mem {xs : List Int} {n : Nat} (h : n < xs.length) : cf xs n ∈ xs := by
  have : cf xs n = xs[n] := by
    show xs.getD n 0 = _
    rw [List.getD_eq_getElem?_getD, List.getElem?_eq_getElem h]
    rfl
  rw [this]
  exact List.getElem_mem h
section
variable {xs : List Int}
theorem Dq.reach (h : Dq xs) : 2 ≤ reachL xs ∧ reachL xs ≤ 1001 ∧ ∀ a ∈ xs, absI a ≤ reachL xs - 1 := by
  have l3 := h.l3
  have ne : xs ≠ [] := fun e => by rw [e] at l3; simp at l3
  have mm : mxL (xs.map absI) ∈ xs.map absI := mxL_mem (by simp [ne]) fun x hx => by
    obtain ⟨y, _, rfl⟩ := List.mem_map.mp hx
    exact (absI_le9 y).2.2
  have le : ∀ a ∈ xs, absI a ≤ mxL (xs.map absI) := fun a ha => mxL_le (List.mem_map.mpr ⟨a, ha, rfl⟩)
  obtain ⟨y, hy, e⟩ := List.mem_map.mp mm
  have sy := h.sm y hy
  have lastm : xs.getLastD 0 ∈ xs := by
    rw [last_cf (n := xs.length - 1) (by omega)]
    exact cf_mem (by omega)
  have := le _ lastm
  have := (absI_le9 (xs.getLastD 0)).1
  have := h.last
  unfold reachL
  refine ⟨by omega, ?_, fun a ha => by have := le a ha; omega⟩
  rw [← e]
  unfold absI
  split <;> omega
theorem Dq.valR (h : Dq xs) : 0 < valL xs (reachL xs) 1 := by
  obtain ⟨r2, _, rm⟩ := h.reach
  have l3 := h.l3
  have ne : xs ≠ [] := fun e => by rw [e] at l3; simp at l3
  refine (val_sg (show (0 : Int) < 1 by decide) (reachL xs) xs).1.mpr ?_
  have e : ((reachL xs : Int) : Rat) / ((1 : Int) : Rat) = 1 + ((reachL xs - 1 : Int) : Rat) := by
    have : ((1 : Int) : Rat) = 1 := rfl
    rw [Rat.intCast_sub, this]
    grind
  rw [e]
  have := cauchy (M := ((reachL xs - 1 : Int) : Rat)) (Rat.intCast_nonneg.mpr (by omega)) xs ne h.last fun a ha => by
    have := rm a ha
    have := (absI_le9 a).2.1
    rw [← Rat.intCast_neg]
    exact Rat.intCast_le_intCast.mpr (by omega)
  grind
/-- the rank: as many roots are below 0 -/
def rkD (xs : List Int) : Int := chgL (sturmL xs) (-(reachL xs)) 1 - chgL (sturmL xs) 0 1
theorem Dq.hd (h : Dq xs) : (sturmL xs).headD [] = xs := by
  obtain ⟨l, e, _⟩ := sturm_chn h.irr h.tr h.l3 (by have := h.l6; omega)
  rw [e]
  rfl
theorem Dq.rk (h : Dq xs) : 0 ≤ rkD xs ∧ rkD xs ≤ 20 := by
  have r := h.reach
  have := h.low (R := reachL xs) (by omega)
  unfold rkD
  omega
theorem Dq.up (h : Dq xs) {t b : Int} (ht : 0 ≤ t) (hb : 0 < b) : upL (sturmL xs) t b = rkD xs + if 0 < valL xs t b then 1 else 0 := by
  unfold upL rkD
  rw [h.hd, h.chg ht hb]
  omega
theorem Dq.okc (h : Dq xs) {t b : Int} (h1 : Sm 4000 t) (h2 : Sm 4000 b) : okChB (sturmL xs) t b = true := by
  obtain ⟨_, m⟩ := h.okS
  obtain ⟨l, e, _, hl⟩ := sturm_chn h.irr h.tr h.l3 (by have := h.l6; omega)
  unfold okChB
  rw [Bool.and_eq_true]
  refine ⟨decide_eq_true (by rw [e]; show l.length + 1 + 1 ≤ 100; omega), List.all_eq_true.mpr fun c hc => ?_⟩
  obtain ⟨a1, a2, a3⟩ := m c hc
  unfold okVB
  rw [decide_eq_true a3, decide_eq_true a2, a1.smB (Nat.le_refl _), show smI 4000 t = true from decide_eq_true h1, show smI 4000 b = true from decide_eq_true h2]
  rfl
theorem Dq.okv (h : Dq xs) {t b : Int} (h1 : Sm 4000 t) (h2 : Sm 4000 b) : okVB xs t b = true := by
  unfold okVB
  rw [decide_eq_true (show 1 ≤ xs.length by have := h.l3; omega), decide_eq_true (show xs.length ≤ 8 by have := h.l6; omega), h.bd.smB (show 10 ≤ 4000 by decide), show smI 4000 t = true from decide_eq_true h1, show smI 4000 b = true from decide_eq_true h2]
  rfl
theorem s4k {t : Int} (h : t.natAbs ≤ 2000) : Sm 4000 t := Nat.lt_of_lt_of_le (show t.natAbs < 2 ^ 11 by omega) (Nat.pow_le_pow_right (by decide) (by decide))
theorem Dq.okU (h : Dq xs) : okUB (sturmL xs) = true := by
  have r := h.reach
  obtain ⟨l, e, _, hl⟩ := sturm_chn h.irr h.tr h.l3 (by have := h.l6; omega)
  have o := h.okc (t := -(reachL xs)) (b := 1) (s4k (by omega)) (s4k (by decide))
  unfold okUB
  rw [h.hd, o, decide_eq_true (show 1 ≤ xs.length by have := h.l3; omega), decide_eq_true (show xs.length ≤ 1000 by have := h.l6; omega), e]
  rfl
/-- where the sign turns -/
theorem Dq.turn (h : Dq xs) : ∃ z, 0 ≤ z ∧ z < reachL xs ∧ valL xs z 1 < 0 ∧ 0 < valL xs (z + 1) 1 := by
  have r := h.reach
  have main : ∀ n : Nat, 0 < valL xs (n : Int) 1 → ∃ z, 0 ≤ z ∧ z < (n : Int) ∧ valL xs z 1 < 0 ∧ 0 < valL xs (z + 1) 1 := by
    intro n
    induction n with
    | zero =>
      intro p
      exfalso
      have q := (val_sg (show (0 : Int) < 1 by decide) ((0 : Nat) : Int) xs).1.mp p
      have e : (((0 : Nat) : Int) : Rat) / ((1 : Int) : Rat) = 0 := by
        have : (((0 : Nat) : Int) : Rat) = 0 := rfl
        rw [this]
        grind
      rw [e] at q
      have := h.ev0
      grind
    | succ n ih =>
      intro p
      by_cases q : 0 < valL xs (n : Int) 1
      · obtain ⟨z, a, b, c, d⟩ := ih q
        exact ⟨z, a, by omega, c, d⟩
      · have := h.val_nz (n : Int) (show (0 : Int) < 1 by decide)
        exact ⟨n, by omega, by omega, by omega, by
          have e : ((n + 1 : Nat) : Int) = (n : Int) + 1 := by omega
          rw [← e]
          exact p⟩
  have e : ((reachL xs).toNat : Int) = reachL xs := by omega
  have q := main (reachL xs).toNat (by rw [e]; exact h.valR)
  rw [e] at q
  exact q
theorem pw_pos9 (k : Nat) : 0 < pw k := by
  rw [pw_eq]
  exact two_pos k
theorem pw0' : pw 0 = 1 := by
  rw [pw_eq]
  rfl
theorem Dq.mo (h : Dq xs) {z : Int} (z0 : 0 ≤ z) (z1 : z < reachL xs) (lo : valL xs z 1 < 0) (hi : 0 < valL xs (z + 1) 1) : Mo xs true z where
  mono := fun k t t' h1 h2 h3 e => by
    have e : valL xs t' (pw k) < 0 := of_decide_eq_true e
    refine decide_eq_true ?_
    have t0 : 0 ≤ t := Int.le_trans (Int.mul_nonneg z0 (Int.le_of_lt (two_pos k))) h1
    have n := h.val_nz t (pw_pos9 k)
    rcases Int.lt_trichotomy (valL xs t (pw k)) 0 with q | q | q
    · exact q
    · exact absurd q n
    · have := h.val_mono t0 (pw_pos9 k) (pw_pos9 k) (ratdiv_le h2 (pw_pos9 k)) q
      omega
  nz := fun k t _ _ => h.val_nz t (pw_pos9 k)
  lo := by rw [pw0']; exact decide_eq_true lo
  hi := fun e => by
    rw [pw0'] at e
    have e : valL xs (z + 1) 1 < 0 := of_decide_eq_true e
    omega
  hom := fun k t => by
    unfold ng
    have p1 := pw_pos9 k
    have p2 := pw_pos9 (k + 1)
    have a := val_sg p1 t xs
    have b := val_sg p2 (2 * t) xs
    have e : ((2 * t : Int) : Rat) / ((pw (k + 1) : Int) : Rat) = (t : Rat) / ((pw k : Int) : Rat) := by
      have ep : pw (k + 1) = 2 * pw k := by
        rw [pw_eq, pw_eq, Int.pow_succ, Int.mul_comm]
      have q0 : ((pw k : Int) : Rat) ≠ 0 := by
        have : (0 : Rat) < ((pw k : Int) : Rat) := Rat.intCast_pos.mpr p1
        grind
      rw [ep, Rat.intCast_mul, Rat.intCast_mul]
      have : ((2 : Int) : Rat) = 2 := rfl
      rw [this]
      grind
    rw [e] at b
    by_cases q : valL xs t (pw k) < 0
    · rw [decide_eq_true q, decide_eq_true (b.2.2.mpr (a.2.2.mp q))]
    · rw [decide_eq_false q, decide_eq_false (fun w => q (a.2.2.mpr (b.2.2.mp w)))]
  l3 := h.l3
  l8 := by have := h.l6; omega
  sm := fun x hx => Nat.lt_of_lt_of_le (show x.natAbs < 2 ^ 10 by have := h.sm x hx; omega) (Nat.pow_le_pow_right (by decide) (by decide))
  z0 := z0
  z1 := by have := h.reach; omega
theorem Dq.str (h : Dq xs) : okStr xs (rkD xs) = true ∧ ∃ z, Mo xs true z ∧ strL xs (rkD xs) = (flS xs true z 64, 64) := by
  obtain ⟨z, z0, z1, lo, hi⟩ := h.turn
  have r := h.reach
  have M := h.mo z0 z1 lo hi
  have pos : ∀ t, 0 ≤ t → (0 < valL xs t 1 ↔ t > z) := fun t ht => by
    constructor
    · intro p
      rcases Int.lt_or_le z t with q | q
      · exact q
      · have := h.val_mono ht (show (0 : Int) < 1 by decide) (show (0 : Int) < 1 by decide) (ratdiv_le q (by decide)) p
        omega
    · intro q
      exact h.val_mono (t := z + 1) (by omega) (show (0 : Int) < 1 by decide) (show (0 : Int) < 1 by decide) (ratdiv_le (by omega) (by decide)) hi
  have L : Lo (sturmL xs) (rkD xs) z (reachL xs) := by
    refine ⟨fun t t0 t1 => h.okc (s4k (by omega)) (s4k (by decide)), fun t t0 t1 => ?_, ?_, z0, z1⟩
    · rw [h.up t0 (by decide)]
      by_cases p : 0 < valL xs t 1
      · rw [if_pos p]
        have := (pos t t0).mp p
        omega
      · rw [if_neg p]
        have w : ¬ t > z := fun q => p ((pos t t0).mpr q)
        omega
    · have c1 := h.chg z0 (show (0 : Int) < 1 by decide)
      have c2 := h.chg (t := z + 1) (by omega) (show (0 : Int) < 1 by decide)
      rw [if_neg (by omega)] at c1
      rw [if_pos hi] at c2
      omega
  obtain ⟨s1, s2⟩ := str_of M h.okS.1 h.okU L (by omega)
  exact ⟨s1, z, M, s2⟩
theorem Dq.okE (h : Dq xs) : okE xs = true := by
  have l3 := h.l3
  have l6 := h.l6
  have := h.last
  unfold Xq.okE
  rw [decide_eq_true (show 2 ≤ xs.length by omega), decide_eq_true l6, decide_eq_false (show ¬ xs.getLastD 0 = 0 by omega)]
  have : (xs.all fun x => decide (-1000 ≤ x) && decide (x ≤ 1000)) = true := List.all_eq_true.mpr fun x hx => by
    obtain ⟨a, b⟩ := h.sm x hx
    rw [decide_eq_true a, decide_eq_true b]
    rfl
  rw [this]
  rfl
end
end Xq
/-! What a prime divides but at the top has no factors. -/
namespace Xq
open PySem PySem.Spec PyProof.Rows L2
open St (ev dv Ab VA)
theorem least {P : Nat → Prop} (h : ∃ n, P n) : ∃ n, P n ∧ ∀ m, m < n → ¬ P m := by
  obtain ⟨n, hn⟩ := h
  induction n using Nat.strongRecOn with
  | ind n ih =>
    by_cases q : ∃ m, m < n ∧ P m
    · obtain ⟨m, hm, pm⟩ := q
      exact ih m hm pm
    · exact ⟨n, hn, fun m hm pm => q ⟨m, hm, pm⟩⟩
end Xq
/-! A drawn equation is told as a least one, whole. -/
namespace Xq
open PySem PySem.Spec PyProof.Rows L2
open St (ev dv Ab VA)
theorem dvS_all {n t : Int} : ∀ {k : Nat}, t ∈ dvS n k → 1 ≤ t ∧ t ≤ k ∧ t ∣ n
  | 0, h => nomatch h
  | k + 1, h => by
    have h : t ∈ dvS n k ++ (bif Nat.beq (n.natAbs % (1 + k)) 0 then [((1 + k : Nat) : Int)] else []) := h
    rcases List.mem_append.mp h with h | h
    · have := dvS_all h
      exact ⟨this.1, by omega, this.2.2⟩
    · by_cases q : n % ((1 + k : Nat) : Int) = 0
      · rw [dv_yes q, List.mem_singleton] at h
        subst h
        exact ⟨by omega, by omega, Int.dvd_of_emod_eq_zero q⟩
      · rw [dv_no q] at h
        cases h
theorem dvL_all {n t : Int} (h : n.natAbs ≤ 1000) (ht : t ∈ dvL n) : 1 ≤ t ∧ t ≤ n.natAbs ∧ t ∣ n := by
  rw [← dvL_eq h] at ht
  exact dvS_all ht
theorem fdiv_ex {t d : Int} (d0 : d ≠ 0) (h : d ∣ t) : t.fdiv d * d = t ∧ (t.fdiv d).natAbs ≤ t.natAbs := by
  have e := Int.fdiv_mul_cancel h
  refine ⟨e, ?_⟩
  have e2 := congrArg Int.natAbs e
  rw [Int.natAbs_mul] at e2
  have := Nat.le_mul_of_pos_right (t.fdiv d).natAbs (show 0 < d.natAbs by omega)
  omega
/-! ### divided -/
theorem nxD_len (ys rest : List Int) : (nxD ys rest).length = rest.length - 1 := by
  unfold nxD
  rw [List.length_dropLast, stG_len]
theorem cf_dropLast (l : List Int) (k : Nat) : cf l.dropLast k = if k + 1 < l.length then cf l k else 0 := by
  rw [List.dropLast_eq_take, cf_take]
  by_cases h : k < l.length - 1
  · rw [if_pos h, if_pos (by omega)]
  · rw [if_neg h, if_neg (by omega)]
theorem cf_nxD {ys rest : List Int} (y1 : 1 ≤ ys.length) (hl : ys.length ≤ rest.length) (hd : rest.getLastD 0 % ys.getLastD 0 = 0) (k : Nat) : cf (nxD ys rest) k = cf rest k - qD ys rest * (if rest.length - ys.length ≤ k then cf ys (k - (rest.length - ys.length)) else 0) := by
  unfold nxD
  rw [cf_dropLast, stG_len]
  obtain ⟨n, hn⟩ : ∃ n, ys.length = n + 1 := ⟨ys.length - 1, by omega⟩
  obtain ⟨m, hm⟩ : ∃ m, rest.length = m + 1 := ⟨rest.length - 1, by omega⟩
  by_cases h : k + 1 < rest.length
  · rw [if_pos h, cf_st _ _ _ _ _ (by omega)]
    by_cases q : rest.length - ys.length ≤ k
    · rw [if_pos ⟨q, by omega⟩, if_pos q]
    · rw [if_neg (fun z => q z.1), if_neg q]
      omega
  · rw [if_neg h]
    by_cases e : k = m
    · subst e
      rw [if_pos (by omega), show k - (rest.length - ys.length) = n by omega, ← last_cf hm, ← last_cf hn]
      unfold qD
      have := Int.ediv_mul_cancel (Int.dvd_of_emod_eq_zero hd)
      omega
    · rw [cf_out (xs := rest) (by omega), cf_out (xs := ys) (by omega)]
      split <;> omega
theorem ev_nxD {x : Rat} {ys rest : List Int} (y1 : 1 ≤ ys.length) (hl : ys.length ≤ rest.length) (hd : rest.getLastD 0 % ys.getLastD 0 = 0) : ev (nxD ys rest) x = ev rest x - (qD ys rest : Rat) * (x ^ (rest.length - ys.length) * ev ys x) := by
  have q : ev (nxD ys rest) x = ev (addP rest (smulP (-(qD ys rest)) (shP (rest.length - ys.length) ys))) x := ev_ext _ _ fun k => by
    rw [cf_nxD y1 hl hd, cf_add, cf_smul, cf_sh]
    grind
  rw [q, ev_add, ev_smul, ev_sh, Rat.intCast_neg]
  grind
theorem sm_qD {n : Nat} {ys rest : List Int} (h : Bd n rest) : Sm n (qD ys rest) := by
  unfold qD
  exact Nat.lt_of_le_of_lt (Int.natAbs_ediv_le_natAbs _ _) h.last
theorem bd_nxD {n p : Nat} {ys rest : List Int} (y1 : 1 ≤ ys.length) (hl : ys.length ≤ rest.length) (hd : rest.getLastD 0 % ys.getLastD 0 = 0) (hr : Bd n rest) (hy : Bd p ys) : Bd (n + p + 1) (nxD ys rest) := fun k => by
  rw [cf_nxD y1 hl hd]
  refine sm_sub (a := n + p) (sm_le (hr k) (by omega)) ?_
  split
  · exact sm_mul (sm_qD hr) (hy _)
  · rw [Int.mul_zero]
    exact Nat.two_pow_pos _
theorem any_nz {l : List Int} (h : (l.any fun x => x != 0) = false) : ∀ k, cf l k = 0 := fun k => by
  show l.getD k 0 = 0
  rw [List.getD_eq_getElem?_getD]
  cases e : l[k]? with
  | none => rfl
  | some z =>
    have := List.any_eq_false.mp h z (List.mem_of_getElem? e)
    simpa using this
/-- what has no factors is not divided -/
theorem divN_of {xs ys : List Int} {p : Nat} (hI : Irr xs) (ty : Tr ys) (y2 : 2 ≤ ys.length) (yx : ys.length < xs.length) (hy : Bd p ys) : ∀ (n nb : Nat) (rest : List Int), Bd nb rest → nb + rest.length * (p + 1) ≤ 4000 → rest.length + 1 ≤ n + ys.length → rest.length ≤ 8 →
    (∃ Q : List Int, ∀ x : Rat, ev xs x = ev Q x * ev ys x + ev rest x) → divN ys n rest = true := by
  have fin : ∀ rest : List Int, (∃ Q : List Int, ∀ x : Rat, ev xs x = ev Q x * ev ys x + ev rest x) → (rest.any fun x => x != 0) = true := fun rest ⟨Q, e⟩ => by
    cases q : rest.any fun x => x != 0 with
    | true => rfl
    | false =>
      exfalso
      refine hI 1 ys Q (by decide) ty y2 yx fun x => ?_
      have i1 : ((1 : Int) : Rat) = 1 := rfl
      rw [i1, e, ev_zero rest (any_nz q)]
      grind
  intro n
  induction n with
  | zero =>
    intro nb rest hr hs hl l8 hQ
    unfold divN
    rw [decide_eq_true (show rest.length < ys.length by omega), fin rest hQ]
    rfl
  | succ n ih =>
    intro nb rest hr hs hl l8 hQ
    have n4 : nb ≤ 4000 := Nat.le_trans (Nat.le_add_right ..) hs
    unfold divN
    by_cases c : rest.length < ys.length
    · rw [decide_eq_true c, fin rest hQ]
      rfl
    · rw [decide_eq_false c, decide_eq_true (show ys.length ≤ rest.length by omega), hr.smB n4, decide_eq_true (show rest.length ≤ 1000 by omega), show smI 4000 (qD ys rest) = true from decide_eq_true (sm_le (sm_qD hr) n4)]
      by_cases d : rest.getLastD 0 % ys.getLastD 0 = 0
      · have nl := nxD_len ys rest
        rw [decide_eq_true d, ih (nb + p + 1) (nxD ys rest) (bd_nxD (by omega) (by omega) d hr hy) ?_ (by omega) (by omega) ?_]
        · rfl
        · rw [nl]
          have : rest.length * (p + 1) = (rest.length - 1) * (p + 1) + (p + 1) := by
            have e : rest.length = (rest.length - 1) + 1 := by omega
            rw [e, Nat.add_mul, Nat.one_mul, Nat.add_sub_cancel]
          omega
        · obtain ⟨Q, e⟩ := hQ
          refine ⟨addP Q (smulP (qD ys rest) (shP (rest.length - ys.length) [1])), fun x => ?_⟩
          have i1 : ((1 : Int) : Rat) = 1 := rfl
          rw [ev_nxD (by omega) (by omega) d, ev_add, ev_smul, ev_sh, e x]
          simp only [ev]
          rw [i1]
          grind
      · rw [decide_eq_false d]
        rfl
theorem wid_le (c l s : Int) : (wid c l s).natAbs ≤ (inn c l s).toNat := by
  unfold wid
  rw [Int.natAbs_natCast]
  obtain ⟨h, _⟩ := PySem.Float64.isqrt_spec (inn c l s).toNat
  rcases Nat.eq_zero_or_pos (PySem.Float64.isqrt (inn c l s).toNat) with z | z
  · omega
  · exact Nat.le_trans (Nat.le_mul_of_pos_left _ z) h
theorem okWr_of {c l s : Int} (hc : Sm 40 c) (hl : Sm 30 l) (hs : Sm 18 s) (s0 : s ≠ 0) : okWr c l s = true ∧ ∀ m ∈ wrL c l s, Sm 66 m := by
  have i64 : Sm 62 (inn c l s) := by
    unfold inn
    refine sm_sub (a := 61) (sm_le (sm_mul hl hl) (by decide)) ?_
    exact sm_le (sm_mul (sm_mul (show Sm 3 4 by decide) hs) hc) (by decide)
  have i64' : (inn c l s).natAbs < 2 ^ 62 := i64
  have w62 : Sm 62 (wid c l s) := Nat.lt_of_le_of_lt (wid_le c l s) (by omega)
  constructor
  · have k : ∀ {n : Nat} {x : Int}, Sm n x → n ≤ 4000 → smI 4000 x = true := fun h1 h2 => decide_eq_true (sm_le h1 h2)
    unfold okWr
    rw [k hc (by decide), k hl (by decide), k hs (by decide), k w62 (by decide), decide_eq_false s0, decide_eq_true (show inn c l s < 2 ^ 64 by
      have : (2 : Int) ^ 64 = ((2 ^ 64 : Nat) : Int) := by decide
      have h2 : (2 : Nat) ^ 62 ≤ 2 ^ 64 := by decide
      omega)]
    simp
  · intro m hm
    have one : ∀ t : Int, Sm 65 t → ∀ m ∈ wr1 s t, Sm 66 m := fun t ht m hm => by
      unfold wr1 at hm
      split at hm
      · rename_i q
        rw [List.mem_singleton.mp hm]
        have := (fdiv_ex (show 2 * s ≠ 0 by omega) (Int.dvd_of_emod_eq_zero q)).2
        exact Nat.lt_of_le_of_lt this (Nat.lt_of_lt_of_le ht (Nat.pow_le_pow_right (by decide) (by decide)))
      · cases hm
    unfold wrL at hm
    split at hm
    · cases hm
    · split at hm
      · cases hm
      · rcases List.mem_append.mp hm with hm | hm
        · exact one _ (sm_le (sm_sub (a := 62) w62 (sm_le hl (by decide))) (by decide)) m hm
        · exact one _ (sm_le (sm_sub (a := 62) (sm_neg w62) (sm_le hl (by decide))) (by decide)) m hm
section
variable {xs : List Int}
theorem Dq.bd7 (h : Dq xs) (s7 : ∀ x ∈ xs, x.natAbs ≤ 100) : Bd 7 xs := bd_of fun x hx => show x.natAbs < 2 ^ 7 by have := s7 x hx; omega
theorem Dq.ends (h : Dq xs) : (xs.getD 0 0).natAbs ≤ 1000 ∧ xs.getD 0 0 ≠ 0 ∧ (xs.getLastD 0).natAbs ≤ 1000 := by
  have l3 := h.l3
  have c0 : xs.getD 0 0 < 0 := h.c0
  have m0 := h.sm _ (cf_mem (xs := xs) (n := 0) (by omega))
  have m0 : -1000 ≤ xs.getD 0 0 ∧ xs.getD 0 0 ≤ 1000 := m0
  have m1 := h.sm _ (cf_mem (xs := xs) (n := xs.length - 1) (by omega))
  rw [← last_cf (n := xs.length - 1) (by omega)] at m1
  exact ⟨by omega, by omega, by omega⟩
theorem Dq.lin (h : Dq xs) : okLin xs = true ∧ okLinG xs = true ∧ linL xs = none := by
  have l3 := h.l3
  have l6 := h.l6
  obtain ⟨a1, c0, a2⟩ := h.ends
  have ov : ∀ t ∈ dvL (xs.getD 0 0), ∀ b ∈ dvL (xs.getLastD 0), okVB xs t b = true ∧ okVB xs (-t) b = true ∧ valL xs t b ≠ 0 ∧ valL xs (-t) b ≠ 0 := fun t ht b hb => by
    obtain ⟨t1, t2, _⟩ := dvL_all a1 ht
    obtain ⟨b1, b2, _⟩ := dvL_all a2 hb
    exact ⟨h.okv (s4k (by omega)) (s4k (by omega)), h.okv (s4k (by omega)) (s4k (by omega)), h.val_nz _ (by omega), h.val_nz _ (by omega)⟩
  refine ⟨?_, ?_, ?_⟩
  · unfold okLin
    rw [decide_eq_true (show 2 ≤ xs.length by omega), decide_eq_true (show xs.length ≤ 1000 by omega), decide_eq_true a1, decide_eq_true a2, decide_eq_false c0]
    simp only [Bool.true_and, Bool.not_false]
    refine List.all_eq_true.mpr fun t ht => List.all_eq_true.mpr fun b hb => ?_
    obtain ⟨v1, v2, v3, v4⟩ := ov t ht b hb
    rw [v1, v2, decide_eq_false v3, decide_eq_false v4]
    simp
  · unfold okLinG
    rw [decide_eq_true (show 2 ≤ xs.length by omega), decide_eq_true (show xs.length ≤ 1000 by omega), decide_eq_true a1, decide_eq_true a2]
    simp only [Bool.true_and]
    refine List.all_eq_true.mpr fun t ht => List.all_eq_true.mpr fun b hb => ?_
    obtain ⟨v1, v2, v3, v4⟩ := ov t ht b hb
    rw [v1, v2]
    simp
  · unfold linL
    rw [if_neg c0]
    refine List.findSome?_eq_none_iff.mpr fun t ht => ?_
    unfold linF
    refine List.findSome?_eq_none_iff.mpr fun b hb => ?_
    obtain ⟨v1, v2, v3, v4⟩ := ov t ht b hb
    unfold linIn
    rw [if_neg v3, if_neg v4]
    split <;> rfl
theorem Dq.qu (h : Dq xs) (s7 : ∀ x ∈ xs, x.natAbs ≤ 100) (l5 : 5 ≤ xs.length) : okQu xs = true := by
  have l6 := h.l6
  obtain ⟨a1, c0, a2⟩ := h.ends
  have B := h.bd7 s7
  have last := h.last
  have e0 : Sm 7 (xs.getD 0 0) := B 0
  have e1 : Sm 7 (xs.getD 1 0) := B 1
  have e2 : Sm 7 (xs.getD 2 0) := B 2
  have e4 : Sm 7 (xs.getD 4 0) := B 4
  have eL : Sm 7 (xs.getLastD 0) := B.last
  unfold okQu
  rw [decide_eq_true l5, decide_eq_true (show xs.length ≤ 1000 by omega), decide_eq_true a1, decide_eq_true a2]
  simp only [Bool.true_and]
  refine List.all_eq_true.mpr fun t ht => List.all_eq_true.mpr fun l hl => List.all_eq_true.mpr fun f hf => ?_
  obtain ⟨t1, t2, t3⟩ := dvL_all a1 ht
  obtain ⟨b1, b2, b3⟩ := dvL_all a2 hl
  have f0 : f ≠ 0 ∧ f ∣ xs.getD 0 0 ∧ f.natAbs ≤ (xs.getD 0 0).natAbs := by
    simp only [List.mem_cons, List.not_mem_nil, or_false] at hf
    rcases hf with rfl | rfl
    · exact ⟨by omega, t3, by omega⟩
    · exact ⟨by omega, Int.neg_dvd.mpr t3, by omega⟩
  obtain ⟨f0, fd, fl⟩ := f0
  have sf : Sm 7 f := Nat.lt_of_le_of_lt fl e0
  have sl : Sm 7 l := Nat.lt_of_le_of_lt (show l.natAbs ≤ (xs.getLastD 0).natAbs by omega) eL
  obtain ⟨lo1, lo2⟩ := fdiv_ex f0 fd
  obtain ⟨hi1, hi2⟩ := fdiv_ex (show l ≠ 0 by omega) b3
  have slo : Sm 7 (mLo xs f) := Nat.lt_of_le_of_lt lo2 e0
  have shi : Sm 7 (mHi xs l) := Nat.lt_of_le_of_lt hi2 eL
  have lo0 : mLo xs f ≠ 0 := fun z => by
    have z : (xs.getD 0 0).fdiv f = 0 := z
    rw [z, Int.zero_mul] at lo1
    exact c0 lo1.symm
  have k : ∀ {n : Nat} {x : Int}, Sm n x → n ≤ 4000 → smI 4000 x = true := fun h1 h2 => decide_eq_true (sm_le h1 h2)
  have dvf : ∀ m : Int, Sm 66 m → okDv xs [f, m, l] = true := fun m hm => by
    have by_ : Bd 66 [f, m, l] := bd_of fun x hx => by
      simp only [List.mem_cons, List.not_mem_nil, or_false] at hx
      rcases hx with rfl | rfl | rfl
      · exact sm_le sf (by decide)
      · exact hm
      · exact sm_le sl (by decide)
    have ty : Tr [f, m, l] := fun n hn => by
      have : n = 2 := by simpa using hn.symm
      subst this
      show l ≠ 0
      omega
    have q := divN_of (xs := xs) (ys := [f, m, l]) h.irr ty (by show 2 ≤ 3; decide) (by show 3 < xs.length; omega) by_ 20 7 xs B (by have : xs.length * (66 + 1) ≤ 6 * 67 := Nat.mul_le_mul_right 67 l6; omega) (by show xs.length + 1 ≤ 20 + 3; omega) (by omega) ⟨[], fun x => by simp only [ev]; grind⟩
    unfold okDv
    rw [q, by_.smB (show 66 ≤ 4000 by decide)]
    show (decide (0 < l) && true && true && true && true) = true
    rw [decide_eq_true (show 0 < l by omega)]
    rfl
  rw [Bool.and_eq_true]
  by_cases e5 : xs.length = 5
  · have q1 : Sm 16 (xs.getD 2 0 - f * mHi xs l - l * mLo xs f) := sm_sub (a := 15) (sm_sub (a := 14) (sm_le e2 (by decide)) (sm_mul sf shi)) (sm_le (sm_mul sl slo) (by decide))
    obtain ⟨w1, w2⟩ := okWr_of (c := f * (xs.getD 2 0 - f * mHi xs l - l * mLo xs f)) (l := -(xs.getD 1 0)) (s := mLo xs f) (sm_le (sm_mul sf q1) (by decide)) (sm_le (sm_neg e1) (by decide)) (sm_le slo (by decide)) lo0
    constructor
    · unfold okMid
      rw [if_pos e5, decide_eq_true l5, decide_eq_true (show xs.length ≤ 1000 by omega), B.smB (show 7 ≤ 4000 by decide), k sf (by decide), k sl (by decide), decide_eq_false f0, decide_eq_false (show ¬ l = 0 by omega), k slo (by decide), k shi (by decide), k q1 (by decide), w1]
      rfl
    · refine List.all_eq_true.mpr fun m hm => dvf m ?_
      unfold midL at hm
      rw [if_pos e5] at hm
      exact w2 m hm
  · have q1 : Sm 15 (xs.getD 2 0 - l * mLo xs f) := sm_sub (a := 14) (sm_le e2 (by decide)) (sm_mul sl slo)
    have q2 : Sm 23 (l * (xs.getD 2 0 - l * mLo xs f) - f * xs.getD 4 0) := sm_sub (a := 22) (sm_mul sl q1) (sm_le (sm_mul sf e4) (by decide))
    obtain ⟨w1, w2⟩ := okWr_of (c := f * (l * (xs.getD 2 0 - l * mLo xs f) - f * xs.getD 4 0)) (l := f * f * mHi xs l - l * xs.getD 1 0) (s := l * mLo xs f) (sm_le (sm_mul sf q2) (by decide)) (sm_le (sm_sub (a := 21) (sm_mul (sm_mul sf sf) shi) (sm_le (sm_mul sl e1) (by decide))) (by decide)) (sm_le (sm_mul sl slo) (by decide)) (Int.mul_ne_zero (by omega) lo0)
    constructor
    · unfold okMid
      rw [if_neg e5, decide_eq_true l5, decide_eq_true (show xs.length ≤ 1000 by omega), B.smB (show 7 ≤ 4000 by decide), k sf (by decide), k sl (by decide), decide_eq_false f0, decide_eq_false (show ¬ l = 0 by omega), k slo (by decide), k shi (by decide), k q1 (by decide), k q2 (by decide), w1]
      rfl
    · refine List.all_eq_true.mpr fun m hm => dvf m ?_
      unfold midL at hm
      rw [if_neg e5] at hm
      exact w2 m hm
theorem Dq.okLf (h : Dq xs) (s7 : ∀ x ∈ xs, x.natAbs ≤ 100) : okLf xs = true ∧ okLfG xs = true ∧ lfL xs = xs := by
  have l3 := h.l3
  obtain ⟨h1, h2, h3⟩ := h.lin
  have q : (decide (xs.length < 5) || okQu xs) = true := by
    by_cases c : xs.length < 5
    · rw [decide_eq_true c]; rfl
    · rw [h.qu s7 (by omega), Bool.or_true]
  refine ⟨?_, ?_, ?_⟩
  · unfold Xq.okLf
    rw [h1, q, Bool.and_self, Bool.or_true]
  · unfold okLfG
    rw [h2, h3, Bool.or_assoc, q]
    simp
  · unfold lfL
    rw [if_neg (by omega), h3]
    rfl
theorem canLay_ints (l : List Int) : (dT l).canLay0 = true := by
  have := sh_int9 l
  unfold SeqAt.shaped at this
  exact (Bool.and_eq_true_iff.mp this).1
theorem Dq.okLe (h : Dq xs) (s7 : ∀ x ∈ xs, x.natAbs ≤ 100) (g : gcdL xs = 1) : okLe xs = true := by
  have l3 := h.l3
  have l6 := h.l6
  have := h.last
  unfold Xq.okLe
  rw [decide_eq_true (show 1 ≤ xs.length by omega), decide_eq_true (show xs.length ≤ 1000 by omega), decide_eq_true (show 0 ≤ xs.getLastD 0 by omega), decide_eq_true g, (h.okLf s7).1, sh_int9, canLay_ints]
  rfl
theorem Dq.okTN (h : Dq xs) (s7 : ∀ x ∈ xs, x.natAbs ≤ 100) (g : gcdL xs = 1) : okTN (rkD xs) xs = true := by
  have r := h.reach
  have rk := h.rk
  have o1 := h.okc (t := 0) (b := 1) (s4k (by decide)) (s4k (by decide))
  have o2 := h.okc (t := reachL xs) (b := 1) (s4k (by omega)) (s4k (by decide))
  have u0 := h.up (t := 0) (b := 1) (by decide) (by decide)
  have uR := h.up (t := reachL xs) (b := 1) (by omega) (by decide)
  have n0 : ¬ 0 < valL xs 0 1 := fun z => by
    have q := (val_sg (show (0 : Int) < 1 by decide) 0 xs).1.mp z
    have e : ((0 : Int) : Rat) / ((1 : Int) : Rat) = 0 := by
      have : ((0 : Int) : Rat) = 0 := rfl
      rw [this]
      grind
    rw [e] at q
    have := h.ev0
    grind
  rw [if_neg n0] at u0
  rw [if_pos h.valR] at uR
  unfold Xq.okTN
  rw [h.okE, h.okLe s7 g, h.okS.1, h.okU, o1, h.hd, o2, decide_eq_true (show upL (sturmL xs) 0 1 ≤ rkD xs by omega), decide_eq_true (show rkD xs < allL (sturmL xs) by
    unfold allL
    rw [h.hd]
    omega), decide_eq_true (show (rkD xs).natAbs ≤ 1000 by omega)]
  rfl
theorem Dq.fac (h : Dq xs) (s7 : ∀ x ∈ xs, x.natAbs ≤ 100) (g : gcdL xs = 1) : facL xs = [xs] ∧ okFac xs = true := by
  have l3 := h.l3
  have l6 := h.l6
  have last := h.last
  obtain ⟨_, o3, e3⟩ := h.okLf s7
  have B := h.bd
  have e1 : primL xs = xs := by
    unfold primL
    rw [g]
    rfl
  have e2 : posL xs = xs := by
    unfold posL
    rw [if_neg (by omega)]
  have dv0 : xs.getLastD 0 % xs.getLastD 0 = 0 := Int.emod_self
  have q1 : qD xs xs = 1 := by
    unfold qD
    exact Int.ediv_self (by omega)
  have nl := nxD_len xs xs
  have nz : ((nxD xs xs).any fun x => x != 0) = false := by
    refine List.any_eq_false.mpr fun x hx => ?_
    obtain ⟨k, hk, e⟩ := List.getElem_of_mem hx
    have c := cf_nxD (ys := xs) (rest := xs) (by omega) (Nat.le_refl _) dv0 k
    rw [q1, Nat.sub_self, if_pos (Nat.zero_le _), Nat.sub_zero, Int.one_mul, Int.sub_self] at c
    have c2 : cf (nxD xs xs) k = x := by
      show (nxD xs xs).getD k 0 = x
      rw [List.getD_eq_getElem?_getD, List.getElem?_eq_getElem hk, e]
      rfl
    rw [c2] at c
    rw [c]
    decide
  have nlt : (nxD xs xs).length < xs.length := by omega
  have e4 : divL xs 20 xs [] = some [1] := by
    rw [divL_step (Nat.lt_irrefl _) dv0, q1, divL_end nlt nz]
    rfl
  have o4 : okDg xs xs = true := by
    have q : okDw xs 20 xs = true := okDw_step (Nat.le_refl _) (B.smB (by decide)) (by omega) (by rw [q1]; decide +kernel) (okDw_end nlt)
    unfold okDg
    rw [q, B.smB (show 10 ≤ 4000 by decide), decide_eq_true (show 0 < xs.getLastD 0 by omega), decide_eq_true (show 1 ≤ xs.length by omega), decide_eq_true (show xs.length ≤ 1000 by omega)]
    rfl
  have inn : inF [] xs = false := rfl
  refine ⟨?_, ?_⟩
  · unfold facL
    rw [e1, e2, facS_step (n := 9) (rest := xs) (by omega) (by rw [e3]; exact e4), e3, inn]
    rfl
  · have q : okFc 10 xs [] = true := by
      refine okFc_step (n := 9) (by omega) o3 (by rw [e3]; exact o4) (by rw [e3]; exact e4) (by rw [e3]; exact sh_int9 xs) rfl (Nat.zero_le _) ?_
      rw [e3, inn]
      rfl
    unfold okFac
    rw [e1, e2, g, q, decide_eq_true (show 1 < 2 ^ 9000 from Nat.one_lt_two_pow (by decide)), decide_eq_true (show xs.length ≤ 1000 by omega), decide_eq_true (show 1 ≤ xs.length by omega)]
    rfl
/-- Shape.of tells it, from 0 to its reach -/
theorem Dq.of (h : Dq xs) (s7 : ∀ x ∈ xs, x.natAbs ≤ 100) (g : gcdL xs = 1) : Of xs 0 1 (reachL xs) 1 xs (rkD xs) := by
  have l3 := h.l3
  have r := h.reach
  obtain ⟨f1, f2⟩ := h.fac s7 g
  have oa := h.okc (t := 0) (b := 1) (s4k (by decide)) (s4k (by decide))
  have od := h.okc (t := reachL xs) (b := 1) (s4k (by omega)) (s4k (by decide))
  have uR := h.up (t := reachL xs) (b := 1) (by omega) (by decide)
  rw [if_pos h.valR] at uR
  have cR := h.chg (t := reachL xs) (b := 1) (by omega) (by decide)
  rw [if_pos h.valR] at cR
  have rw1 : rwL xs 0 1 (reachL xs) 1 = 1 := by
    unfold rwL
    rw [if_neg (fun q => absurd q.1 (by decide))]
    omega
  refine .mk' h.okE ?_ ?_ ?_ ?_ ?_ (h.okTN s7 g) h.str.1
  · have k : ∀ {x : Int}, x.natAbs ≤ 2000 → smI 4000 x = true := fun h => decide_eq_true (s4k h)
    unfold okSt
    rw [k (show (0 : Int).natAbs ≤ 2000 by decide), k (show (1 : Int).natAbs ≤ 2000 by decide), k (show (reachL xs).natAbs ≤ 2000 by omega), decide_eq_true (show Nat.gcd (0 : Int).natAbs (1 : Int).natAbs = 1 from Nat.gcd_one_right _), decide_eq_true (show Nat.gcd (reachL xs).natAbs (1 : Int).natAbs = 1 from Nat.gcd_one_right _), decide_eq_false (show ¬ reachL xs * 1 < 0 * 1 by omega)]
    rfl
  · unfold okFw
    rw [f1, f2]
    have q : okRw xs 0 1 (reachL xs) 1 = true := by
      unfold okRw
      rw [h.okS.1, oa, od, h.okv (s4k (by decide)) (s4k (by decide))]
      rfl
    show (true && (okRw xs 0 1 (reachL xs) 1 && true)) = true
    rw [q]
    rfl
  · have es : fwS xs 0 1 (reachL xs) 1 (facL xs).length = (some xs, 1) := by
      unfold fwS
      rw [f1]
      show fwT 0 1 (reachL xs) 1 (none, 0) xs = _
      unfold fwT
      rw [rw1]
      rfl
    unfold fwL
    rw [es]
    rfl
  · unfold rlL
    rw [uR]
    omega
  · unfold okRl
    rw [h.okS.1, h.okU, od]
    rfl
end
end Xq
/-! The other drawn equations: two roots above 0, fractions. -/
namespace Xq
open PySem PySem.Spec PyProof.Rows L2
open St (ev dv Ab VA)
/-- the conditions on c, m -/
structure Eb (c m : Int) : Prop where
  m1 : -62 ≤ m
  m2 : m ≤ -3
  c1 : 1 ≤ c
  c4 : 4 * c < m * m
  ns : ∀ v : Int, v * v ≠ m * m - 4 * c
/-- the half of b as a fraction, as the law has it -/
def hafL (b : Int) : Int × Int := if b % 2 = 1 then (b, 2) else (b / 2, 1)
/-- the stretch that the law draws -/
def StrT (m : Int) (x y : Int × Int) : Prop := (x = (0, 1) ∧ y = hafL (-m)) ∨ (x = hafL (-m) ∧ y = (-m, 1))
section
variable {c m : Int}
theorem Eb.mm (h : Eb c m) : m * m ≤ 62 * 62 := by
  have := sq_up (a := -m) (b := 62) (by have := h.m2; omega) (by have := h.m1; omega)
  rw [Int.neg_mul_neg] at this
  exact this
theorem Eb.qd (h : Eb c m) : Qd c m := by
  have a := h.m1
  have b := h.m2
  have c1 := h.c1
  have d := h.c4
  have e := h.mm
  have ed : dis c m = m * m - 4 * c := rfl
  exact ⟨by omega, by omega, by omega, by omega, by omega, fun u => by rw [ed]; exact h.ns u⟩
theorem Eb.up0 (h : Eb c m) : upL (qC c m) 0 1 = 0 := by
  have Q := h.qd
  have a := h.m2
  have d := h.c1
  rw [Q.up]
  have z : (2 * 0 + m) * (2 * 0 + m) = m * m := by grind
  have ed : dis c m = m * m - 4 * c := rfl
  rw [(Q.cnt 0).2.1 (by rw [z, ed]; omega) (by omega)]
  rfl
theorem haf_of {m : Int} (h2 : m ≤ -3) (h1 : -62 ≤ m) : 0 < (hafL (-m)).2 ∧ (hafL (-m)).2 ≤ 2 ∧ 0 < (hafL (-m)).1 ∧ (hafL (-m)).1 ≤ 62 ∧ 2 * (hafL (-m)).1 + m * (hafL (-m)).2 = 0 ∧ Nat.gcd (hafL (-m)).1.natAbs (hafL (-m)).2.natAbs = 1 := by
  unfold hafL
  by_cases q : (-m) % 2 = 1
  · rw [if_pos q]
    refine ⟨(by show (0 : Int) < 2; decide), (by show (2 : Int) ≤ 2; decide), by show 0 < -m; omega, by show -m ≤ 62; omega, by show 2 * -m + m * 2 = 0; omega, ?_⟩
    show Nat.gcd (-m).natAbs 2 = 1
    rw [Nat.gcd_comm, Nat.gcd_rec]
    have : (-m).natAbs % 2 = 1 := by omega
    rw [this]
    rfl
  · rw [if_neg q]
    refine ⟨(by show (0 : Int) < 1; decide), (by show (1 : Int) ≤ 2; decide), by show 0 < -m / 2; omega, by show -m / 2 ≤ 62; omega, by show 2 * (-m / 2) + m * 1 = 0; omega, ?_⟩
    exact Nat.gcd_one_right _
theorem Eb.nzv (h : Eb c m) {t b : Int} (hb : 0 < b) (q : 2 * t + m * b = 0) : valL [c, m, 1] t b < 0 := by
  have e := fourQ c m t b
  rw [val2, q, Int.zero_mul] at e
  have : 0 < dis c m * (b * b) := Int.mul_pos h.qd.pos (Int.mul_pos hb hb)
  omega
/-- the changes at the ends and in the middle -/
theorem Eb.chs (h : Eb c m) : chgL (qC c m) 0 1 = 2 ∧ chgL (qC c m) (hafL (-m)).1 (hafL (-m)).2 = 1 ∧ chgL (qC c m) (-m) 1 = 0 := by
  obtain ⟨a1, a2, a3, a4, a5, a6⟩ := haf_of h.m2 h.m1
  have c1 := h.c1
  have m2 := h.m2
  have v0 : valL [c, m, 1] 0 1 = c := by rw [v31]; simp
  have w0 : valL [m, 2] 0 1 = m := by rw [v21]; omega
  have vm := h.nzv a1 a5
  have v1 : valL [c, m, 1] (-m) 1 = c := by rw [v31]; grind
  have w1 : valL [m, 2] (-m) 1 = -m := by rw [v21]; omega
  refine ⟨?_, ?_, ?_⟩
  · rw [chg_q (by rw [v0]; omega) (fun _ => by rw [w0]; omega), v0, w0]
    unfold chg3
    rw [if_neg (by omega), if_pos (by omega)]
  · rw [chg_q (by omega) (fun z => by omega)]
    unfold chg3
    rw [if_pos vm]
  · rw [chg_q (by rw [v1]; omega) (fun _ => by rw [w1]; omega), v1, w1]
    unfold chg3
    rw [if_neg (by omega), if_neg (by omega)]
theorem Eb.of (h : Eb c m) {x y : Int × Int} (hs : StrT m x y) : ∃ r : Int, (r = 0 ∨ r = 1) ∧ Of [c, m, 1] x.1 x.2 y.1 y.2 [c, m, 1] r := by
  have Q := h.qd
  obtain ⟨a1, a2, a3, a4, a5, a6⟩ := haf_of h.m2 h.m1
  obtain ⟨k0, k1, k2⟩ := h.chs
  obtain ⟨e1, e2⟩ := Q.chain
  obtain ⟨f1, f2⟩ := Q.fac
  have m1 := h.m1
  have m2 := h.m2
  have low := Q.lowest
  have u0 := h.up0
  have sm9' : ∀ {t : Int}, t.natAbs ≤ 2000 → Sm 900 t := fun {t} q => Nat.lt_of_lt_of_le (show t.natAbs < 2 ^ 11 by omega) (Nat.pow_le_pow_right (by decide) (by decide))
  have ov : ∀ {t b : Int}, t.natAbs ≤ 100 → b.natAbs ≤ 2 → okVB [c, m, 1] t b = true := fun {t b} h1 h2 => by
    refine okVB_of (by show 1 ≤ 3; decide) (by show 3 ≤ 8; decide) (sm9' (by omega)) (sm9' (by omega)) fun z hz => ?_
    have c1 := Q.c1
    have c2 := Q.c2
    simp only [List.mem_cons, List.not_mem_nil, or_false] at hz
    rcases hz with rfl | rfl | rfl
    · exact sm9' (by omega)
    · exact sm9' (by omega)
    · exact sm9' (by decide)
  have main : ∀ (a b c' d r : Int), (r = 0 ∨ r = 1) → 0 ≤ a → a ≤ 62 → 0 < b → b ≤ 2 → 0 ≤ c' → c' ≤ 62 → 0 < d → d ≤ 2 → Nat.gcd a.natAbs b.natAbs = 1 → Nat.gcd c'.natAbs d.natAbs = 1 → ¬ c' * b < a * d → chgL (qC c m) a b = 2 - r → chgL (qC c m) c' d = 1 - r → ¬ (a > 0 ∧ valL [c, m, 1] a b = 0) → Of [c, m, 1] a b c' d [c, m, 1] r := by
    intro a b c' d r hr p1 p2 p3 p4 p5 p6 p7 p8 p9 p10 p11 g1 g2 nz
    have oa := Q.okv (t := a) (b := b) (sm9' (by omega)) (sm9' (by omega))
    have od := Q.okv (t := c') (b := d) (sm9' (by omega)) (sm9' (by omega))
    have rw1 : rwL [c, m, 1] a b c' d = 1 := by
      unfold rwL
      rw [if_neg nz, e1, g1, g2]
      omega
    have h0 : upL (qC c m) 0 1 ≤ r := by rw [u0]; omega
    refine .mk' Q.okE ?_ ?_ ?_ ?_ ?_ (Q.okTN hr h0) (Q.str hr h0).1
    · have s4 : ∀ {x : Int}, x.natAbs ≤ 2000 → smI 4000 x = true := fun {x} q => decide_eq_true (Nat.lt_of_lt_of_le (show x.natAbs < 2 ^ 11 by omega) (Nat.pow_le_pow_right (by decide) (by decide)))
      unfold okSt
      rw [s4 (show a.natAbs ≤ 2000 by omega), s4 (show b.natAbs ≤ 2000 by omega), s4 (show c'.natAbs ≤ 2000 by omega), s4 (show d.natAbs ≤ 2000 by omega), decide_eq_true p9, decide_eq_true p10, decide_eq_false p11, decide_eq_true p1, decide_eq_true (show 1 ≤ b by omega), decide_eq_true (show 1 ≤ d by omega)]
      rfl
    · unfold okFw
      rw [f1, f2]
      show (true && ((okS [c, m, 1] && okChB (sturmL [c, m, 1]) a b && okChB (sturmL [c, m, 1]) c' d && okVB [c, m, 1] a b) && true)) = true
      rw [e2, e1, oa, od, ov (by omega) (by omega)]
      rfl
    · have es : fwS [c, m, 1] a b c' d (facL [c, m, 1]).length = (some [c, m, 1], 1) := by
        unfold fwS
        rw [f1]
        show fwT a b c' d (none, 0) [c, m, 1] = _
        unfold fwT
        rw [rw1]
        rfl
      unfold fwL
      rw [es]
      rfl
    · unfold rlL upL
      rw [e1]
      show chgL (qC c m) (-(reachL [c, m, 1])) 1 - chgL (qC c m) c' d - 1 = r
      rw [low, g2]
      omega
    · unfold okRl
      rw [e2, e1, Q.okU, od]
      rfl
  rcases hs with ⟨rfl, rfl⟩ | ⟨rfl, rfl⟩
  · refine ⟨0, .inl rfl, main 0 1 _ _ 0 (.inl rfl) (by decide) (by decide) (by decide) (by decide) (by omega) a4 a1 a2 (by decide) a6 ?_ (by rw [k0]; decide) (by rw [k1]; decide) (fun z => absurd z.1 (by decide))⟩
    rw [Int.zero_mul]
    omega
  · refine ⟨1, .inr rfl, main _ _ (-m) 1 1 (.inr rfl) (by omega) a4 a1 a2 (by omega) (by omega) (by decide) (by decide) a6 (Nat.gcd_one_right _) ?_ (by rw [k1]; decide) (by rw [k2]; decide) (fun z => ?_)⟩
    · rw [Int.mul_one]
      have : (hafL (-m)).1 ≤ -m := by
        have h3 : 0 < (-m) * (hafL (-m)).2 := Int.mul_pos (by omega) a1
        rcases (show (hafL (-m)).2 = 1 ∨ (hafL (-m)).2 = 2 by omega) with q | q
        · rw [q] at a5; omega
        · rw [q] at a5; omega
      have : (-m) * 1 ≤ (-m) * (hafL (-m)).2 := Int.mul_le_mul_of_nonneg_left (by omega) (by omega)
      omega
    · have := h.nzv a1 a5
      omega
end
/-- the floors of a shape, as far as 800 bits -/
structure FlA (xs : List Int) (r : Int) (F : Nat → Int) : Prop where
  b64 : strL xs r = (F 64, 64)
  far : ∀ b : Nat, 64 < b → b ≤ 800 → okRf xs (F 64) 64 b = true ∧ refL xs (F 64) 64 b = F b
theorem Fl.refL2 {xs : List Int} {s : Bool} {F : Nat → Int} {b0 : Nat} (h : Fl xs s F b0) {b wd : Nat} (lw : wd ≤ 800) (hb : b0 ≤ b) (hw : b ≤ wd) : okRf xs (F b) b wd = true ∧ Xq.refL xs (F b) b wd = F wd := by
  obtain ⟨h1, h2⟩ := h.ref lw 20000 b 1 hb hw (Nat.le_refl _) (by omega)
  have l3 := h.l3
  have l8 := h.l8
  unfold okRf Xq.refL
  rw [if_neg (by omega), if_neg (by omega), h1, h2, decide_eq_true (show xs.length ≤ 1000 by omega), decide_eq_true (show wd ≤ 4000 by omega), Nat.sub_self]
  refine ⟨rfl, ?_⟩
  show F wd / 1 = F wd
  omega
theorem FlA.of {xs : List Int} {r : Int} {s : Bool} {z : Int} (M : Mo xs s z) (e : strL xs r = (flS xs s z 64, 64)) : FlA xs r (flS xs s z) := ⟨e, fun b h1 h2 => M.fl.refL2 h2 (Nat.zero_le _) (Nat.le_of_lt h1)⟩
theorem fw_one {xs : List Int} {a b c d : Int} (f1 : facL xs = [xs]) (h : rwL xs a b c d = 1) : fwL xs a b c d = some xs := by
  have es : fwS xs a b c d (facL xs).length = (some xs, 1) := by
    unfold fwS
    rw [f1]
    show fwT a b c d (none, 0) xs = _
    unfold fwT
    rw [h]
    rfl
  unfold fwL
  rw [es]
  rfl
/-! ### fractions -/
structure Fq (t b : Int) : Prop where
  t1 : 1 ≤ t
  t2 : t ≤ 1000
  b1 : 1 ≤ b
  b2 : b ≤ 1000
  g : Nat.gcd t.natAbs b.natAbs = 1
section
variable {t b : Int}
theorem valF (x y : Int) : valL [-t, b] x y = b * x - t * y := by
  have e0 : valL [] x y = 0 := rfl
  rw [val_cons, val_cons, e0]
  simp only [List.length_nil, List.length_cons, Int.pow_zero, Int.pow_succ]
  grind
theorem Fq.chain (h : Fq t b) : sturmL [-t, b] = [[-t, b], [b]] ∧ okS [-t, b] = true := by
  have b1 := h.b1
  have b2 := h.b2
  have t1 := h.t1
  have t2 := h.t2
  have ed : derL [-t, b] = [b] := by
    show [((1 + 0 : Nat) : Int) * b] = _
    simp
  have tx : Tr [-t, b] := fun n hn => by
    have : n = 1 := by simpa using hn.symm
    subst this
    show b ≠ 0
    omega
  have tb : Tr [b] := fun n hn => by
    have : n = 0 := by simpa using hn.symm
    subst this
    show b ≠ 0
    omega
  obtain ⟨r1, _, r3⟩ := rem_of tx tb (by show 1 ≤ 1; decide) (by show 2 + 1 ≤ 20 + 1; decide)
  have er : remL [b] 20 [-t, b] = [] := List.eq_nil_of_length_eq_zero (by
    have r3 : (remL [b] 20 [-t, b]).length < 1 := r3
    omega)
  have bx : Bd 10 [-t, b] := bd_of fun x hx => by
    simp only [List.mem_cons, List.not_mem_nil, or_false] at hx
    rcases hx with rfl | rfl
    · exact show (-t).natAbs < 2 ^ 10 by omega
    · exact show x.natAbs < 2 ^ 10 by omega
  have bb : Bd 10 [b] := bd_of fun x hx => by
    rw [List.mem_singleton.mp hx]
    exact show b.natAbs < 2 ^ 10 by omega
  have s1 : chS 10 [derL [-t, b], [-t, b]] = [[], [b], [-t, b]] := by
    rw [ed]
    show (if false then [[b], [-t, b]] else chS 9 (negL (remL [b] 20 [-t, b]) :: [b] :: [[-t, b]])) = _
    rw [er]
    rfl
  constructor
  · unfold sturmL
    rw [s1]
    rfl
  · obtain ⟨o, _⟩ := okC_of 10 5 (derL [-t, b]) [-t, b] [] 10 10 (by rw [ed]; show okSz 5 2 1 10 10 = true; decide +kernel) tx (by rw [ed]; exact tb) bx (by rw [ed]; exact bb) (by rw [ed]; show 1 < 2; decide) (by show 2 ≤ 8; decide) (by rw [ed]; show 1 ≤ 10; decide) (by show 0 + 10 ≤ 50; decide)
    unfold okS
    rw [o]
    rfl
theorem Fq.chg (h : Fq t b) (x y : Int) : chgL [[-t, b], [b]] x y = if b * x - t * y < 0 then 1 else 0 := by
  unfold chgL
  show (((difL ((sgnL [valL [-t, b] x y, valL [b] x y]).zip ((sgnL [valL [-t, b] x y, valL [b] x y]).drop 1))).length : Nat) : Int) = _
  have vb : valL [b] x y = b := by
    have e0 : valL [] x y = 0 := rfl
    rw [val_cons, e0]
    simp only [List.length_nil, Int.pow_zero]
    omega
  rw [valF, vb]
  have b1 := h.b1
  generalize b * x - t * y = P
  have sb : sgn1 b = [true] := by
    unfold sgn1
    rw [if_neg (by omega), decide_eq_true (by omega)]
  show (((difL ((sgn1 P ++ (sgn1 b ++ [])).zip ((sgn1 P ++ (sgn1 b ++ [])).drop 1))).length : Nat) : Int) = _
  rw [sb]
  unfold sgn1
  rcases Int.lt_trichotomy P 0 with q | q | q
  · rw [if_neg (by omega), decide_eq_false (by omega), if_pos q]
    rfl
  · rw [if_pos q, if_neg (by omega)]
    rfl
  · rw [if_neg (by omega), decide_eq_true q, if_neg (by omega)]
    rfl
theorem Fq.sm (h : Fq t b) : Bd 10 [-t, b] := bd_of fun x hx => by
  have := h.t1
  have := h.t2
  have := h.b1
  have := h.b2
  simp only [List.mem_cons, List.not_mem_nil, or_false] at hx
  rcases hx with rfl | rfl
  · exact show (-t).natAbs < 2 ^ 10 by omega
  · exact show x.natAbs < 2 ^ 10 by omega
theorem Fq.okv (h : Fq t b) {x y : Int} (h1 : x.natAbs ≤ 2000) (h2 : y.natAbs ≤ 2000) : okVB [-t, b] x y = true ∧ okChB [[-t, b], [b]] x y = true := by
  have k : ∀ {x : Int}, x.natAbs ≤ 2000 → smI 4000 x = true := fun h => decide_eq_true (s4k h)
  have o1 : okVB [-t, b] x y = true := by
    unfold okVB
    rw [k h1, k h2, h.sm.smB (show 10 ≤ 4000 by decide)]
    rfl
  have o2 : okVB [b] x y = true := by
    have : smB 4000 [b] = true := List.all_eq_true.mpr fun z hz => decide_eq_true (by
      rw [List.mem_singleton.mp hz]
      have := h.b1
      have := h.b2
      exact s4k (by omega))
    unfold okVB
    rw [k h1, k h2, this]
    rfl
  refine ⟨o1, ?_⟩
  unfold okChB
  show (true && (okVB [-t, b] x y && (okVB [b] x y && true))) = true
  rw [o1, o2]
  rfl
theorem Fq.reach (h : Fq t b) : 2 ≤ reachL [-t, b] ∧ reachL [-t, b] ≤ 1001 ∧ t + 1 ≤ reachL [-t, b] ∧ b + 1 ≤ reachL [-t, b] := by
  have := h.t1
  have := h.t2
  have := h.b1
  have := h.b2
  have e : reachL [-t, b] = 1 + (if (if (0 : Int) < absI b then absI b else 0) < absI (-t) then absI (-t) else (if (0 : Int) < absI b then absI b else 0)) := rfl
  have a1 : absI (-t) = t := by unfold absI; rw [if_pos (by omega)]; omega
  have a2 : absI b = b := by unfold absI; rw [if_neg (by omega)]
  rw [a1, a2, if_pos (show 0 < b by omega)] at e
  rw [e]
  split <;> omega
/-- the floor of the fraction at b bits -/
def flF (t b : Int) (k : Nat) : Int := (t * 2 ^ k) / b
theorem Fq.gcd (h : Fq t b) : gcdL [-t, b] = 1 := by
  show Nat.gcd (Nat.gcd 0 (-t).natAbs) b.natAbs = 1
  rw [Nat.gcd_zero_left, Int.natAbs_neg]
  exact h.g
theorem Fq.okE (h : Fq t b) : okE [-t, b] = true := by
  have := h.t1
  have := h.t2
  have := h.b1
  have := h.b2
  unfold Xq.okE
  show (true && true && ((decide (-1000 ≤ -t) && decide (-t ≤ 1000)) && ((decide (-1000 ≤ b) && decide (b ≤ 1000)) && true)) && !decide (b = 0)) = true
  rw [decide_eq_true (show -1000 ≤ -t by omega), decide_eq_true (show -t ≤ 1000 by omega), decide_eq_true (show -1000 ≤ b by omega), decide_eq_true (show b ≤ 1000 by omega), decide_eq_false (show ¬ b = 0 by omega)]
  rfl
theorem Fq.okLe (h : Fq t b) : okLe [-t, b] = true := by
  have := h.b1
  unfold Xq.okLe
  rw [decide_eq_true (show 0 ≤ ([-t, b] : List Int).getLastD 0 by show 0 ≤ b; omega), decide_eq_true h.gcd, sh_int9, canLay_ints]
  rfl
theorem Fq.okU (h : Fq t b) : okUB [[-t, b], [b]] = true := by
  have r := h.reach
  have o := (h.okv (x := -(reachL [-t, b])) (y := 1) (by omega) (by decide)).2
  show (true && true && true && okChB [[-t, b], [b]] (-(reachL [-t, b])) 1) = true
  rw [o]
  rfl
theorem Fq.up (h : Fq t b) (x y : Int) : upL [[-t, b], [b]] x y = if b * x - t * y < 0 then 0 else 1 := by
  have r := h.reach
  have := h.t1
  have := h.b1
  unfold upL
  show chgL [[-t, b], [b]] (-(reachL [-t, b])) 1 - chgL [[-t, b], [b]] x y = _
  rw [h.chg, h.chg]
  have n : b * -(reachL [-t, b]) - t * 1 < 0 := by
    have := Int.mul_pos (show 0 < b by omega) (show 0 < reachL [-t, b] by omega)
    rw [Int.mul_neg]
    omega
  rw [if_pos n]
  split <;> rfl
theorem Fq.okTN (h : Fq t b) : okTN 0 [-t, b] = true := by
  have r := h.reach
  have := h.t1
  have := h.b1
  obtain ⟨c1, c2⟩ := h.chain
  have o1 := (h.okv (x := 0) (y := 1) (by decide) (by decide)).2
  have o2 := (h.okv (x := reachL [-t, b]) (y := 1) (by omega) (by decide)).2
  have u0 := h.up 0 1
  have uR := h.up (reachL [-t, b]) 1
  rw [if_pos (by omega)] at u0
  rw [if_neg (by
    have := Int.mul_le_mul_of_nonneg_right (show 1 ≤ b by omega) (show 0 ≤ reachL [-t, b] by omega)
    omega)] at uR
  unfold Xq.okTN
  rw [h.okE, h.okLe, c2, c1, h.okU, o1]
  show (true && true && true && true && true && okChB [[-t, b], [b]] (reachL [-t, b]) 1 && decide (upL [[-t, b], [b]] 0 1 ≤ 0) && decide (0 < upL [[-t, b], [b]] (reachL [-t, b]) 1) && true) = true
  rw [o2, u0, uR]
  rfl
theorem Fq.fl (h : Fq t b) : okStr [-t, b] 0 = true ∧ FlA [-t, b] 0 (flF t b) := by
  have r := h.reach
  have t1 := h.t1
  have b1 := h.b1
  have t2 := h.t2
  obtain ⟨c1, c2⟩ := h.chain
  have z0 : 0 ≤ t / b := Int.ediv_nonneg (by omega) (by omega)
  have zt : t / b ≤ t := Int.ediv_le_self _ (by omega)
  have key : ∀ x : Int, b * x - t * 1 < 0 ↔ ¬ x > (t - 1) / b := fun x => by
    have e := Int.emod_add_mul_ediv (t - 1) b
    have e1 := Int.emod_nonneg (t - 1) (show b ≠ 0 by omega)
    have e2 := Int.emod_lt_of_pos (t - 1) (show 0 < b by omega)
    constructor
    · intro q w
      have := Int.mul_le_mul_of_nonneg_left (show (t - 1) / b + 1 ≤ x by omega) (show 0 ≤ b by omega)
      rw [Int.mul_add, Int.mul_one] at this
      omega
    · intro q
      have := Int.mul_le_mul_of_nonneg_left (show x ≤ (t - 1) / b by omega) (show 0 ≤ b by omega)
      omega
  have z0' : 0 ≤ (t - 1) / b := Int.ediv_nonneg (by omega) (by omega)
  have zt' : (t - 1) / b ≤ t - 1 := Int.ediv_le_self _ (by omega)
  have L : Lo (sturmL [-t, b]) 0 ((t - 1) / b) (reachL [-t, b]) := by
    rw [c1]
    refine ⟨fun x x0 x1 => (h.okv (by omega) (by decide)).2, fun x x0 x1 => ?_, ?_, z0', by omega⟩
    · rw [h.up]
      have := key x
      by_cases q : b * x - t * 1 < 0
      · rw [if_pos q]
        have := this.mp q
        omega
      · rw [if_neg q]
        have := fun w => q (this.mpr w)
        have : x > (t - 1) / b := Classical.byContradiction fun w => q ((key x).mpr w)
        omega
    · rw [h.chg, h.chg]
      split <;> split <;> omega
  obtain ⟨l1, l2⟩ := L.run 60 0 (reachL [-t, b]) (by decide) z0' (by omega) (Int.le_refl _) (by
    have : (2 : Int) ^ 60 = 1152921504606846976 := by decide
    omega)
  have el : lonL [-t, b] 0 = ((t - 1) / b, 0) := l1
  have ok2 : ∀ (n : Int) (a : Nat) (w : Nat), w ≤ 4000 → okRf [-t, b] n a w = true ∧ refL [-t, b] n a w = flF t b w := fun n a w hw => by
    constructor
    · unfold okRf
      rw [if_pos (show ([-t, b] : List Int).length = 2 from rfl)]
      show (true && decide (w ≤ 4000) && (smI 4000 (-t) && smI 4000 b && !decide (b = 0))) = true
      rw [decide_eq_true hw, show smI 4000 (-t) = true from decide_eq_true (s4k (by omega)), show smI 4000 b = true from decide_eq_true (s4k (by have := h.b2; omega)), decide_eq_false (show ¬ b = 0 by omega)]
      rfl
    · unfold refL flF
      rw [if_pos (show ([-t, b] : List Int).length = 2 from rfl)]
      show (-(-t) * 2 ^ w).fdiv b = _
      rw [Int.neg_neg, Int.fdiv_eq_ediv_of_nonneg _ (by omega)]
  have es : strL [-t, b] 0 = (flF t b 64, 64) := by
    unfold strL
    rw [el, (ok2 _ _ _ (show max 0 64 ≤ 4000 by decide)).2]
    rfl
  refine ⟨?_, es, fun k _ hk => ok2 _ _ _ (by omega)⟩
  unfold okStr okLon
  rw [el, (ok2 _ _ _ (show max 0 64 ≤ 4000 by decide)).1, c2, l2, c1, h.okU]
  rfl
theorem Fq.fac (h : Fq t b) : facL [-t, b] = [[-t, b]] ∧ okFac [-t, b] = true := by
  have b1 := h.b1
  have e1 : primL [-t, b] = [-t, b] := by
    unfold primL
    rw [h.gcd]
    rfl
  have e2 : posL [-t, b] = [-t, b] := by
    unfold posL
    rw [if_neg (show ¬ ([-t, b] : List Int).getLastD 0 < 0 by show ¬ b < 0; omega)]
  have e3 : lfL [-t, b] = [-t, b] := rfl
  have q1 : qD [-t, b] [-t, b] = 1 := by
    show b / b = 1
    exact Int.ediv_self (by omega)
  have z : nxD [-t, b] [-t, b] = [0] := by
    show [-t - qD [-t, b] [-t, b] * -t] = [0]
    rw [q1]
    simp
  have nlt : ([0] : List Int).length < [-t, b].length := Nat.lt_succ_self 1
  have dv0 : ([-t, b] : List Int).getLastD 0 % ([-t, b] : List Int).getLastD 0 = 0 := Int.emod_self
  have e4 : divL [-t, b] 20 [-t, b] [] = some [1] := by
    rw [divL_step (Nat.lt_irrefl _) dv0, z, q1, divL_end nlt rfl]
    rfl
  have o3 : okLfG [-t, b] = true := rfl
  have B := h.sm
  have o4 : okDg [-t, b] [-t, b] = true := by
    have q : okDw [-t, b] 20 [-t, b] = true := okDw_step (Nat.le_refl _) (B.smB (by decide)) (by show 2 ≤ 1000; decide) (by rw [q1]; decide +kernel) (by rw [z]; exact okDw_end nlt)
    unfold okDg
    rw [q, B.smB (show 10 ≤ 4000 by decide), decide_eq_true (show 0 < ([-t, b] : List Int).getLastD 0 by show 0 < b; omega)]
    rfl
  have inn : inF [] [-t, b] = false := rfl
  refine ⟨?_, ?_⟩
  · unfold facL
    rw [e1, e2, facS_step (n := 9) (rest := [-t, b]) (by show ¬ 2 ≤ 1; decide) (by rw [e3]; exact e4), e3, inn]
    rfl
  · have q : okFc 10 [-t, b] [] = true := by
      refine okFc_step (n := 9) (by show 2 ≤ 1000; decide) o3 (by rw [e3]; exact o4) (by rw [e3]; exact e4) (by rw [e3]; exact sh_int9 _) rfl (Nat.zero_le _) ?_
      rw [e3, inn]
      rfl
    unfold okFac
    rw [e1, e2, h.gcd, q, decide_eq_true (show 1 < 2 ^ 9000 from Nat.one_lt_two_pow (by decide))]
    rfl
theorem Fq.of (h : Fq t b) : Of [-t, b] 0 1 1001 1 [-t, b] 0 := by
  have t1 := h.t1
  have t2 := h.t2
  have b1 := h.b1
  obtain ⟨c1, c2⟩ := h.chain
  obtain ⟨f1, f2⟩ := h.fac
  have oa := h.okv (x := 0) (y := 1) (by decide) (by decide)
  have od := h.okv (x := 1001) (y := 1) (by decide) (by decide)
  have n1001 : ¬ b * 1001 - t * 1 < 0 := by
    have := Int.mul_le_mul_of_nonneg_right (show 1 ≤ b by omega) (show (0 : Int) ≤ 1001 by decide)
    omega
  have rw1 : rwL [-t, b] 0 1 1001 1 = 1 := by
    unfold rwL
    rw [if_neg (fun q => absurd q.1 (by decide)), c1, h.chg, h.chg, if_pos (by omega), if_neg n1001]
    rfl
  refine .mk' h.okE ?_ ?_ ?_ ?_ ?_ h.okTN h.fl.1
  · have k : ∀ {x : Int}, x.natAbs ≤ 2000 → smI 4000 x = true := fun h => decide_eq_true (s4k h)
    unfold okSt
    rw [k (show (0 : Int).natAbs ≤ 2000 by decide), k (show (1 : Int).natAbs ≤ 2000 by decide), k (show (1001 : Int).natAbs ≤ 2000 by decide), decide_eq_true (show Nat.gcd (0 : Int).natAbs (1 : Int).natAbs = 1 from Nat.gcd_one_right _), decide_eq_true (show Nat.gcd (1001 : Int).natAbs (1 : Int).natAbs = 1 from Nat.gcd_one_right _)]
    rfl
  · unfold okFw
    rw [f1, f2]
    have q : okRw [-t, b] 0 1 1001 1 = true := by
      unfold okRw
      rw [c2, c1, oa.2, od.2, oa.1]
      rfl
    show (true && (okRw [-t, b] 0 1 1001 1 && true)) = true
    rw [q]
    rfl
  · exact fw_one f1 rw1
  · unfold rlL
    rw [c1, h.up, if_neg n1001]
    rfl
  · unfold okRl
    rw [c2, c1, h.okU, od.2]
    rfl
end
end Xq
/-! Writings: halves, can_go. -/
namespace Xq
open PySem PySem.Spec PyProof.Rows L2
theorem lc_enumT {g : TG} {K : PySem.W.Frag} {a : Addr} {xs : List V} {tt : TT} {te : TE} {vs : List Nat} {σ : L2.St} {H1 : Hp} {D : Addr} {Qd : Hp → Prop} (Pv : Nat → Hp → Prop) (h0 : Pv 0 (upd H1 D (.lst []))) (hq : ∀ i H, Pv i H → SqT K H a xs)
    (hs : ∀ i x H, xs[i]? = some x → Pv i H → ∀ T, H T = none → g (.ref T) (wipe σ vs) (upd H T (.tup [.int (i : Nat), x])) fun σ2 H2 => wipe σ2 vs = wipe σ vs ∧ tt σ2 H2 fun b H3 =>
      if b = true then te σ2 H3 fun y H4 => ∃ acc, H4 D = some (.lst acc) ∧ acc.length < sizeLine ∧ Pv (i + 1) (upd H4 D (.lst (acc ++ [y]))) else Pv (i + 1) H3) (hd : ∀ H, Pv xs.length H → Qd H) :
    ∃ W : Nat → Nat → Hp → Prop, (∃ m, W 0 m (upd H1 D (.lst []))) ∧ ∀ i m H, W i m H →
      ((IteT K a).stop i H ∧ Qd H) ∨ ((IteT K a).go i H ∧ ∃ Nx : Hp → Prop, (∀ H', Nx H' → ∃ m', m' < m ∧ W (i + 1) m' H') ∧ ∀ x H', (IteT K a).yld i H x H' → g x (wipe σ vs) H' fun σ2 H2 => wipe σ2 vs = wipe σ vs ∧ tt σ2 H2 fun b H3 =>
        if b = true then te σ2 H3 fun y H4 => ∃ acc, H4 D = some (.lst acc) ∧ acc.length < sizeLine ∧ Nx (upd H4 D (.lst (acc ++ [y]))) else Nx H3) := by
  refine ⟨fun i m H => m = xs.length - i ∧ i ≤ xs.length ∧ Pv i H, ⟨xs.length, by simp, Nat.zero_le _, h0⟩, ?_⟩
  rintro i m H ⟨rfl, hi, p⟩
  have q := hq i H p
  by_cases hlt : i < xs.length
  · refine .inr ⟨⟨xs, xs[i], q, by simp [hlt]⟩, Pv (i + 1), fun H' p' => ⟨xs.length - (i + 1), by omega, rfl, hlt, p'⟩, fun x H' y => ?_⟩
    obtain ⟨T, z, rfl, hT, rfl, y⟩ := y
    exact hs i z H (y xs q) p T hT
  · have e : i = xs.length := by omega
    subst e
    exact .inl ⟨⟨xs, q, Nat.le_refl _⟩, hd H p⟩
def hvU (xs : List Int) (n : Nat) : List Int := (List.range n).map fun i : Nat => if (((xs.length : Nat) : Int) - 1 - (i : Int)) % 2 = 0 then cf xs i else 0
def hvW (xs : List Int) (n : Nat) : List Int := (List.range n).map fun i : Nat => if (((xs.length : Nat) : Int) - 1 - (i : Int)) % 2 = 1 then -cf xs i else 0
def goL (u l : List Int) : Bool := decide (0 < l.length) && decide (u.length = l.length + 1) && decide (u.getLastD 0 * l.getLastD 0 > 0)
section
variable {P : Program} {w : World} {K : PySem.W.Frag} {mg : Str → Option Value} {base : Heap} {C : Addr}
abbrev nHv : List Str := ["equation", "last", "upper", "lower", "at", "term"]
theorem nHv_ : FnScope nHv ["equation"] (defScope (top 65)) := (⟨rfl, rfl, rfl, by decide +kernel, rfl, by decide +kernel, by decide +kernel⟩)
abbrev spHv : Sp := Prm (α := Addr × List Int) (fun a => [.ref a.1]) (fun a H => TI H a.1 a.2 ∧ 1 ≤ a.2.length ∧ a.2.length ≤ 100)
  (fun a H v H' => ∃ r p q, v = .ref r ∧ H' r = some (.tup [.ref p, .ref q]) ∧ TI H' p (trimI (hvU a.2 a.2.length)) ∧ TI H' q (trimI (hvW a.2 a.2.length)))
theorem c_hv (D : Df K mg "halves" (top 65)) (B : Bl mg) (CT : Cal P w K mg base 1 "trimmed" ["terms"] spTrim) : Cal P w K mg base 2 "halves" ["equation"] spHv := by
  refine mkC D nHv_ (fun _ _ _ _ _ _ us hl => match us, hl with | [_], _ => rfl) (fun _ => rfl) (fun f cdv A outer s H a Q E hr h k => ?_)
  obtain ⟨p, xs⟩ := a
  obtain ⟨hp, l1, l2⟩ := h
  have hp0 : H p = some (.tup (xs.map V.int)) := hp
  have l1 : 1 ≤ xs.length := l1
  have l2 : xs.length ≤ 100 := l2
  have k : ∀ v H', Same H H' → (∃ r p q, v = .ref r ∧ H' r = some (.tup [.ref p, .ref q]) ∧ TI H' p (trimI (hvU xs xs.length)) ∧ TI H' q (trimI (hvW xs xs.length))) → Q v H' := k
  refine ⟨_, pss_cons (ps_set (i := 1) nHv_.nd rfl (Or.inr rfl) (pe_op op_sub ((pe_callB call_len_seq (by rfl) (Bl.len_ B) PySem.boot_len (pa_cons (pv 0) pa_nil))) pe_int))
    (pss_cons (ps_setLc (i := 2) (own := [("at", 4), ("term", 5)]) (g := gTup K 2 (gCons (gName 4) (gCons (gName 5) gNil))) (tt := tYes)
        (te := tIf (tTest (tOp rEq (tOp (rI (fun _ j => 0 < j) fun i j => .int (i % j)) (tOp (rI0 fun i j => .int (i - j)) (tVar 1) (tVar 4)) (tC (.int 2))) (tC (.int 0)))) (tVar 5) (tC (.int 0))) rfl nHv_.nd rfl rfl (sw_true rfl rfl rfl (by decide +kernel)) (pi_enumT (by rfl) B.enumerate_ (pa_cons (pv 0) pa_nil))
        (blkOk_by (N := nHv) (sc := defScope (top 65)) (by decide +kernel)) (fun _ _ _ _ _ => pg_tup rfl (pgs_cons ((pg_name (i := 4) (FnScope.nd nHv_) rfl (Or.inl rfl))) (pgs_cons ((pg_name (i := 5) (FnScope.nd nHv_) rfl (Or.inl rfl))) pgs_nil))) (fun _ _ _ _ _ => pts_nil)
        (fun _ _ _ _ _ => pe_ifExp ((pt_cmpR op_eq (pe_op op_mod (pe_op op_sub (pv 1) (pv 4)) pe_int) pe_int (nomark _))) (pv 5) pe_int))
    (pss_cons (ps_setLc (i := 3) (own := [("at", 4), ("term", 5)]) (g := gTup K 2 (gCons (gName 4) (gCons (gName 5) gNil))) (tt := tYes)
        (te := tIf (tTest (tOp rEq (tOp (rI (fun _ j => 0 < j) fun i j => .int (i % j)) (tOp (rI0 fun i j => .int (i - j)) (tVar 1) (tVar 4)) (tC (.int 2))) (tC (.int 1)))) (tUn (rU fun i => .int (-i)) (tVar 5)) (tC (.int 0))) rfl nHv_.nd rfl rfl (sw_true rfl rfl rfl (by decide +kernel)) (pi_enumT (by rfl) B.enumerate_ (pa_cons (pv 0) pa_nil))
        (blkOk_by (N := nHv) (sc := defScope (top 65)) (by decide +kernel)) (fun _ _ _ _ _ => pg_tup rfl (pgs_cons ((pg_name (i := 4) (FnScope.nd nHv_) rfl (Or.inl rfl))) (pgs_cons ((pg_name (i := 5) (FnScope.nd nHv_) rfl (Or.inl rfl))) pgs_nil))) (fun _ _ _ _ _ => pts_nil)
        (fun _ _ _ _ _ => pe_ifExp ((pt_cmpR op_eq (pe_op op_mod (pe_op op_sub (pv 1) (pv 4)) pe_int) pe_int (nomark _))) (pe_un un_neg (pv 5)) pe_int))
    (pss_one (ps_ret (pe_tup (pa_cons (pe_cl CT hr (pa_cons (pv 2) pa_nil)) (pa_cons (pe_cl CT hr (pa_cons (pv 3) pa_nil)) pa_nil))))))), ?_⟩
  have e0 : L2.start nHv [V.ref p] = [some (.ref p), none, none, none, none, none] := rfl
  rw [e0]
  have z2 : (2 : Nat) ≤ sizeLine := by decide
  have lx : (xs.map V.int).length = xs.length := List.length_map ..
  refine ⟨_, rfl, p, _, rfl, .inr (SqT.of hp0), _, _, rfl, rfl, ?_⟩
  refine ⟨_, rfl, p, _, rfl, SqT.of hp0, fun D1 hD1 => lc_enumT (xs := xs.map V.int) (fun i H' => Same H H' ∧ H' D1 = some (.lst ((hvU xs i).map V.int))) ⟨same_new hD1, upd_same⟩ (fun i H' e => SqT.of (e.1 _ _ hp0)) (fun i x H' hx e T hT => ?_) (fun H1 e => ?_)⟩
  · obtain ⟨s1, e1⟩ := e
    obtain ⟨b, hb, rfl⟩ := at_map hx
    have li := lt_of_at hb
    have nT : D1 ≠ T := ne_of_none e1 hT
    have s2 := Same.new (o := .tup [.int (i : Nat), .int b]) s1 hT
    have e2 : upd H' T (.tup [.int (i : Nat), .int b]) D1 = _ := (upd_ne nT).trans e1
    refine ⟨T, _, rfl, SqT.of upd_same, rfl, _, _, rfl, _, _, rfl, rfl, rfl, ?_⟩
    simp only [tYes, if_true]
    refine ⟨_, rfl, _, rfl, _, _, rfl, rfl, _, _, rfl, rfl, (show (0 : Int) < 2 by decide), rfl, _, rfl, ?_⟩
    have cb : cf xs i = b := by
      show xs.getD i 0 = b
      rw [List.getD_eq_getElem?_getD, hb]
      rfl
    have lz : ((hvU xs i).map V.int).length < sizeLine := by
      unfold hvU
      rw [List.length_map, List.length_map, List.length_range]
      exact sz_lt (by omega)
    have st : hvU xs (i + 1) = hvU xs i ++ [if (((xs.length : Nat) : Int) - 1 - (i : Int)) % 2 = 0 then b else 0] := by
      unfold hvU
      rw [List.range_succ, List.map_append, ← cb]
      rfl
    rw [lx]
    by_cases c : (((xs.length : Nat) : Int) - 1 - (i : Int)) % 2 = 0
    · rw [decide_eq_true (show V.int ((((xs.length : Nat) : Int) - 1 - (i : Int)) % 2) = V.int 0 by rw [c])]
      rw [if_pos c] at st
      refine iteT ⟨_, rfl, _, e2, lz, Same.put s2 hD1, ?_⟩
      rw [upd_same, st, List.map_append]
      rfl
    · rw [decide_eq_false (show ¬ V.int ((((xs.length : Nat) : Int) - 1 - (i : Int)) % 2) = V.int 0 from fun z => c (V.int.inj z))]
      rw [if_neg c] at st
      refine iteF ⟨_, e2, lz, Same.put s2 hD1, ?_⟩
      rw [upd_same, st, List.map_append]
      rfl
  obtain ⟨s1, e1⟩ := e
  rw [lx] at e1
  have hp1 := s1 _ _ hp0
  refine ⟨_, rfl, p, _, rfl, SqT.of hp1, fun D2 hD2 => lc_enumT (xs := xs.map V.int) (fun i H' => Same H1 H' ∧ H' D2 = some (.lst ((hvW xs i).map V.int))) ⟨same_new hD2, upd_same⟩ (fun i H' e => SqT.of (e.1 _ _ hp1)) (fun i x H' hx e T hT => ?_) (fun H2 e => ?_)⟩
  · obtain ⟨s2', e2'⟩ := e
    obtain ⟨b, hb, rfl⟩ := at_map hx
    have li := lt_of_at hb
    have nT : D2 ≠ T := ne_of_none e2' hT
    have s2 := Same.new (o := .tup [.int (i : Nat), .int b]) s2' hT
    have e2 : upd H' T (.tup [.int (i : Nat), .int b]) D2 = _ := (upd_ne nT).trans e2'
    refine ⟨T, _, rfl, SqT.of upd_same, rfl, _, _, rfl, _, _, rfl, rfl, rfl, ?_⟩
    simp only [tYes, if_true]
    refine ⟨_, rfl, _, rfl, _, _, rfl, rfl, _, _, rfl, rfl, (show (0 : Int) < 2 by decide), rfl, _, rfl, ?_⟩
    have cb : cf xs i = b := by
      show xs.getD i 0 = b
      rw [List.getD_eq_getElem?_getD, hb]
      rfl
    have lz : ((hvW xs i).map V.int).length < sizeLine := by
      unfold hvW
      rw [List.length_map, List.length_map, List.length_range]
      exact sz_lt (by omega)
    have st : hvW xs (i + 1) = hvW xs i ++ [if (((xs.length : Nat) : Int) - 1 - (i : Int)) % 2 = 1 then -b else 0] := by
      unfold hvW
      rw [List.range_succ, List.map_append, ← cb]
      rfl
    rw [lx]
    by_cases c : (((xs.length : Nat) : Int) - 1 - (i : Int)) % 2 = 1
    · rw [decide_eq_true (show V.int ((((xs.length : Nat) : Int) - 1 - (i : Int)) % 2) = V.int 1 by rw [c])]
      rw [if_pos c] at st
      refine iteT ⟨_, rfl, _, rfl, _, e2, lz, Same.put s2 hD2, ?_⟩
      rw [upd_same, st, List.map_append]
      rfl
    · rw [decide_eq_false (show ¬ V.int ((((xs.length : Nat) : Int) - 1 - (i : Int)) % 2) = V.int 1 from fun z => c (V.int.inj z))]
      rw [if_neg c] at st
      refine iteF ⟨_, e2, lz, Same.put s2 hD2, ?_⟩
      rw [upd_same, st, List.map_append]
      rfl
  obtain ⟨s2, e2⟩ := e
  rw [lx] at e2
  have e12 := s2 _ _ e1
  have t2 := s1.trans s2
  refine ⟨_, rfl, (D1, hvU xs xs.length), rfl, .inl e12, ?_⟩
  rintro _ H3 s3 ⟨r1, rfl, hr1⟩
  refine ⟨_, rfl, (D2, hvW xs xs.length), rfl, .inl (s3 _ _ e2), ?_⟩
  rintro _ H4 s4 ⟨r2, rfl, hr2⟩
  refine ⟨z2, fun r hr' => ?_⟩
  have y := same_new (o := .tup [.ref r1, .ref r2]) hr'
  exact k _ _ (t2.trans (s3.trans (s4.trans y))) ⟨r, r1, r2, rfl, upd_same, TI.same (s4.trans y) hr1, TI.same y hr2⟩
theorem nGo_ : FnScope ["upper", "lower"] ["upper", "lower"] (defScope (top 66)) := (⟨rfl, rfl, rfl, by decide +kernel, rfl, by decide +kernel, by decide +kernel⟩)
abbrev spGo : Sp := Prm (α := Addr × Addr × List Int × List Int) (fun ⟨p, q, _⟩ => [.ref p, .ref q]) (fun ⟨p, q, u, l⟩ H => TI H p u ∧ TI H q l ∧ smB 9000 u = true ∧ smB 9000 l = true) (fun ⟨p, q, u, l⟩ H v H' => v = .bl (goL u l) ∧ H' = H)
theorem c_go (D : Df K mg "can_go" (top 66)) (B : Bl mg) : Cal P w K mg base 1 "can_go" ["upper", "lower"] spGo := by
  refine mkC D nGo_ (fun _ _ _ _ _ _ us hl => match us, hl with | [_, _], _ => rfl) (fun _ => rfl) (fun f cdv A outer s H a Q E hr h k => ?_)
  obtain ⟨p, q, u, l⟩ := a
  obtain ⟨hp, hq, su, sl⟩ := h
  have hp0 : H p = some (.tup (u.map V.int)) := hp
  have hq0 : H q = some (.tup (l.map V.int)) := hq
  have k : ∀ v H', Same H H' → (v = .bl (goL u l) ∧ H' = H) → Q v H' := k
  have lu : (u.map V.int).length = u.length := List.length_map ..
  have ll : (l.map V.int).length = l.length := List.length_map ..
  refine ⟨_, pss_one (ps_ret (pe_and (pe_cmpR op_gt ((pe_callB call_len_seq (by rfl) (Bl.len_ B) PySem.boot_len (pa_cons (pv 1) pa_nil))) pe_int (nomark _)) (pe_and (pe_cmpR op_eq ((pe_callB call_len_seq (by rfl) (Bl.len_ B) PySem.boot_len (pa_cons (pv 0) pa_nil))) (pe_op op_add ((pe_callB call_len_seq (by rfl) (Bl.len_ B) PySem.boot_len (pa_cons (pv 1) pa_nil))) pe_int) (nomark _)) (pe_one (pe_cmpR op_gt (pe_op op_mulW ((pe_ix ix_tup (pv 0) (pe_un un_neg pe_int) (fun _ _ => rfl))) ((pe_ix ix_tup (pv 1) (pe_un un_neg pe_int) (fun _ _ => rfl)))) pe_int (nomark _)))))), ?_⟩
  refine ⟨_, rfl, q, _, rfl, .inr (SqT.of hq0), _, _, rfl, rfl, _, rfl, ?_⟩
  rw [ll]
  by_cases c1 : (0 : Nat) < l.length
  · rw [decide_eq_true (show (((l.length : Nat) : Int) > 0) by omega), if_pos rfl]
    refine ⟨_, rfl, p, _, rfl, .inr (SqT.of hp0), _, rfl, q, _, rfl, .inr (SqT.of hq0), _, _, rfl, rfl, rfl, _, rfl, ?_⟩
    rw [lu, ll]
    by_cases c2 : u.length = l.length + 1
    · rw [decide_eq_true (show V.int ((u.length : Nat) : Int) = V.int (((l.length : Nat) : Int) + 1) by rw [c2]; rfl), if_pos rfl]
      refine ⟨_, rfl, _, rfl, p, _, _, _, rfl, rfl, SqT.of hp0, at_lastD (by omega), _, rfl, _, rfl, q, _, _, _, rfl, rfl, SqT.of hq0, at_lastD (by omega), _, _, rfl, rfl, cm (smB_ok (a := 400000) su (by decide) _ (last_mem (by omega))) (smB_ok (a := 400000) sl (by decide) _ (last_mem (by omega))), _, _, rfl, rfl, ?_⟩
      refine k _ _ (Same.refl _) ⟨?_, rfl⟩
      unfold goL
      rw [decide_eq_true c1, decide_eq_true c2]
      rfl
    · rw [decide_eq_false (show ¬ V.int ((u.length : Nat) : Int) = V.int (((l.length : Nat) : Int) + 1) from fun z => c2 (by have := V.int.inj z; omega)), if_neg (by decide)]
      refine k _ _ (Same.refl _) ⟨?_, rfl⟩
      unfold goL
      rw [decide_eq_false c2, Bool.and_false]
      rfl
  · rw [decide_eq_false (show ¬ (((l.length : Nat) : Int) > 0) by omega), if_neg (by decide)]
    refine k _ _ (Same.refl _) ⟨?_, rfl⟩
    unfold goL
    rw [decide_eq_false c1]
    rfl
end
end Xq
/-! Writings: steps, written, fills. -/
namespace Xq
open PySem PySem.Spec PyProof.Rows L2
/-- pairs of integers at addresses -/
def Prs (H : Hp) : List Addr → List (Int × Int) → Prop
  | [], [] => True
  | a :: as, p :: ps => TI H a [p.1, p.2] ∧ Prs H as ps
  | _, _ => False
theorem Prs.len {H : Hp} : ∀ {as : List Addr} {ps : List (Int × Int)}, Prs H as ps → as.length = ps.length
  | [], [], _ => rfl
  | a :: as, p :: ps, h => by
    rw [List.length_cons, List.length_cons, Prs.len h.2]
theorem Prs.same {H H' : Hp} (s : Same H H') : ∀ {as : List Addr} {ps : List (Int × Int)}, Prs H as ps → Prs H' as ps
  | [], [], _ => trivial
  | a :: as, p :: ps, h => ⟨TI.same s h.1, Prs.same s h.2⟩
theorem Prs.app {H : Hp} {a : Addr} {p : Int × Int} (ha : TI H a [p.1, p.2]) : ∀ {as : List Addr} {ps : List (Int × Int)}, Prs H as ps → Prs H (as ++ [a]) (ps ++ [p])
  | [], [], _ => ⟨ha, trivial⟩
  | b :: as, q :: ps, h => ⟨h.1, Prs.app ha h.2⟩
theorem Prs.dp {K : PySem.W.Frag} {H : Hp} : ∀ {as : List Addr} {ps : List (Int × Int)}, Prs H as ps → DpAll K H (as.map V.ref) (ps.map fun p => dT [p.1, p.2])
  | [], [], _ => .nil
  | a :: as, p :: ps, h => .cons (.tup (SqT.of h.1) (dp_ints [p.1, p.2])) (Prs.dp h.2)
theorem smB_ofN {l : List Int} {k : Nat} (hl : ∀ x ∈ l, Sm k x) : smB k l = true := List.all_eq_true.mpr fun x hx => decide_eq_true (hl x hx)
def absW (i : Int) : Int := if i < 0 then -i else i
def gcW (u l : List Int) : Int := ((Nat.gcd (u.getLastD 0).natAbs (l.getLastD 0).natAbs : Nat) : Int)
def tpW (u l : List Int) : Int := (absW (u.getLastD 0)).fdiv (gcW u l)
def btW (u l : List Int) : Int := (absW (l.getLastD 0)).fdiv (gcW u l)
def upW (u l : List Int) (n : Nat) : List Int := (l.take n).map fun x => btW u l * x
def stpL : Nat → List Int → List Int → List (Int × Int)
  | 0, _, _ => []
  | n + 1, u, l => if goL u l = true then (tpW u l, btW u l) :: stpL n (upW u l l.length) (combL (btW u l) u (tpW u l) l 1) else []
def okSp : Nat → List Int → List Int → Bool
  | 0, u, l => smB 4000 u && smB 4000 l && !goL u l
  | n + 1, u, l => smB 4000 u && smB 4000 l && (!goL u l || (decide (u.length ≤ 50) && decide (gcW u l ≠ 0) && smI 4000 (gcW u l) && smI 4000 (tpW u l) && smI 4000 (btW u l) && okSp n (upW u l l.length) (combL (btW u l) u (tpW u l) l 1)))
def stpX (xs : List Int) : List (Int × Int) := stpL 10 (trimI (hvU xs xs.length)) (trimI (hvW xs xs.length))
def okX (xs : List Int) : Bool := okSp 10 (trimI (hvU xs xs.length)) (trimI (hvW xs xs.length))
section
variable {P : Program} {w : World} {K : PySem.W.Frag} {mg : Str → Option Value} {base : Heap} {C : Addr}
abbrev nSt9 : List Str := ["shape", "upper", "lower", "found", "common", "top", "bottom", "term"]
theorem nSt9_ : FnScope nSt9 ["shape"] (defScope (top 64)) := (⟨rfl, rfl, rfl, by decide +kernel, rfl, by decide +kernel, by decide +kernel⟩)
abbrev AShp := Addr × Str × Int × List Int
abbrev spSp (C : Addr) : Sp := Prm (α := AShp) (fun a => [.ref a.1]) (fun a H => ShpG C H a.1 a.2.1 a.2.2.1 a.2.2.2 ∧ 1 ≤ a.2.2.2.length ∧ a.2.2.2.length ≤ 100 ∧ okX a.2.2.2 = true)
  (fun a H v H' => ∃ q as, v = .ref q ∧ H' q = some (.tup (as.map V.ref)) ∧ Prs H' as (stpX a.2.2.2))
theorem c_sp (D : Df K mg "steps" (top 64)) (B : Bl mg) (S : ShC K mg C) (CK : Cal P w K mg base 1 "check_shape" ["value"] (spChkG C)) (CH : Cal P w K mg base 2 "halves" ["equation"] spHv) (CG : Cal P w K mg base 1 "can_go" ["upper", "lower"] spGo)
    (CC : Cal P w K mg base 2 "combined" ["factor", "one", "weight", "other", "shift"] spCombG) : Cal P w K mg base 3 "steps" ["shape"] (spSp C) := by
  refine mkC D nSt9_ (fun _ _ _ _ _ _ us hl => match us, hl with | [_], _ => rfl) (fun _ => rfl) (fun f cdv A outer s H a Q E hr h k => ?_)
  obtain ⟨sh, t, r, xs⟩ := a
  obtain ⟨hS, l1, l2, ok⟩ := h
  have hS : ShpG C H sh t r xs := hS
  have l1 : 1 ≤ xs.length := l1
  have l2 : xs.length ≤ 100 := l2
  have ok : okX xs = true := ok
  have k : ∀ v H', Same H H' → (∃ q as, v = .ref q ∧ H' q = some (.tup (as.map V.ref)) ∧ Prs H' as (stpX xs)) → Q v H' := k
  have r2 : Room (0 + 2) (A.deeper (envOfC "steps" (defScope (top 64)) s.heap.objs.size f cdv)) := hr.mono (by decide)
  refine ⟨_, pss_cons (ps_expr (pe_cl CK hr (pa_cons (pv 0) pa_nil)))
    (pss_cons (ps_asg (pe_cl CH hr (pa_cons (pe_eqnG (j := 0) S (pv 0) r2) pa_nil)) (pg_tup rfl (pgs_cons ((pg_name (i := 1) (FnScope.nd nSt9_) rfl (Or.inl rfl))) (pgs_cons ((pg_name (i := 2) (FnScope.nd nSt9_) rfl (Or.inl rfl))) pgs_nil))))
    (pss_cons ((ps_set (i := 3) (FnScope.nd nSt9_) rfl (Or.inl rfl) (pe_lst pa_nil)))
    (pss_cons (ps_whI PassesOwn.never (pt_val (pe_cl CG hr (pa_cons (pv 1) (pa_cons (pv 2) pa_nil))))
      (pss_cons ((ps_set (i := 4) (FnScope.nd nSt9_) rfl (Or.inl rfl) (pe_callBfun cr_gcd (by rfl) B.gcd_ (pa_cons ((pe_ix ix_tup (pv 1) (pe_un un_neg pe_int) (fun _ _ => rfl))) (pa_cons ((pe_ix ix_tup (pv 2) (pe_un un_neg pe_int) (fun _ _ => rfl))) pa_nil)))))
      (pss_cons (ps_asg (pe_tup (pa_cons (pe_op op_fdivX (pe_callB call_abs (by rfl) B.abs_ PyProof.Rows.boot_abs (pa_cons ((pe_ix ix_tup (pv 1) (pe_un un_neg pe_int) (fun _ _ => rfl))) pa_nil)) (pv 4)) (pa_cons (pe_op op_fdivX (pe_callB call_abs (by rfl) B.abs_ PyProof.Rows.boot_abs (pa_cons ((pe_ix ix_tup (pv 2) (pe_un un_neg pe_int) (fun _ _ => rfl))) pa_nil)) (pv 4)) pa_nil)))
          (pg_tup rfl (pgs_cons ((pg_name (i := 5) (FnScope.nd nSt9_) rfl (Or.inl rfl))) (pgs_cons (pg_name (i := 6) nSt9_.nd rfl (Or.inr rfl)) pgs_nil))))
      (pss_cons (ps_expr ((pe_bm PySem.F.plainAttrs_list PySem.F.slot_list_append PySem.F.type_list_append mt_append (pv 3) (pa_cons (pe_tup (pa_cons (pv 5) (pa_cons (pv 6) pa_nil))) pa_nil))))
      (pss_one (ps_par (i := 1) (j := 2) rfl nSt9_.nd rfl rfl (by decide) rfl rfl (pa_cons (pe_callTy call_tuple_of (by rfl) B.tuple_ PyProof.Rows.boot_tuple (pa_cons
          (pe_lc (own := [("term", 7)]) (g := gName 7) (tt := tYes) (te := tOp (rI CMulW fun i j => .int (i * j)) (tVar 6) (tVar 7)) rfl nSt9_.nd (pi_tup (pv 2))
            (blkOk_by (N := nSt9) (sc := defScope (top 64)) (by decide +kernel)) (fun _ _ _ _ _ => (pg_name (i := 7) (FnScope.nd nSt9_) rfl (Or.inl rfl))) (fun _ _ _ _ _ => pts_nil) (fun _ _ _ _ _ => pe_op op_mulW (pv 6) (pv 7))) pa_nil))
        (pa_cons (pe_cl CC hr (pa_cons (pv 6) (pa_cons (pv 1) (pa_cons (pv 5) (pa_cons (pv 2) (pa_cons pe_int pa_nil)))))) pa_nil)) rfl))))))
    (pss_one (ps_ret (pe_callTy call_tuple_of (by rfl) B.tuple_ PyProof.Rows.boot_tuple (pa_cons (pv 3) pa_nil))))))), ?_⟩
  have e0 : L2.start nSt9 [V.ref sh] = [some (.ref sh), none, none, none, none, none, none, none] := rfl
  rw [e0]
  have z2 : (2 : Nat) ≤ sizeLine := by decide
  have big : 600 ≤ sizeLine := by decide
  refine ⟨_, rfl, (sh, t, r, xs), rfl, hS, ?_⟩
  rintro _ HX - eX
  have eX : H = HX := (show HX = H from eX).symm
  subst eX
  obtain ⟨dx, qa, y1, y2⟩ := id hS
  refine ⟨_, rfl, sh, dx, _, rfl, y1, sh, _, _, _, rfl, hS, fun qe Te => ?_⟩
  refine ⟨(qe, xs), rfl, ⟨Te, l1, l2⟩, ?_⟩
  rintro _ H1 s1 ⟨r1, p, q, rfl, e1, hp, hq⟩
  have hp : TI H1 p (trimI (hvU xs xs.length)) := hp
  have hq : TI H1 q (trimI (hvW xs xs.length)) := hq
  refine ⟨r1, _, rfl, SqT.of e1, rfl, _, _, rfl, _, _, rfl, rfl, ?_⟩
  refine ⟨Nat.zero_le _, fun L hL => ?_⟩
  have yL := same_new (o := .lst []) hL
  have eL : upd H1 L (.lst []) L = some (.lst []) := upd_same
  dsimp only
  have hL0 : H L = none := none_same' s1 hL
  have t2 := s1.trans yL
  have hp := TI.same yL hp
  have hq := TI.same yL hq
  generalize upd H1 L (.lst []) = H2 at *
  clear s1 yL e1 hL
  have X0 : stpL 10 (trimI (hvU xs xs.length)) (trimI (hvW xs xs.length)) = stpX xs := rfl
  have ok : okSp 10 (trimI (hvU xs xs.length)) (trimI (hvW xs xs.length)) = true := ok
  generalize trimI (hvU xs xs.length) = u0 at *
  generalize trimI (hvW xs xs.length) = w0 at *
  refine ⟨fun m σ H' => ∃ (u l : List Int) (ps : List (Int × Int)) (as : List Addr) (a1 a2 : Addr) (z4 z5 z6 : Option V), σ = [some (.ref sh), some (.ref a1), some (.ref a2), some (.ref L), z4, z5, z6, none] ∧ Same H H' ∧ TI H' a1 u ∧ TI H' a2 l ∧ H' L = some (.lst (as.map V.ref)) ∧ Prs H' as ps ∧ okSp m u l = true ∧ ps ++ stpL m u l = stpX xs ∧ ps.length + m ≤ 10,
    ⟨10, u0, w0, [], [], p, q, none, none, none, rfl, t2, hp, hq, eL, trivial, ok, X0, by decide⟩, ?_⟩
  rintro m σ H3 ⟨u, l, ps, as, a1, a2, z4, z5, z6, rfl, t3, h1, h2, h3, hP, o1, e3, lm⟩
  have su : smB 4000 u = true ∧ smB 4000 l = true := by
    cases m with
    | zero =>
      unfold okSp at o1
      simp only [Bool.and_eq_true] at o1
      exact o1.1
    | succ m =>
      unfold okSp at o1
      simp only [Bool.and_eq_true] at o1
      exact o1.1
  have s9 : ∀ {l : List Int}, smB 4000 l = true → smB 9000 l = true := fun h => smB_ofN fun x hx => smB_ok (a := 9000) h (by decide) x hx
  have h10 : H3 a1 = some (.tup (u.map V.int)) := h1
  have h20 : H3 a2 = some (.tup (l.map V.int)) := h2
  refine ⟨_, rfl, _, rfl, (a1, a2, u, l), rfl, ⟨h1, h2, s9 su.1, s9 su.2⟩, ?_⟩
  rintro _ HX - ⟨rfl, eX⟩
  have eX : H3 = HX := (show HX = H3 from eX).symm
  subst eX
  refine ⟨_, rfl, ?_⟩
  cases hg : goL u l with
  | false =>
    refine iteF ⟨_, rfl, L, _, rfl, .inl ⟨SqL.of h3, fun d hd => ?_⟩⟩
    have y := same_new (o := .tup (as.map V.ref)) hd
    have ep : stpL m u l = [] := by
      cases m with
      | zero => rfl
      | succ m =>
        unfold stpL
        rw [hg]
        rfl
    rw [ep, List.append_nil] at e3
    refine k _ _ (t3.trans y) ⟨d, as, rfl, upd_same, ?_⟩
    rw [← e3]
    exact hP.same y
  | true =>
    cases m with
    | zero =>
      unfold okSp at o1
      rw [hg] at o1
      simp at o1
    | succ m =>
      unfold okSp at o1
      rw [hg] at o1
      simp only [Bool.and_eq_true, Bool.not_true, Bool.false_or, decide_eq_true_eq] at o1
      obtain ⟨_, ⟨⟨⟨⟨l5, g0⟩, sg⟩, st⟩, sb⟩, o2⟩ := o1
      have e4 : stpL (m + 1) u l = (tpW u l, btW u l) :: stpL m (upW u l l.length) (combL (btW u l) u (tpW u l) l 1) := by
        rw [stpL, hg]
        rfl
      rw [e4] at e3
      have gl : 0 < l.length ∧ u.length = l.length + 1 := by
        unfold goL at hg
        simp only [Bool.and_eq_true, decide_eq_true_eq] at hg
        exact hg.1
      have sg : (gcW u l).natAbs < 2 ^ 4000 := of_decide_eq_true sg
      have st : (tpW u l).natAbs < 2 ^ 4000 := of_decide_eq_true st
      have sb : (btW u l).natAbs < 2 ^ 4000 := of_decide_eq_true sb
      have dv : ∀ i : Int, CDivX i (gcW u l) := fun i => ⟨g0, Nat.lt_of_lt_of_le (PySem.Flt.log2_lt_of (show 0 < 4000 by decide) sg) (by decide)⟩
      refine iteT ⟨_, rfl, _, rfl, a1, _, _, _, rfl, rfl, SqT.of h10, at_lastD (by omega), _, rfl, _, rfl, a2, _, _, _, rfl, rfl, SqT.of h20, at_lastD (by omega), _, _, rfl, ?_⟩
      refine ⟨_, rfl, _, rfl, a1, _, _, _, rfl, rfl, SqT.of h10, at_lastD (by omega), _, rfl, _, rfl, _, _, rfl, rfl, dv _, _, rfl, _, rfl, a2, _, _, _, rfl, rfl, SqT.of h20, at_lastD (by omega), _, rfl, _, rfl, _, _, rfl, rfl, dv _, z2, fun tp htp => ?_⟩
      have et : upd H3 tp (.tup [.int (tpW u l), .int (btW u l)]) tp = some (.tup [.int (tpW u l), .int (btW u l)]) := upd_same
      have y1 := same_new (o := .tup [.int (tpW u l), .int (btW u l)]) htp
      show gTup _ _ _ _ _ (upd H3 tp (.tup [.int (tpW u l), .int (btW u l)])) _
      generalize upd H3 tp (.tup [.int (tpW u l), .int (btW u l)]) = H4 at *
      refine ⟨tp, _, rfl, SqT.of et, rfl, _, _, rfl, _, _, rfl, rfl, ?_⟩
      refine ⟨_, rfl, .inl ⟨rfl, _, SqL.of (y1 _ _ h3)⟩, _, rfl, _, rfl, z2, fun tq htq => ?_⟩
      have et2 : TI (upd H4 tq (.tup [.int (tpW u l), .int (btW u l)])) tq [tpW u l, btW u l] := upd_same
      have y2 := same_new (o := .tup [.int (tpW u l), .int (btW u l)]) htq
      show _
      generalize upd H4 tq (.tup [.int (tpW u l), .int (btW u l)]) = H5 at *
      have y12 := y1.trans y2
      have h35 := y12 _ _ h3
      have lp := hP.len
      refine ⟨L, _, _, rfl, rfl, h35, ?_, ?_⟩
      · rw [List.length_map]
        exact sz_lt (by omega)
      have y3 := Same.put (o := .lst (as.map V.ref ++ [.ref tq])) (t3.trans y12) hL0
      have nL : ∀ {b : Addr} {ys : List V}, H5 b = some (.tup ys) → upd H5 L (.lst (as.map V.ref ++ [.ref tq])) b = some (.tup ys) := fun {b ys} e => by
        have : b ≠ L := fun z => by
          rw [z, h35] at e
          cases e
        exact (upd_ne this).trans e
      have h16 : TI (upd H5 L (.lst (as.map V.ref ++ [.ref tq]))) a1 u := nL (y12 _ _ h10)
      have h26 : TI (upd H5 L (.lst (as.map V.ref ++ [.ref tq]))) a2 l := nL (y12 _ _ h20)
      have hP6 : Prs (upd H5 L (.lst (as.map V.ref ++ [.ref tq]))) (as ++ [tq]) (ps ++ [(tpW u l, btW u l)]) := by
        refine Prs.app (p := (tpW u l, btW u l)) (nL et2) ?_
        have q : ∀ {as : List Addr} {ps : List (Int × Int)}, Prs H5 as ps → Prs (upd H5 L (.lst ((List.map V.ref _ : List V) ++ [.ref tq]))) as ps := fun {as ps} => by
          intro h
          induction as generalizing ps with
          | nil => cases ps with
            | nil => trivial
            | cons _ _ => exact h.elim
          | cons a as ih => cases ps with
            | nil => exact h.elim
            | cons p ps => exact ⟨nL h.1, ih h.2⟩
        exact q (hP.same y12)
      have h36 : upd H5 L (.lst (as.map V.ref ++ [.ref tq])) L = some (.lst ((as ++ [tq]).map V.ref)) := by
        rw [upd_same, List.map_append]
        rfl
      generalize upd H5 L (.lst (as.map V.ref ++ [.ref tq])) = H6 at *
      have h260 : H6 a2 = some (.tup (l.map V.int)) := h26
      refine ⟨_, rfl, a2, rfl, ⟨_, SqT.of h260⟩, fun D hD => lc_tup (xs := l.map V.int) (fun i H' => Same H6 H' ∧ H' D = some (.lst ((upW u l i).map V.int))) ⟨same_new hD, upd_same⟩ (fun i H' _ e => SqT.of (e.1 _ _ h260)) (fun i x H' hx e => ?_) (fun H7 e => ?_)⟩
      · obtain ⟨s7, e7⟩ := e
        obtain ⟨z, hz, rfl⟩ := at_map hx
        have li := lt_of_at hz
        refine ⟨rfl, ?_⟩
        simp only [tYes, if_true]
        refine ⟨_, rfl, _, rfl, _, _, rfl, rfl, cm (show Sm 400000 (btW u l) from sm_le sb (by decide)) (smB_ok (a := 400000) su.2 (by decide) z (List.mem_of_getElem? hz)), _, e7, ?_, Same.put s7 hD, ?_⟩
        · unfold upW
          rw [List.length_map, List.length_map, List.length_take]
          exact sz_lt (by omega)
        · unfold upW
          rw [upd_same, List.take_succ, hz, List.map_append, List.map_append]
          rfl
      obtain ⟨s7, e7⟩ := e
      rw [List.length_map] at e7
      refine ⟨D, _, rfl, .inl ⟨SqL.of e7, fun d hd => ?_⟩⟩
      have y8 := same_new (o := .tup ((upW u l l.length).map V.int)) hd
      have e8 : TI (upd H7 d (.tup ((upW u l l.length).map V.int))) d (upW u l l.length) := upd_same
      dsimp only
      generalize upd H7 d (.tup ((upW u l l.length).map V.int)) = H8 at *
      have s78 := s7.trans y8
      have one : ((1 : Nat) : Int) = 1 := rfl
      refine ⟨_, rfl, _, rfl, _, rfl, _, rfl, (btW u l, a1, tpW u l, a2, 1, u, l), rfl, ⟨TI.same s78 h16, TI.same s78 h26, sm_le sb (by decide), sm_le st (by decide), smB_ok (a := 400000) su.1 (by decide), smB_ok (a := 400000) su.2 (by decide), by show u.length ≤ 1000; omega, by show l.length + 1 ≤ 1000; omega⟩, ?_⟩
      rintro _ H9 s9' ⟨r9, rfl, hr9⟩
      have hr9 : TI H9 r9 (combL (btW u l) u (tpW u l) l 1) := hr9
      refine ⟨_, _, rfl, ?_⟩
      have sA := s78.trans s9'
      exact ⟨m, Nat.lt_succ_self m, upW u l l.length, combL (btW u l) u (tpW u l) l 1, ps ++ [(tpW u l, btW u l)], as ++ [tq], d, r9, _, _, _, rfl, y3.trans sA, TI.same s9' e8, hr9, sA _ _ h36, hP6.same sA, o2, by rw [List.append_assoc]; exact e3, by rw [List.length_append]; show ps.length + 1 + m ≤ 10; omega⟩
theorem nWr_ : FnScope ["shape", "found"] ["shape"] (defScope (top 62)) := (⟨rfl, rfl, rfl, by decide +kernel, rfl, by decide +kernel, by decide +kernel⟩)
/-- what written tells -/
def WrO (H : Hp) (v : V) (xs : List Int) : Prop := ((stpX xs).length = xs.length - 1 ∧ ∃ q as, v = .ref q ∧ H q = some (.tup (as.map V.ref)) ∧ Prs H as (stpX xs)) ∨ ((stpX xs).length ≠ xs.length - 1 ∧ v = .non)
abbrev spWr (C : Addr) : Sp := Prm (α := AShp) (fun a => [.ref a.1]) (fun a H => ShpG C H a.1 a.2.1 a.2.2.1 a.2.2.2 ∧ 1 ≤ a.2.2.2.length ∧ a.2.2.2.length ≤ 100 ∧ okX a.2.2.2 = true) (fun a H v H' => WrO H' v a.2.2.2)
theorem c_wr9 (D : Df K mg "written" (top 62)) (B : Bl mg) (S : ShC K mg C) (CS : Cal P w K mg base 3 "steps" ["shape"] (spSp C)) : Cal P w K mg base 4 "written" ["shape"] (spWr C) := by
  refine mkC D nWr_ (fun _ _ _ _ _ _ us hl => match us, hl with | [_], _ => rfl) (fun _ => rfl) (fun f cdv A outer s H a Q E hr h k => ?_)
  obtain ⟨sh, t, r, xs⟩ := a
  obtain ⟨hS, l1, l2, ok⟩ := h
  have hS : ShpG C H sh t r xs := hS
  have l1 : 1 ≤ xs.length := l1
  have k : ∀ v H', Same H H' → WrO H' v xs → Q v H' := k
  have r2 : Room (0 + 2) (A.deeper (envOfC "written" (defScope (top 62)) s.heap.objs.size f cdv)) := hr.mono (by decide)
  refine ⟨_, pss_cons ((ps_set (i := 1) (FnScope.nd nWr_) rfl (Or.inl rfl) (pe_cl CS hr (pa_cons (pv 0) pa_nil)))) (pss_one (ps_ret (pe_ifExp ((pt_cmpR op_eq ((pe_callB call_len_seq (by rfl) (Bl.len_ B) PySem.boot_len (pa_cons (pv 1) pa_nil))) (pe_degG (j := 0) S B (pv 0) r2) (nomark _))) (pv 1) pe_non))), ?_⟩
  refine ⟨_, rfl, (sh, t, r, xs), rfl, ⟨hS, l1, l2, ok⟩, ?_⟩
  rintro _ H1 s1 ⟨q, as, rfl, e1, hP⟩
  have hP : Prs H1 as (stpX xs) := hP
  have lp := hP.len
  have hS1 := hS.same s1
  obtain ⟨dx, qa, y1, y2⟩ := id hS1
  refine ⟨_, rfl, q, _, rfl, .inr (SqT.of e1), ?_⟩
  refine ⟨_, rfl, sh, dx, _, rfl, y1, sh, _, _, _, rfl, hS1, fun _ _ => ?_⟩
  refine ⟨rfl, _, rfl, ?_⟩
  rw [List.length_map, lp]
  by_cases c : (stpX xs).length = xs.length - 1
  · rw [decide_eq_true (show V.int (((stpX xs).length : Nat) : Int) = V.int (((xs.length : Nat) : Int) - 1) by congr 1; omega)]
    exact iteT ⟨_, rfl, k _ _ s1 (.inl ⟨c, q, as, rfl, e1, hP⟩)⟩
  · rw [decide_eq_false (show ¬ V.int (((stpX xs).length : Nat) : Int) = V.int (((xs.length : Nat) : Int) - 1) from fun z => c (by have := V.int.inj z; omega))]
    exact iteF (k _ _ s1 (.inr ⟨c, rfl⟩))
theorem nFi_ : FnScope ["shape"] ["shape"] (defScope (top 63)) := (⟨rfl, rfl, rfl, by decide +kernel, rfl, by decide +kernel, by decide +kernel⟩)
abbrev spFi (C : Addr) : Sp := Prm (α := AShp) (fun a => [.ref a.1]) (fun a H => ShpG C H a.1 a.2.1 a.2.2.1 a.2.2.2 ∧ 1 ≤ a.2.2.2.length ∧ a.2.2.2.length ≤ 100 ∧ okX a.2.2.2 = true) (fun a H v H' => v = .bl (decide ((stpX a.2.2.2).length = a.2.2.2.length - 1)))
theorem c_fi (D : Df K mg "fills" (top 63)) (CW : Cal P w K mg base 4 "written" ["shape"] (spWr C)) : Cal P w K mg base 5 "fills" ["shape"] (spFi C) := by
  refine mkC D nFi_ (fun _ _ _ _ _ _ us hl => match us, hl with | [_], _ => rfl) (fun _ => rfl) (fun f cdv A outer s H a Q E hr h k => ?_)
  obtain ⟨sh, t, r, xs⟩ := a
  refine ⟨_, pss_one (ps_ret (pe_cmpR op_notN (pe_cl CW hr (pa_cons (pv 0) pa_nil)) pe_non (nomark _))), ?_⟩
  refine ⟨_, rfl, (sh, t, r, xs), rfl, h, ?_⟩
  rintro v H1 s1 ho
  have ho : WrO H1 v xs := ho
  rcases ho with ⟨c, q, as, rfl, _, _⟩ | ⟨c, rfl⟩
  · exact ⟨rfl, k _ _ s1 (by rw [decide_eq_true c]; rfl)⟩
  · exact ⟨rfl, k _ _ s1 (by rw [decide_eq_false c]; rfl)⟩
end
end Xq
/-! The law's small defs: gcd, least terms, fractions, texts (k39). -/
namespace Xq
open PySem PySem.Spec PyProof.Rows L2
section
variable {P : Program} {w : World} {K : PySem.W.Frag} {mg : Str → Option Value} {base : Heap} {C : Addr}
theorem nGc_ : FnScope ["_law_one", "_law_two"] ["_law_one", "_law_two"] (defScope (top 70)) := (⟨rfl, rfl, rfl, by decide +kernel, rfl, by decide +kernel, by decide +kernel⟩)
abbrev spGc : Sp := Prm (α := Int × Int) (fun a => [.int a.1, .int a.2]) (fun a _ => a.1.natAbs ≤ 100000 ∧ a.2.natAbs ≤ 100000) (fun a H v H' => v = .int ((Nat.gcd a.1.natAbs a.2.natAbs : Nat) : Int) ∧ H' = H)
theorem c_gc (D : Df K mg "_law_gcd" (top 70)) (B : Bl mg) : Cal P w K mg base 1 "_law_gcd" ["_law_one", "_law_two"] spGc := by
  refine mkC D nGc_ (fun _ _ _ _ _ _ us hl => match us, hl with | [_, _], _ => rfl) (fun _ => rfl) (fun f cdv A outer s H a Q E hr h k => ?_)
  obtain ⟨a, b⟩ := a
  have k : ∀ v H', Same H H' → (v = .int ((Nat.gcd a.natAbs b.natAbs : Nat) : Int) ∧ H' = H) → Q v H' := k
  refine ⟨_, pss_cons (ps_par (i := 0) (j := 1) rfl nGc_.nd rfl rfl (by decide) rfl rfl (pa_cons (pe_callB call_abs (by rfl) B.abs_ PyProof.Rows.boot_abs (pa_cons (pv 0) pa_nil)) (pa_cons (pe_callB call_abs (by rfl) B.abs_ PyProof.Rows.boot_abs (pa_cons (pv 1) pa_nil)) pa_nil)) rfl)
    (pss_cons (ps_whI PassesOwn.never ((pt_cmpR op_gt (pv 1) pe_int (nomark _)))
      (pss_one (ps_par (i := 0) (j := 1) rfl nGc_.nd rfl rfl (by decide) rfl rfl (pa_cons (pv 1) (pa_cons (pe_op op_mod (pe_callTy call_int1 (by rfl) B.int_ PyProof.Rows.boot_int (pa_cons (pv 0) pa_nil)) (pv 1)) pa_nil)) rfl)))
    (pss_one (ps_ret (pv 0)))), ?_⟩
  have eabs : ∀ i : Int, (if i < 0 then -i else i) = (i.natAbs : Int) := fun i => by split <;> omega
  refine ⟨_, rfl, _, rfl, _, rfl, _, rfl, _, _, rfl, ?_⟩
  rw [eabs, eabs]
  refine ⟨fun m σ H' => ∃ x y : Nat, σ = [some (.int (x : Int)), some (.int (y : Int))] ∧ H' = H ∧ y ≤ m ∧ Nat.gcd x y = Nat.gcd a.natAbs b.natAbs, ⟨b.natAbs, a.natAbs, b.natAbs, rfl, rfl, Nat.le_refl _, rfl⟩, ?_⟩
  rintro m σ H' ⟨x, y, rfl, rfl, ym, e⟩
  refine ⟨_, rfl, _, _, rfl, rfl, _, rfl, ?_⟩
  by_cases c : 0 < y
  · rw [decide_eq_true (show ((y : Int) > 0) by omega)]
    refine iteT ⟨_, rfl, _, rfl, .inl ⟨_, rfl, _, rfl, _, _, rfl, rfl, (show (0 : Int) < (y : Int) by omega), _, _, rfl, ?_⟩⟩
    have lt : x % y < y := Nat.mod_lt _ c
    refine ⟨m - 1, by omega, y, x % y, ?_, rfl, by omega, ?_⟩
    · show [some (V.int (y : Int)), some (V.int ((x : Int) % (y : Int)))] = _
      rfl
    · rw [← e, Nat.gcd_comm x y, Nat.gcd_rec y x, Nat.gcd_comm]
  · rw [decide_eq_false (show ¬ ((y : Int) > 0) by omega)]
    have y0 : y = 0 := by omega
    refine iteF ⟨_, rfl, k _ _ (Same.refl _) ⟨?_, rfl⟩⟩
    rw [← e, y0, Nat.gcd_zero_right]
abbrev nPt : List Str := ["_law_terms", "_law_common", "_law_term"]
theorem nPt_ : FnScope nPt ["_law_terms"] (defScope (top 71)) := (⟨rfl, rfl, rfl, by decide +kernel, rfl, by decide +kernel, by decide +kernel⟩)
def ngL (xs : List Int) : List Int := xs.map fun x => -x
abbrev spPt : Sp := Prm (α := Addr × List Int) (fun a => [.ref a.1]) (fun a H => LI H a.1 a.2 ∧ 1 ≤ a.2.length ∧ a.2.length ≤ 10 ∧ (∀ x ∈ a.2, x.natAbs ≤ 1000) ∧ gcdL a.2 = 1 ∧ a.2.getLastD 0 < 0) (fun a H v H' => ∃ q, v = .ref q ∧ LI H' q (ngL a.2))
theorem c_pt (D : Df K mg "_law_prime_terms" (top 71)) (B : Bl mg) (CG : Cal P w K mg base 1 "_law_gcd" ["_law_one", "_law_two"] spGc) : Cal P w K mg base 2 "_law_prime_terms" ["_law_terms"] spPt := by
  refine mkC D nPt_ (fun _ _ _ _ _ _ us hl => match us, hl with | [_], _ => rfl) (fun _ => rfl) (fun f cdv A outer s H a Q E hr h k => ?_)
  obtain ⟨p, xs⟩ := a
  obtain ⟨hp, l1, l2, bx, g1, ls⟩ := h
  have hp0 : H p = some (.lst (xs.map V.int)) := hp
  have l1 : 1 ≤ xs.length := l1
  have l2 : xs.length ≤ 10 := l2
  have bx : ∀ x ∈ xs, x.natAbs ≤ 1000 := bx
  have g1 : gcdL xs = 1 := g1
  have ls : xs.getLastD 0 < 0 := ls
  have k : ∀ v H', Same H H' → (∃ q, v = .ref q ∧ LI H' q (ngL xs)) → Q v H' := k
  refine ⟨_, pss_cons (ps_set (i := 1) nPt_.nd rfl (Or.inr rfl) pe_int)
    (pss_cons (ps_for PassesOwn.never rfl (pi_list (pv 0)) ((pg_name (i := 2) (FnScope.nd nPt_) rfl (Or.inl rfl)))
      (pss_one (ps_set (i := 1) nPt_.nd rfl (Or.inr rfl) (pe_cl CG hr (pa_cons (pv 1) (pa_cons (pv 2) pa_nil))))))
    (pss_one (ps_ret (pe_lc (own := [("_law_term", 2)]) (g := gName 2) (tt := tYes) (te := tOp (rI CDivX fun i j => .int (i.fdiv j)) (tVar 2) (tIf (tTest (tOp (rI0 fun i j => .bl (decide (i > j))) (tOp (rIxL K) (tVar 0) (tUn (rU fun i => .int (-i)) (tC (.int 1)))) (tC (.int 0)))) (tVar 1) (tUn (rU fun i => .int (-i)) (tVar 1)))) rfl nPt_.nd (pi_list (pv 0))
      (blkOk_by (N := nPt) (sc := defScope (top 71)) (by decide +kernel)) (fun _ _ _ _ _ => (pg_name (i := 2) (FnScope.nd nPt_) rfl (Or.inl rfl))) (fun _ _ _ _ _ => pts_nil)
      (fun _ _ _ _ _ => pe_op op_fdivX (pv 2) (pe_ifExp ((pt_cmpR op_gt ((pe_ix ix_list (pv 0) (pe_un un_neg pe_int) (fun _ _ => rfl))) pe_int (nomark _))) (pv 1) (pe_un un_neg (pv 1)))))))), ?_⟩
  have e0 : L2.start nPt [V.ref p] = [some (.ref p), none, none] := rfl
  rw [e0]
  have gb : ∀ i, gcdL (xs.take i) ≤ 100000 := fun i => by
    have hh : ∀ (l : List Int) (g : Nat), g ≤ 1000 → (∀ x ∈ l, x.natAbs ≤ 1000) → l.foldl (fun g x => Nat.gcd g x.natAbs) g ≤ 1000 := fun l => by
      induction l with
      | nil => exact fun g hg _ => hg
      | cons y t ih =>
        intro g hg h
        refine ih _ ?_ fun x hx => h x (List.mem_cons_of_mem _ hx)
        have hy := h y (List.mem_cons_self ..)
        rcases Nat.eq_zero_or_pos g with z | z
        · rw [z]
          show Nat.gcd 0 _ ≤ 1000
          rw [Nat.gcd_zero_left]
          exact hy
        · exact Nat.le_trans (Nat.gcd_le_left _ z) hg
    have : gcdL (xs.take i) ≤ 1000 := hh (xs.take i) 0 (by decide) fun x hx => bx x (List.mem_of_mem_take hx)
    omega
  refine ⟨_, rfl, p, rfl, ⟨_, SqL.of hp0⟩, for_list (xs := xs.map V.int) (fun i σ H' => H' = H ∧ ∃ z, σ = [some (.ref p), some (.int ((gcdL (xs.take i) : Nat) : Int)), z]) ⟨rfl, none, rfl⟩ (fun i σ H' _ q => by rw [q.1]; exact SqL.of hp0) ?_ ?_⟩
  · rintro i x σ H' hx ⟨rfl, z, rfl⟩
    obtain ⟨y, hy, rfl⟩ := at_map hx
    have by_ := bx y (List.mem_of_getElem? hy)
    refine ⟨_, rfl, _, rfl, (((gcdL (xs.take i) : Nat) : Int), y), rfl, ⟨by show (((gcdL (xs.take i) : Nat) : Int)).natAbs ≤ 100000; have := gb i; omega, by show y.natAbs ≤ 100000; omega⟩, ?_⟩
    rintro _ HX - ⟨rfl, eX⟩
    have eX : H' = HX := (show HX = H' from eX).symm
    subst eX
    refine ⟨rfl, some (.int y), ?_⟩
    rw [gcdL_succ hy]
    rfl
  · rintro σ H' ⟨rfl, z, rfl⟩
    rw [List.length_map, List.take_length, g1]
    refine ⟨_, rfl, p, rfl, ⟨_, SqL.of hp0⟩, fun D hD => lc_list (xs := xs.map V.int) (fun i H2 => Same H' H2 ∧ H2 D = some (.lst ((ngL (xs.take i)).map V.int))) ⟨same_new hD, upd_same⟩ (fun i H2 _ e => SqL.of (e.1 _ _ hp0)) (fun i x H2 hx e => ?_) (fun H2 e => ?_)⟩
    · obtain ⟨s2, e2⟩ := e
      obtain ⟨y, hy, rfl⟩ := at_map hx
      have li := lt_of_at hy
      refine ⟨rfl, ?_⟩
      simp only [tYes, if_true]
      refine ⟨_, rfl, _, rfl, _, rfl, p, _, _, _, rfl, rfl, SqL.of (s2 _ _ hp0), at_lastD l1, _, _, rfl, rfl, _, rfl, ?_⟩
      rw [decide_eq_false (show ¬ (xs.getLastD 0 > 0) by omega)]
      refine iteF ⟨_, rfl, _, rfl, _, _, rfl, rfl, ⟨by decide, by decide +kernel⟩, _, e2, ?_, Same.put s2 hD, ?_⟩
      · unfold ngL
        rw [List.length_map, List.length_map, List.length_take]
        exact sz_lt (by omega)
      · have en : y.fdiv (-1) = -y := by
          have q : (-y * -1).fdiv (-1) = -y := Int.mul_fdiv_cancel _ (by decide)
          rw [show -y * -1 = y by omega] at q
          exact q
        unfold ngL
        rw [upd_same, List.take_succ, hy, List.map_append, List.map_append]
        show some (HO.lst (_ ++ [V.int (y.fdiv (-1))])) = _
        rw [en]
        rfl
    · obtain ⟨s2, e2⟩ := e
      rw [List.length_map, List.take_length] at e2
      exact k _ _ s2 ⟨D, rfl, e2⟩
theorem nFr_ : FnScope ["_law_part", "_law_common"] ["_law_part"] (defScope (top 75)) := (⟨rfl, rfl, rfl, by decide +kernel, rfl, by decide +kernel, by decide +kernel⟩)
abbrev spFr : Sp := Prm (α := Addr × Int × Int) (fun a => [.ref a.1]) (fun a H => TI H a.1 [a.2.1, a.2.2] ∧ 1 ≤ a.2.1 ∧ a.2.1 ≤ 1000 ∧ 1 ≤ a.2.2 ∧ a.2.2 ≤ 1000) (fun a H v H' => ∃ q, v = .ref q ∧ TI H' q [a.2.1.fdiv ((Nat.gcd a.2.1.natAbs a.2.2.natAbs : Nat) : Int), a.2.2.fdiv ((Nat.gcd a.2.1.natAbs a.2.2.natAbs : Nat) : Int)])
theorem c_fr (D : Df K mg "_law_fraction" (top 75)) (CG : Cal P w K mg base 1 "_law_gcd" ["_law_one", "_law_two"] spGc) : Cal P w K mg base 2 "_law_fraction" ["_law_part"] spFr := by
  refine mkC D nFr_ (fun _ _ _ _ _ _ us hl => match us, hl with | [_], _ => rfl) (fun _ => rfl) (fun f cdv A outer s H a Q E hr h k => ?_)
  obtain ⟨p, x, y⟩ := a
  obtain ⟨hp, x1, x2, y1, y2⟩ := h
  have hp0 : H p = some (.tup [.int x, .int y]) := hp
  have x1 : 1 ≤ x := x1
  have x2 : x ≤ 1000 := x2
  have y1 : 1 ≤ y := y1
  have y2 : y ≤ 1000 := y2
  have k : ∀ v H', Same H H' → (∃ q, v = .ref q ∧ TI H' q [x.fdiv ((Nat.gcd x.natAbs y.natAbs : Nat) : Int), y.fdiv ((Nat.gcd x.natAbs y.natAbs : Nat) : Int)]) → Q v H' := k
  refine ⟨_, pss_cons ((ps_set (i := 1) (FnScope.nd nFr_) rfl (Or.inl rfl) (pe_cl CG hr (pa_cons ((pe_ix ix_tup (pv 0) pe_int (fun _ _ => rfl))) (pa_cons ((pe_ix ix_tup (pv 0) pe_int (fun _ _ => rfl))) pa_nil)))))
    (pss_one (ps_ret (pe_tup (pa_cons (pe_op op_fdivX ((pe_ix ix_tup (pv 0) pe_int (fun _ _ => rfl))) (pv 1)) (pa_cons (pe_op op_fdivX ((pe_ix ix_tup (pv 0) pe_int (fun _ _ => rfl))) (pv 1)) pa_nil))))), ?_⟩
  refine ⟨_, rfl, p, _, _, _, rfl, rfl, SqT.of hp0, atI_nat (j := 0) rfl, _, rfl, p, _, _, _, rfl, rfl, SqT.of hp0, atI_nat (j := 1) rfl, (x, y), rfl, ⟨by show x.natAbs ≤ 100000; omega, by show y.natAbs ≤ 100000; omega⟩, ?_⟩
  rintro _ HX - ⟨rfl, eX⟩
  have eX : H = HX := (show HX = H from eX).symm
  subst eX
  have gp : 0 < Nat.gcd x.natAbs y.natAbs := Nat.gcd_pos_of_pos_left _ (by omega)
  have gl : Nat.gcd x.natAbs y.natAbs ≤ x.natAbs := Nat.gcd_le_left _ (by omega)
  have dv : ∀ i : Int, CDivX i ((Nat.gcd x.natAbs y.natAbs : Nat) : Int) := fun i => ⟨by omega, Nat.lt_of_lt_of_le (PySem.Flt.log2_lt_of (show 0 < 10 by decide) (show (((Nat.gcd x.natAbs y.natAbs : Nat) : Int)).natAbs < 2 ^ 10 by omega)) (by decide)⟩
  refine ⟨_, rfl, p, _, _, _, rfl, rfl, SqT.of hp0, atI_nat (j := 0) rfl, _, rfl, _, _, rfl, rfl, dv _, _, rfl, p, _, _, _, rfl, rfl, SqT.of hp0, atI_nat (j := 1) rfl, _, rfl, _, _, rfl, rfl, dv _, (by show 2 ≤ sizeLine; decide), fun q hq => ?_⟩
  exact k _ _ (same_new hq) ⟨q, rfl, upd_same⟩
abbrev nTx : List Str := ["_law_terms", "_law_rank_here", "_law_term"]
theorem nTx_ : FnScope nTx ["_law_terms", "_law_rank_here"] (defScope (top 76)) := (⟨rfl, rfl, rfl, by decide +kernel, rfl, by decide +kernel, by decide +kernel⟩)
abbrev spTxl : Sp := Prm (α := Addr × Int × List Int) (fun a => [.ref a.1, .int a.2.1]) (fun a H => LI H a.1 a.2.2 ∧ okTx a.2.1 a.2.2 = true) (fun a H v H' => v = .str (txL a.2.1 a.2.2))
theorem c_txl (D : Df K mg "_law_text" (top 76)) (B : Bl mg) : Cal P w K mg base 1 "_law_text" ["_law_terms", "_law_rank_here"] spTxl := by
  refine mkC D nTx_ (fun _ _ _ _ _ _ us hl => match us, hl with | [_, _], _ => rfl) (fun _ => rfl) (fun f cdv A outer s H a Q E hr h k => ?_)
  obtain ⟨p, r, xs⟩ := a
  obtain ⟨h, ok⟩ := h
  have h0 : H p = some (.lst (xs.map V.int)) := h
  have k : ∀ v H', Same H H' → v = .str (txL r xs) → Q v H' := k
  have ok : okTx r xs = true := ok
  unfold okTx at ok
  simp only [Bool.and_eq_true, decide_eq_true_eq] at ok
  obtain ⟨⟨⟨⟨⟨⟨⟨⟨o1, o2⟩, o3⟩, o4⟩, o5⟩, o6⟩, o7⟩, o8⟩, o9⟩ := ok
  have l2 : ∀ {i : Int}, i.natAbs < 2 ^ 1000 → i.natAbs.log2 < 1920 := fun {i} hi => Nat.lt_of_lt_of_le (PySem.Flt.log2_lt_of (show 0 < 1000 by decide) hi) (by decide)
  have sz : ∀ {n : Nat}, n ≤ 600 → n ≤ sizeLine := fun {n} hn => Nat.le_trans hn (by decide)
  have al : ∀ a b : Str, (a ++ b).length = a.length + b.length := fun a b => by rw [TL.len_tl, TL.len_tl, TL.len_tl, show TL.tl (a ++ b) = _ from TL.tl_append a b, List.length_append]
  have e1 : (Str.empty ++ Str.ofString "root ") = Str.ofString "root " := rfl
  rw [e1] at o5 o6 o7
  refine ⟨_, pss_one (ps_ret (pe_op op_add_str (pe_op op_add_str (pe_op op_add_str pe_str (pe_callTy call_str_int (by rfl) B.str_ PyProof.Rows.boot_str (pa_cons (pv 1) pa_nil))) pe_str) (pe_bm PySem.F.plainAttrs_str PySem.F.slot_str_join PySem.F.type_str_join mt_join pe_str (pa_cons
      (pe_lc (own := [("_law_term", 2)]) (g := gName 2) (tt := tYes) (te := tCB (fun xs H Q => ∃ i, xs = [.int i] ∧ i.natAbs.log2 < 1920 ∧ Q (.str (toString i)) H) (tCons (tVar 2) tNil)) rfl nTx_.nd (pi_list (pv 0))
        (blkOk_by (N := nTx) (sc := defScope (top 76)) (by decide +kernel)) (fun _ _ _ _ _ => (pg_name (i := 2) (FnScope.nd nTx_) rfl (Or.inl rfl))) (fun _ _ _ _ _ => pts_nil)
        (fun _ _ _ _ _ => pe_callTy call_str_int (by rfl) B.str_ PyProof.Rows.boot_str (pa_cons (pv 2) pa_nil))) pa_nil)))), ?_⟩
  have sl : (Str.ofString "root ").length + (W r).length ≤ sizeLine := by
    rw [← al]
    exact sz o6
  have sl2 : (Str.ofString "root " ++ W r).length + (Str.ofString " of ").length ≤ sizeLine := by
    rw [← al]
    exact sz o7
  refine ⟨_, rfl, r, rfl, l2 o1, _, _, rfl, rfl, sl, _, _, rfl, rfl, sl2, ?_⟩
  refine ⟨rfl, _, rfl, p, rfl, ⟨_, SqL.of h0⟩, fun D hD => lc_list (xs := xs.map V.int) (fun i H' => Same H H' ∧ H' D = some (.lst (((xs.take i).map W).map V.str))) ⟨same_new hD, upd_same⟩ (fun i H' _ e => SqL.of (e.1 _ _ h0)) (fun i x H' hx e => ?_) (fun H' e => ?_)⟩
  · obtain ⟨s2, e2⟩ := e
    obtain ⟨z, hz, rfl⟩ := at_map hx
    have li := lt_of_at hz
    have zz := List.all_eq_true.mp o2 z (List.mem_of_getElem? hz)
    refine ⟨rfl, _, rfl, z, rfl, l2 (of_decide_eq_true zz), _, e2, ?_, Same.put s2 hD, ?_⟩
    · rw [List.length_map, List.length_map, List.length_take]
      exact sz_lt (by omega)
    · rw [upd_same, List.take_succ, hz, List.map_append, List.map_append]
      rfl
  · obtain ⟨s2, e2⟩ := e
    rw [List.length_map, List.take_length] at e2
    refine ⟨_, D, xs.map W, rfl, rfl, .inl (SqL.of e2), o4, ?_⟩
    refine ⟨_, _, rfl, rfl, ?_, k _ _ s2 ?_⟩
    · rw [← al]
      have : txL r xs = (Str.ofString "root " ++ W r ++ Str.ofString " of ") ++ wordsL xs := rfl
      rw [show Txt.join (Str.ofString " ") (xs.map W) = wordsL xs from rfl, ← this]
      exact sz o8
    · rfl
end
end Xq
/-! The law's search for a linear part (k39). -/
namespace Xq
open PySem PySem.Spec PyProof.Rows L2
theorem sm_subN {a : Nat} {i j : Int} (h1 : Sm a i) (h2 : Sm a j) : Sm (a + 1) (i - j) := by
  have h1 : i.natAbs < 2 ^ a := h1
  have h2 : j.natAbs < 2 ^ a := h2
  show (i - j).natAbs < 2 ^ (a + 1)
  rw [Nat.pow_succ]
  omega
/-- the value at -d -/
def hn (d : Int) (ls : List Int) : Int := ls.foldr (fun x acc => x - d * acc) 0
theorem hn_app (d p q : Int) (pre : List Int) : hn d (pre ++ [p, q]) = hn d (pre ++ [p - q * d]) := by
  unfold hn
  rw [List.foldr_append, List.foldr_append]
  congr 1
  show p - d * (q - d * 0) = p - q * d - d * 0
  rw [Int.mul_zero, Int.sub_zero, Int.sub_zero, Int.mul_comm]
theorem split2 {ls : List Int} {m : Nat} (h : ls.length = m + 2) : ∃ pre p q, ls = pre ++ [p, q] ∧ pre.length = m := by
  rcases List.eq_nil_or_concat ls with e | ⟨a, q, e⟩
  · rw [e] at h
    simp at h
  · rcases List.eq_nil_or_concat a with e2 | ⟨pre, p, e2⟩
    · rw [e, e2] at h
      simp at h
    · refine ⟨pre, p, q, ?_, ?_⟩
      · rw [e, e2]
        simp
      · rw [e, e2] at h
        simp at h
        omega
theorem set_mid {α : Type} (v p : α) (t : List α) : ∀ pre : List α, (pre ++ p :: t).set pre.length v = pre ++ v :: t
  | [] => rfl
  | a :: pre => by
    show a :: (pre ++ p :: t).set pre.length v = _
    rw [set_mid v p t pre]
    rfl
theorem at_mid {α : Type} (p : α) (t : List α) : ∀ pre : List α, (pre ++ p :: t)[pre.length]? = some p
  | [] => rfl
  | a :: pre => at_mid p t pre
def gsT (pre : List Int) (p q d : Int) : Nat → List Int
  | 0 => pre ++ [p, q]
  | 1 => pre ++ [p - q * d, q]
  | _ => pre ++ [p - q * d, q - q * 1]
theorem gsT_len (pre : List Int) (p q d : Int) (i : Nat) : (gsT pre p q d i).length = pre.length + 2 := by
  unfold gsT
  split <;> rw [List.length_append] <;> rfl
def nzG (ps : List Int) : List Int := ps.filter fun x => !decide (x = 0)
theorem nzG_take {ps : List Int} {i : Nat} {z : Int} (h : ps[i]? = some z) : nzG (ps.take (i + 1)) = nzG (ps.take i) ++ (if z = 0 then [] else [z]) := by
  unfold nzG
  rw [List.take_succ, h, List.filter_append]
  congr 1
  by_cases c : z = 0
  · simp [c]
  · simp [c]
def wpN (n : Int) (i : Nat) : List Int := (List.range i).flatMap fun k : Nat => if n % ((k : Int) + 1) = 0 then [(k : Int) + 1, -((k : Int) + 1)] else []
def wpL (n : Int) : List Int := wpN n n.natAbs
theorem wpN_len (n : Int) : ∀ i, (wpN n i).length ≤ 2 * i
  | 0 => Nat.le_refl _
  | i + 1 => by
    have := wpN_len n i
    unfold wpN at *
    rw [List.range_succ, List.flatMap_append, List.length_append, List.flatMap_cons, List.flatMap_nil, List.append_nil]
    split
    · rw [show ([(i : Int) + 1, -((i : Int) + 1)] : List Int).length = 2 from rfl]
      omega
    · rw [List.length_nil]
      omega
theorem wpN_step (n : Int) (i : Nat) : wpN n (i + 1) = wpN n i ++ if n % ((i : Int) + 1) = 0 then [(i : Int) + 1, -((i : Int) + 1)] else [] := by
  unfold wpN
  rw [List.range_succ, List.flatMap_append, List.flatMap_cons, List.flatMap_nil, List.append_nil]
theorem wpL_abs {n d : Int} (h : d ∈ wpL n) : d.natAbs ≤ n.natAbs := by
  unfold wpL wpN at h
  obtain ⟨k, hk, hd⟩ := List.mem_flatMap.mp h
  have hk := List.mem_range.mp hk
  split at hd
  · simp only [List.mem_cons, List.not_mem_nil, or_false] at hd
    rcases hd with rfl | rfl <;> omega
  · simp at hd
section
variable {P : Program} {w : World} {K : PySem.W.Frag} {mg : Str → Option Value} {base : Heap} {C : Addr}
abbrev nGi : List Str := ["_law_terms", "_law_part", "_law_left", "_law_factor", "_law_shift", "_law_k", "_law_term"]
theorem nGi_ : FnScope nGi ["_law_terms", "_law_part"] (defScope (top 72)) := (⟨rfl, rfl, rfl, by decide +kernel, rfl, by decide +kernel, by decide +kernel⟩)
abbrev spGi : Sp := Prm (α := Addr × Addr × List Int × Int) (fun ⟨p, q, _⟩ => [.ref p, .ref q]) (fun ⟨p, q, xs, d⟩ H => LI H p xs ∧ LI H q [d, 1] ∧ xs.length = 4 ∧ (∀ x ∈ xs, Sm 10 x) ∧ Sm 5 d) (fun ⟨p, q, xs, d⟩ H v H' => v = .bl (decide (hn d xs = 0)))
theorem c_gi (D : Df K mg "_law_goes_in" (top 72)) (B : Bl mg) (wl : mg "list" = none) : Cal P w K mg base 1 "_law_goes_in" ["_law_terms", "_law_part"] spGi := by
  refine mkC D nGi_ (fun _ _ _ _ _ _ us hl => match us, hl with | [_, _], _ => rfl) (fun _ => rfl) (fun f cdv A outer s H a Q E hr h k => ?_)
  obtain ⟨p, q, xs, d⟩ := a
  obtain ⟨hp, hq, lx, sx, sd⟩ := h
  have hp : H p = some (.lst (xs.map V.int)) := hp
  have hq : H q = some (.lst [.int d, .int 1]) := hq
  have lx : xs.length = 4 := lx
  have sx : ∀ x ∈ xs, Sm 10 x := sx
  have sd : Sm 5 d := sd
  have k : ∀ v H', Same H H' → v = .bl (decide (hn d xs = 0)) → Q v H' := k
  have hu2 : (A.deeper (envOfC "_law_goes_in" (defScope (top 72)) s.heap.objs.size f cdv)).units + 64 < cLine := by have := hr.un; omega
  have big : 600 ≤ sizeLine := by decide
  refine ⟨_, pss_cons ((ps_set (i := 2) (FnScope.nd nGi_) rfl (Or.inl rfl) (pe_callTy call_list_of (by rfl) wl PyProof.Rows.boot_list (pa_cons (pv 0) pa_nil))))
    (pss_cons (ps_whI PassesOwn.never (pt_cmpR op_ge ((pe_callB call_len_seq (by rfl) (Bl.len_ B) PySem.boot_len (pa_cons (pv 2) pa_nil))) ((pe_callB call_len_seq (by rfl) (Bl.len_ B) PySem.boot_len (pa_cons (pv 1) pa_nil))) (nomark _))
      (pss_cons (ps_if ((pt_cmpR op_ne (pe_op op_mod (pe_callTy call_int1 (by rfl) B.int_ PyProof.Rows.boot_int (pa_cons ((pe_ix ix_list (pv 2) (pe_un un_neg pe_int) (fun _ _ => rfl))) pa_nil)) ((pe_ix ix_list (pv 1) (pe_un un_neg pe_int) (fun _ _ => rfl)))) pe_int (nomark _))) pss_nv pss_nil)
      (pss_cons (ps_par (i := 3) (j := 4) rfl nGi_.nd rfl rfl (by decide) rfl rfl (pa_cons (pe_op op_fdivX ((pe_ix ix_list (pv 2) (pe_un un_neg pe_int) (fun _ _ => rfl))) ((pe_ix ix_list (pv 1) (pe_un un_neg pe_int) (fun _ _ => rfl)))) (pa_cons (pe_op op_sub ((pe_callB call_len_seq (by rfl) (Bl.len_ B) PySem.boot_len (pa_cons (pv 2) pa_nil))) ((pe_callB call_len_seq (by rfl) (Bl.len_ B) PySem.boot_len (pa_cons (pv 1) pa_nil)))) pa_nil)) rfl)
      (pss_cons (ps_for PassesOwn.never rfl (pi_range1 (by rfl) B.range_ (pa_cons ((pe_callB call_len_seq (by rfl) (Bl.len_ B) PySem.boot_len (pa_cons (pv 1) pa_nil))) pa_nil)) ((pg_name (i := 5) (FnScope.nd nGi_) rfl (Or.inl rfl)))
        (pss_one (ps_asg (pe_op op_sub ((pe_ix ix_list (pv 2) (pe_op op_add (pv 4) (pv 5)) (fun _ _ => rfl))) (pe_op op_mulW (pv 3) ((pe_ix ix_list (pv 1) (pv 5) (fun _ _ => rfl))))) (pg_sub (pv 2) (pe_op op_add (pv 4) (pv 5)) set_list (fun _ => rfl)))))
      (pss_one (ps_expr (pe_bm0 PySem.F.plainAttrs_list PySem.F.slot_list_pop PySem.F.type_list_pop mt_pop (pv 2))))))))
    (pss_one (ps_ret (pe_cmpR (op_eqD hu2) (pe_lc (own := [("_law_term", 6)]) (g := gName 6) (tt := tTest (tOp rNe (tVar 6) (tC (.int 0)))) (te := tVar 6) rfl nGi_.nd (pi_list (pv 2))
          (blkOk_by (N := nGi) (sc := defScope (top 72)) (by decide +kernel)) (fun _ _ _ _ _ => (pg_name (i := 6) (FnScope.nd nGi_) rfl (Or.inl rfl))) (fun _ _ _ _ _ => pts_one ((pt_cmpR op_ne (pv 6) pe_int (nomark _))))
          (fun _ _ _ _ _ => pv 6)) (pe_lst pa_nil) (nomark _))))), ?_⟩
  have e0 : L2.start nGi [V.ref p, V.ref q] = [some (.ref p), some (.ref q), none, none, none, none, none] := rfl
  rw [e0]
  refine ⟨_, rfl, p, _, rfl, .inl (SqL.of hp), fun L hL => ?_⟩
  have s1 := same_new (o := .lst (xs.map V.int)) hL
  have e1 : upd H L (.lst (xs.map V.int)) L = some (.lst (xs.map V.int)) := upd_same
  have nq : q ≠ L := ne_of_none hq hL
  generalize upd H L (.lst (xs.map V.int)) = H1 at *
  refine ⟨fun m σ H' => ∃ (ls : List Int) (y3 y4 y5 : Option V), σ = [some (.ref p), some (.ref q), some (.ref L), y3, y4, y5, none] ∧ Same H H' ∧ H' L = some (.lst (ls.map V.int)) ∧ ls.length = m + 1 ∧ m ≤ 3 ∧ hn d ls = hn d xs ∧ (∀ x ∈ ls, Sm (10 + 6 * (3 - m)) x),
    ⟨3, xs, none, none, none, rfl, s1, e1, lx, by decide, rfl, fun x hx => sm_le (sx x hx) (by decide)⟩, ?_⟩
  rintro m σ H2 ⟨ls, y3, y4, y5, rfl, s2, eL, ll, m3, ev, sl⟩
  have hq2 := s2 _ _ hq
  refine ⟨_, rfl, L, _, rfl, .inl (SqL.of eL), _, rfl, q, _, rfl, .inl (SqL.of hq2), _, _, rfl, rfl, _, rfl, ?_⟩
  rw [List.length_map, ll]
  cases m with
  | zero =>
    rw [decide_eq_false (show ¬ (((0 + 1 : Nat) : Int) ≥ ((([V.int d, V.int 1] : List V).length : Nat) : Int)) by show ¬ ((1 : Int) ≥ 2); decide)]
    refine iteF ?_
    obtain ⟨y, rfl⟩ : ∃ y, ls = [y] := List.length_eq_one_iff.mp ll
    have ey : hn d [y] = y := by
      show y - d * 0 = y
      rw [Int.mul_zero, Int.sub_zero]
    rw [ey] at ev
    refine ⟨_, rfl, L, rfl, ⟨_, SqL.of eL⟩, fun D hD => lc_list (xs := ([y] : List Int).map V.int) (fun i H' => Same H2 H' ∧ H' D = some (.lst ((nzG (([y] : List Int).take i)).map V.int))) ⟨same_new hD, upd_same⟩ (fun i H' _ e => SqL.of (e.1 _ _ eL)) (fun i x H' hx e => ?_) (fun H3 e => ?_)⟩
    · obtain ⟨s3, e3⟩ := e
      obtain ⟨z, hz, rfl⟩ := at_map hx
      refine ⟨rfl, _, rfl, rfl, _, rfl, ?_⟩
      show (if (!decide (V.int z = V.int 0)) = true then _ else _)
      have et := nzG_take hz
      by_cases c : z = 0
      · rw [if_pos c, List.append_nil] at et
        rw [c, decide_eq_true rfl]
        refine iteF ⟨s3, ?_⟩
        rw [et]
        exact e3
      · rw [if_neg c] at et
        rw [decide_eq_false (fun w => c (V.int.inj w))]
        refine iteT ⟨_, rfl, _, e3, ?_, Same.put s3 hD, ?_⟩
        · rw [List.length_map]
          have ql := List.length_filter_le (fun x : Int => !decide (x = 0)) (([y] : List Int).take i)
          rw [List.length_take] at ql
          unfold nzG
          exact sz_lt (by simp at ql ⊢; omega)
        · rw [upd_same, et, List.map_append]
          rfl
    obtain ⟨s3, e3⟩ := e
    rw [List.length_map, List.take_length] at e3
    refine ⟨Nat.zero_le _, fun l4 hl4 => ?_⟩
    have y4' := same_new (o := .lst []) hl4
    have sA := s2.trans (s3.trans y4')
    by_cases c : y = 0
    · have e5 : nzG [y] = [] := by
        unfold nzG
        simp [c]
      rw [e5] at e3
      refine ⟨.list [], .list [], .lst (SqL.of (y4' _ _ e3)) .nil, .lst (SqL.of upd_same) .nil, rfl, rfl, k _ _ sA ?_⟩
      rw [decide_eq_true (show hn d xs = 0 by rw [← ev]; exact c)]
      rfl
    · have e5 : nzG [y] = [y] := by
        unfold nzG
        simp [c]
      rw [e5] at e3
      refine ⟨.list [.int y], .list [], .lst (SqL.of (y4' _ _ e3)) (.cons (.int y) .nil), .lst (SqL.of upd_same) .nil, rfl, rfl, k _ _ sA ?_⟩
      rw [decide_eq_false (show ¬ hn d xs = 0 by rw [← ev]; exact c)]
      rfl
  | succ m =>
    rw [decide_eq_true (show (((m + 1 + 1 : Nat) : Int) ≥ ((([V.int d, V.int 1] : List V).length : Nat) : Int)) by show ((m + 1 + 1 : Nat) : Int) ≥ 2; omega)]
    obtain ⟨pre, u, z, rfl, lp⟩ := split2 ll
    have su : Sm (10 + 6 * (3 - (m + 1))) u := sl u (by simp)
    have sz : Sm (10 + 6 * (3 - (m + 1))) z := sl z (by simp)
    have eP : ((pre ++ [u, z]).map V.int).length = m + 2 := by
      rw [List.length_map, List.length_append, lp]
      rfl
    have zl : (pre ++ [u, z]).getLastD 0 = z := by
      rw [List.getLastD_eq_getLast?]
      simp
    have aL : ∀ {Hx : Hp}, Hx L = some (.lst ((pre ++ [u, z]).map V.int)) → atI ((pre ++ [u, z]).map V.int) (-1) = some (V.int z) := fun {Hx} _ => by
      have := at_lastD (xs := pre ++ [u, z]) (by simp)
      rw [zl] at this
      exact this
    have dv : CDivX z 1 := ⟨by decide, by decide +kernel⟩
    refine iteT ⟨_, rfl, _, rfl, L, _, _, _, rfl, rfl, SqL.of eL, aL eL, .inl ⟨_, rfl, _, rfl, _, rfl, q, _, _, .int 1, rfl, rfl, SqL.of hq2, rfl, _, _, rfl, rfl, (show (0 : Int) < 1 by decide), rfl, _, rfl, ?_⟩⟩
    show (if (!decide (V.int (z % 1) = V.int 0)) = true then _ else _)
    rw [Int.emod_one, decide_eq_true rfl]
    refine iteF ⟨_, rfl, _, rfl, L, _, _, _, rfl, rfl, SqL.of eL, aL eL, _, rfl, _, rfl, q, _, _, .int 1, rfl, rfl, SqL.of hq2, rfl, _, _, rfl, rfl, dv, _, rfl, L, _, rfl, .inl (SqL.of eL), _, rfl, q, _, rfl, .inl (SqL.of hq2), _, _, rfl, rfl, _, _, rfl, ?_⟩
    have e2 : ((m + 2 : Nat) : Int) - ((([V.int d, V.int 1] : List V).length : Nat) : Int) = (m : Int) := by
      show ((m + 2 : Nat) : Int) - 2 = (m : Int)
      omega
    have L0 : H L = none := hL
    have sq : Sm 40 z := sm_le sz (by omega)
    refine ⟨_, rfl, q, _, rfl, .inl (SqL.of hq2), _, rfl, (by show -2 ^ 62 ≤ (2 : Int); decide), (by show (2 : Int) < 2 ^ 62; decide), for_range (n := 2) (fun i σ H' => Same H H' ∧ H' L = some (.lst ((gsT pre u z d i).map V.int)) ∧ ∃ y5 : Option V, σ = [some (.ref p), some (.ref q), some (.ref L), some (.int z), some (.int (m : Int)), y5, none]) ⟨s2, eL, y5, by
      show [some (V.ref p), some (.ref q), some (.ref L), some (.int (z.fdiv 1)), some (.int (((((pre ++ [u, z]).map V.int).length : Nat) : Int) - ((([V.int d, V.int 1] : List V).length : Nat) : Int))), y5, none] = _
      rw [Int.fdiv_one, eP, e2]⟩ ?_ ?_⟩
    · rintro i σ H3 hi ⟨s3, e3, y5, rfl⟩
      have hq3 := s3 _ _ hq
      have lw : ((gsT pre u z d i).map V.int).length = m + 2 := by rw [List.length_map, gsT_len, lp]
      have ea : (m : Int) + (0 + (i : Int)) = ((m + i : Nat) : Int) := by omega
      obtain ⟨v, pj, hv, hpj, sv, spj, hs⟩ : ∃ v pj : Int, ((gsT pre u z d i).map V.int)[m + i]? = some (V.int v) ∧ ([V.int d, V.int 1] : List V)[i]? = some (V.int pj) ∧ True ∧ Sm 5 pj ∧ ((gsT pre u z d i).map V.int).set (m + i) (V.int (v - z * pj)) = (gsT pre u z d (i + 1)).map V.int := by
        rcases (show i = 0 ∨ i = 1 by omega) with rfl | rfl
        · refine ⟨u, d, ?_, rfl, trivial, sd, ?_⟩
          · show ((pre ++ [u, z]).map V.int)[m + 0]? = _
            rw [List.getElem?_map, Nat.add_zero, ← lp, at_mid]
            rfl
          · show ((pre ++ [u, z]).map V.int).set (m + 0) _ = (pre ++ [u - z * d, z]).map V.int
            rw [set_map, Nat.add_zero, ← lp, set_mid]
        · refine ⟨z, 1, ?_, rfl, trivial, by decide, ?_⟩
          · show ((pre ++ [u - z * d, z]).map V.int)[m + 1]? = _
            have e : pre ++ [u - z * d, z] = (pre ++ [u - z * d]) ++ [z] := by simp
            have e9 : m + 1 = (pre ++ [u - z * d]).length := by rw [List.length_append, lp]; rfl
            rw [List.getElem?_map, e, e9, at_mid]
            rfl
          · show ((pre ++ [u - z * d, z]).map V.int).set (m + 1) _ = (pre ++ [u - z * d, z - z * 1]).map V.int
            have e : pre ++ [u - z * d, z] = (pre ++ [u - z * d]) ++ [z] := by simp
            have e9 : m + 1 = (pre ++ [u - z * d]).length := by rw [List.length_append, lp]; rfl
            rw [set_map, e, e9, set_mid]
            simp
      have hpj' : atI ([V.int d, V.int 1] : List V) (0 + (i : Int)) = some (V.int pj) := by
        rw [Int.zero_add]
        exact atI_nat hpj
      refine ⟨_, rfl, _, rfl, _, rfl, _, _, rfl, rfl, L, _, _, _, rfl, rfl, SqL.of e3, (by rw [ea]; exact atI_nat hv), _, rfl, _, rfl, _, rfl, q, _, _, _, rfl, rfl, SqL.of hq3, hpj', _, _, rfl, rfl, cm (show Sm 400000 z from sm_le sq (by decide)) (show Sm 400000 pj from sm_le spj (by decide)), _, _, rfl, rfl, ?_⟩
      refine ⟨_, rfl, _, rfl, _, rfl, _, _, rfl, rfl, L, _, _, m + i, rfl, rfl, e3, (by rw [ea]; exact ixN_nat (by rw [lw]; omega)), ?_⟩
      refine ⟨Same.put s3 L0, ?_, _, rfl⟩
      rw [upd_same, hs]
    · rintro σ H3 ⟨s3, e3, y5, rfl⟩
      have e3 : H3 L = some (.lst ((pre ++ [u - z * d, z - z * 1]).map V.int)) := e3
      have el : ((pre ++ [u - z * d, z - z * 1]).map V.int)[((pre ++ [u - z * d, z - z * 1]).map V.int).length - 1]? = some (V.int (z - z * 1)) := by
        have e : pre ++ [u - z * d, z - z * 1] = (pre ++ [u - z * d]) ++ [z - z * 1] := by simp
        rw [e, List.length_map, List.getElem?_map, List.length_append, show ([z - z * 1] : List Int).length = 1 from rfl, Nat.add_sub_cancel, at_mid]
        rfl
      refine ⟨_, rfl, .inl ⟨rfl, _, SqL.of e3⟩, L, _, _, rfl, rfl, e3, el, ?_⟩
      have ed : ((pre ++ [u - z * d, z - z * 1]).map V.int).dropLast = (pre ++ [u - z * d]).map V.int := by
        have e : pre ++ [u - z * d, z - z * 1] = (pre ++ [u - z * d]) ++ [z - z * 1] := by simp
        rw [e, List.map_append]
        show (List.map V.int (pre ++ [u - z * d]) ++ [V.int (z - z * 1)]).dropLast = _
        rw [List.dropLast_concat]
      rw [ed]
      refine ⟨m, Nat.lt_succ_self m, pre ++ [u - z * d], _, _, _, rfl, Same.put s3 L0, upd_same, by rw [List.length_append, lp]; rfl, by omega, ?_, fun x hx => ?_⟩
      · rw [← hn_app]
        exact ev
      · rcases List.mem_append.mp hx with hx | hx
        · exact sm_le (sl x (List.mem_append_left _ hx)) (by omega)
        · rw [List.mem_singleton.mp hx]
          exact sm_le (sm_subN (a := 10 + 6 * (3 - (m + 1)) + 5) (sm_le su (by omega)) (sm_mul sz sd)) (by omega)
theorem nWp_ : FnScope ["_law_number", "_law_found", "_law_k"] ["_law_number"] (defScope (top 73)) := (⟨rfl, rfl, rfl, by decide +kernel, rfl, by decide +kernel, by decide +kernel⟩)
abbrev spWp : Sp := Prm (α := Int) (fun n => [.int n]) (fun n _ => n.natAbs ≤ 1000) (fun n H v H' => ∃ q, v = .ref q ∧ LI H' q (wpL n))
theorem c_wp (D : Df K mg "_law_whole_parts" (top 73)) (B : Bl mg) : Cal P w K mg base 1 "_law_whole_parts" ["_law_number"] spWp := by
  refine mkC D nWp_ (fun _ _ _ _ _ _ us hl => match us, hl with | [_], _ => rfl) (fun _ => rfl) (fun f cdv A outer s H n Q E hr hn k => ?_)
  have hn : n.natAbs ≤ 1000 := hn
  have k : ∀ v H', Same H H' → (∃ q, v = .ref q ∧ LI H' q (wpL n)) → Q v H' := k
  have big : 3000 ≤ sizeLine := by decide
  refine ⟨_, pss_cons ((ps_set (i := 1) (FnScope.nd nWp_) rfl (Or.inl rfl) (pe_lst pa_nil)))
    (pss_cons (ps_for PassesOwn.never rfl (pi_range2 (by rfl) B.range_ (pa_cons pe_int (pa_cons (pe_op op_add (pe_callB call_abs (by rfl) B.abs_ PyProof.Rows.boot_abs (pa_cons (pv 0) pa_nil)) pe_int) pa_nil))) ((pg_name (i := 2) (FnScope.nd nWp_) rfl (Or.inl rfl)))
      (pss_one (ps_if ((pt_cmpR op_eq (pe_op op_mod (pe_callTy call_int1 (by rfl) B.int_ PyProof.Rows.boot_int (pa_cons (pv 0) pa_nil)) (pv 2)) pe_int (nomark _)))
        (pss_one ((ps_set (i := 1) (FnScope.nd nWp_) rfl (Or.inl rfl) (pe_op op_cat (pv 1) (pe_lst (pa_cons (pv 2) (pa_cons (pe_un un_neg (pv 2)) pa_nil))))))) pss_nil)))
    (pss_one (ps_ret (pv 1)))), ?_⟩
  have eabs : (if n < 0 then -n else n) = (n.natAbs : Int) := by split <;> omega
  refine ⟨Nat.zero_le _, fun L hL => ?_⟩
  have y := same_new (o := .lst []) hL
  have eL : upd H L (.lst []) L = some (.lst []) := upd_same
  dsimp only
  generalize upd H L (.lst []) = H1 at *
  refine ⟨_, rfl, _, rfl, _, _, rfl, rfl, 1, (if n < 0 then -n else n) + 1, rfl, ⟨by decide, by decide, by omega, by omega⟩, ?_⟩
  rw [show ((if n < 0 then -n else n) + 1 - 1).toNat = n.natAbs by omega]
  refine for_range (lo := 1) (n := n.natAbs) (fun i σ H' => Same H H' ∧ ∃ (l : Addr) (z : Option V), H' l = some (.lst ((wpN n i).map V.int)) ∧ σ = [some (.int n), some (.ref l), z]) ⟨y, L, none, eL, rfl⟩ ?_ ?_
  · rintro i σ H2 hi ⟨s2, l, z, el, rfl⟩
    have ei : (1 : Int) + (i : Int) = (i : Int) + 1 := Int.add_comm _ _
    refine ⟨_, rfl, .inl ⟨_, rfl, _, rfl, _, _, rfl, rfl, (show (0 : Int) < 1 + (i : Int) by omega), rfl, _, rfl, ?_⟩⟩
    have st := wpN_step n i
    rw [ei]
    by_cases c : n % ((i : Int) + 1) = 0
    · rw [decide_eq_true (show V.int (n % ((i : Int) + 1)) = V.int 0 by rw [c])]
      rw [if_pos c] at st
      refine iteT ⟨_, rfl, _, rfl, _, rfl, _, rfl, (by show 2 ≤ sizeLine; omega), fun l2 hl2 => ?_⟩
      have y2 := same_new (o := .lst [.int ((i : Int) + 1), .int (-((i : Int) + 1))]) hl2
      have e2 : upd H2 l2 (.lst [.int ((i : Int) + 1), .int (-((i : Int) + 1))]) l2 = some (.lst [.int ((i : Int) + 1), .int (-((i : Int) + 1))]) := upd_same
      generalize upd H2 l2 (.lst [.int ((i : Int) + 1), .int (-((i : Int) + 1))]) = H3 at *
      refine ⟨l, l2, _, _, rfl, rfl, y2 _ _ el, e2, ?_, fun l3 hl3 => ?_⟩
      · rw [List.length_map]
        have := wpN_len n i
        show (wpN n i).length + 2 ≤ sizeLine
        omega
      refine ⟨s2.trans (y2.trans (same_new hl3)), l3, _, ?_, rfl⟩
      rw [upd_same, st, List.map_append]
      rfl
    · rw [decide_eq_false (show ¬ V.int (n % ((i : Int) + 1)) = V.int 0 from fun w => c (V.int.inj w))]
      rw [if_neg c, List.append_nil] at st
      exact iteF ⟨s2, l, _, by rw [st]; exact el, rfl⟩
  · rintro σ H2 ⟨s2, l, z, el, rfl⟩
    exact ⟨_, rfl, k _ _ s2 ⟨l, rfl, el⟩⟩
end
end Xq
/-! The cubic equations that the law draws, one by one. -/
namespace Xq
open PySem
def c3 (a b c : Nat) : List Int := [-(c : Int), (b : Int), -(a : Int), 1]
def c3r (a b c : Nat) : List Int := [-1, (a : Int), -(b : Int), (c : Int)]
/-- an integer root from 1 to 30 -/
def spl3 (a b c : Nat) : Bool := (List.range 30).any fun k => decide (((k : Int) + 1) * ((k : Int) + 1) * ((k : Int) + 1) - a * (((k : Int) + 1) * ((k : Int) + 1)) + b * ((k : Int) + 1) - c = 0)
def tw (a b c : Nat) (xs : List Int) : Bool := okTN 0 xs && okStr xs 0 && okX xs && decide (decide ((stpX xs).length = xs.length - 1) = decide (c < a * b))
def tb (a b c : Nat) : Bool := spl3 a b c || (tw a b c (c3 a b c) && tw a b c (c3r a b c) && (decide (a * b ≤ c) || decide ((stpX (c3 a b c)).head? = some (1, (a : Int)))))
def ta (a : Nat) : Bool := (List.range 9).all fun b => (List.range 30).all fun c => tb a (b + 1) (c + 1)
end Xq
/-! The law's search for factors, of cubic equations (k39). -/
namespace Xq
open PySem PySem.Spec PyProof.Rows L2
def spB (xs : List Int) : Bool := (wpL (xs.getD 0 0)).any fun d => decide (hn d xs = 0)
theorem spl_no {a b c : Nat} (c1 : 1 ≤ c) (h : spB (c3 a b c) = false) : spl3 a b c = false := by
  rw [Bool.eq_false_iff]
  intro h2
  obtain ⟨k, hk, hz⟩ := List.any_eq_true.mp h2
  have hz := of_decide_eq_true hz
  have hk := List.mem_range.mp hk
  -- k + 1 divides c
  have dv : ((k : Int) + 1) ∣ (c : Int) := ⟨((k : Int) + 1) * ((k : Int) + 1) - a * ((k : Int) + 1) + b, by grind⟩
  have le : (k : Int) + 1 ≤ (c : Int) := Int.le_of_dvd (by omega) dv
  have mem : -((k : Int) + 1) ∈ wpL ((c3 a b c).getD 0 0) := by
    show -((k : Int) + 1) ∈ wpL (-(c : Int))
    unfold wpL wpN
    refine List.mem_flatMap.mpr ⟨k, List.mem_range.mpr (by omega), ?_⟩
    have e : (-(c : Int)) % ((k : Int) + 1) = 0 := Int.emod_eq_zero_of_dvd (Int.dvd_neg.mpr dv)
    rw [if_pos e]
    simp
  have q := List.any_eq_false.mp h _ mem
  apply q
  refine decide_eq_true ?_
  show -(c : Int) - -((k : Int) + 1) * ((b : Int) - -((k : Int) + 1) * (-(a : Int) - -((k : Int) + 1) * (1 - -((k : Int) + 1) * 0))) = 0
  grind
section
variable {P : Program} {w : World} {K : PySem.W.Frag} {mg : Str → Option Value} {base : Heap} {C : Addr}
abbrev nSs : List Str := ["_law_terms", "_law_lead", "_law_last", "_law_middle"]
theorem nSs_ : FnScope nSs ["_law_terms"] (defScope (top 74)) := (⟨rfl, rfl, rfl, by decide +kernel, rfl, by decide +kernel, by decide +kernel⟩)
abbrev spSs : Sp := Prm (α := Addr × List Int) (fun a => [.ref a.1]) (fun a H => LI H a.1 a.2 ∧ a.2.length = 4 ∧ (∀ x ∈ a.2, Sm 10 x) ∧ a.2.getLastD 0 = 1 ∧ (a.2.getD 0 0).natAbs ≤ 30) (fun a H v H' => v = .bl (spB a.2))
theorem c_ss (D : Df K mg "_law_splits" (top 74)) (B : Bl mg) (CW : Cal P w K mg base 1 "_law_whole_parts" ["_law_number"] spWp) (CG : Cal P w K mg base 1 "_law_goes_in" ["_law_terms", "_law_part"] spGi) : Cal P w K mg base 2 "_law_splits" ["_law_terms"] spSs := by
  refine mkC D nSs_ (fun _ _ _ _ _ _ us hl => match us, hl with | [_], _ => rfl) (fun _ => rfl) (fun f cdv A outer s H a Q E hr h k => ?_)
  obtain ⟨p, xs⟩ := a
  obtain ⟨hp, lx, sx, l1, x30⟩ := h
  have hp : H p = some (.lst (xs.map V.int)) := hp
  have lx : xs.length = 4 := lx
  have sx : ∀ x ∈ xs, Sm 10 x := sx
  have l1 : xs.getLastD 0 = 1 := l1
  have x30 : (xs.getD 0 0).natAbs ≤ 30 := x30
  have k : ∀ v H', Same H H' → v = .bl (spB xs) → Q v H' := k
  have lm : ((xs.map V.int).length : Nat) = 4 := by rw [List.length_map, lx]
  refine ⟨_, pss_cons (ps_for PassesOwn.never rfl (pi_list (pe_cl CW hr (pa_cons ((pe_ix ix_list (pv 0) (pe_un un_neg pe_int) (fun _ _ => rfl))) pa_nil))) ((pg_name (i := 1) (FnScope.nd nSs_) rfl (Or.inl rfl)))
      (pss_one (ps_for PassesOwn.never rfl (pi_list (pe_cl CW hr (pa_cons ((pe_ix ix_list (pv 0) pe_int (fun _ _ => rfl))) pa_nil))) ((pg_name (i := 2) (FnScope.nd nSs_) rfl (Or.inl rfl)))
        (pss_cons (ps_if (PW.pt (pw_and ((pt_cmpR op_gt (pv 1) pe_int (nomark _))) (pw_and ((pt_cmpR op_gt ((pe_callB call_len_seq (by rfl) (Bl.len_ B) PySem.boot_len (pa_cons (pv 0) pa_nil))) pe_int (nomark _))) (pw_and1 (pt_val (pe_cl CG hr (pa_cons (pv 0) (pa_cons (pe_lst (pa_cons (pv 2) (pa_cons (pv 1) pa_nil))) pa_nil)))))))) (pss_one (ps_ret pe_bl)) pss_nil)
        (pss_one (ps_for PassesOwn.never rfl (pi_range2 (by rfl) B.range_ (pa_cons (pe_un un_neg pe_int) (pa_cons pe_int pa_nil))) ((pg_name (i := 3) (FnScope.nd nSs_) rfl (Or.inl rfl)))
          (pss_one (ps_if (PW.pt (pw_and ((pt_cmpR op_gt (pv 1) pe_int (nomark _))) (pw_and ((pt_cmpR op_gt ((pe_callB call_len_seq (by rfl) (Bl.len_ B) PySem.boot_len (pa_cons (pv 0) pa_nil))) pe_int (nomark _))) (pw_and1 (pt_val (pe_cl CG hr (pa_cons (pv 0) (pa_cons (pe_lst (pa_cons (pv 2) (pa_cons (pv 3) (pa_cons (pv 1) pa_nil)))) pa_nil)))))))) pss_nv pss_nil))))))))
    (pss_one (ps_ret pe_bl)), ?_⟩
  have e0 : L2.start nSs [V.ref p] = [some (.ref p), none, none, none] := rfl
  rw [e0]
  refine ⟨_, rfl, _, rfl, p, _, _, _, rfl, rfl, SqL.of hp, at_lastD (by omega), xs.getLastD 0, rfl, by show (xs.getLastD 0).natAbs ≤ 1000; rw [l1]; decide, ?_⟩
  rintro _ H1 s1 ⟨q1, rfl, hq1⟩
  have hq1 : H1 q1 = some (.lst ((wpL (xs.getLastD 0)).map V.int)) := hq1
  rw [l1] at hq1
  have w1 : wpL 1 = [1, -1] := rfl
  rw [w1] at hq1
  refine ⟨q1, rfl, ⟨_, SqL.of hq1⟩, for_list (xs := ([1, -1] : List Int).map V.int) (fun i σ H' => Same H1 H' ∧ (1 ≤ i → spB xs = false) ∧ ∃ z1 z2 z3 : Option V, σ = [some (.ref p), z1, z2, z3]) ⟨Same.refl _, fun z => absurd z (by decide), _, _, _, rfl⟩ (fun i σ H' _ e => SqL.of (e.1 _ _ hq1)) ?_ ?_⟩
  · rintro i x σ H2 hx ⟨s2, hi, z1, z2, z3, rfl⟩
    obtain ⟨ld, hld, rfl⟩ := at_map hx
    have lds : (i = 0 ∧ ld = 1) ∨ (1 ≤ i ∧ ld = -1) := by
      rcases i with _ | _ | i
      · exact .inl ⟨rfl, (Option.some.inj hld).symm⟩
      · exact .inr ⟨by omega, (Option.some.inj hld).symm⟩
      · simp at hld
    have s12 := s1.trans s2
    have hp2 := s12 _ _ hp
    refine ⟨_, rfl, p, _, _, _, rfl, rfl, SqL.of hp2, atI_nat (j := 0) (getD_map (by omega)), xs.getD 0 0, rfl, by show (xs.getD 0 0).natAbs ≤ 1000; omega, ?_⟩
    rintro _ H3 s3 ⟨q2, rfl, hq2⟩
    have hq2 : H3 q2 = some (.lst ((wpL (xs.getD 0 0)).map V.int)) := hq2
    have s13 := s12.trans s3
    have s23 := s2.trans s3
    refine ⟨q2, rfl, ⟨_, SqL.of hq2⟩, for_list (xs := (wpL (xs.getD 0 0)).map V.int) (fun j σ H' => Same H3 H' ∧ (ld = 1 → ∀ d ∈ (wpL (xs.getD 0 0)).take j, hn d xs ≠ 0) ∧ ∃ z2 z3 : Option V, σ = [some (.ref p), some (.int ld), z2, z3]) ⟨Same.refl _, fun _ d hd => by simp at hd, _, _, rfl⟩ (fun i σ H' _ e => SqL.of (e.1 _ _ hq2)) ?_ ?_⟩
    · rintro j y σ H4 hy ⟨s4, hj, z2, z3, rfl⟩
      obtain ⟨d, hd, rfl⟩ := at_map hy
      have dm := List.mem_of_getElem? hd
      have da := wpL_abs dm
      have s14 := s13.trans s4
      have hp4 := s14 _ _ hp
      -- the second loop finds nothing
      have tail : ∀ (H5 : Hp), Same H3 H5 → (ld = 1 → hn d xs ≠ 0) → ∀ z3 : Option V, ∃ W : Nat → Nat → L2.St → Hp → Prop, (∃ m, W 0 m [some (.ref p), some (.int ld), some (.int d), z3] H5) ∧ True := fun _ _ _ _ => ⟨fun _ _ _ _ => True, ⟨0, trivial⟩, trivial⟩
      clear tail
      have fin : ∀ (H5 : Hp), Same H3 H5 → (ld = 1 → hn d xs ≠ 0) → Same H3 H5 ∧ (ld = 1 → ∀ d ∈ (wpL (xs.getD 0 0)).take (j + 1), hn d xs ≠ 0) := fun H5 s5 hz => ⟨s5, fun e x hx => by
        rw [List.take_succ, hd] at hx
        rcases List.mem_append.mp hx with hx | hx
        · exact hj e x hx
        · have : x = d := by simpa using hx
          rw [this]
          exact hz e⟩
      rcases lds with ⟨rfl, rfl⟩ | ⟨i1, rfl⟩
      · refine ⟨_, rfl, _, _, rfl, rfl, _, rfl, ?_⟩
        rw [decide_eq_true (show (1 : Int) > 0 by decide)]
        refine iteT ⟨_, rfl, p, _, rfl, .inl (SqL.of hp4), _, _, rfl, rfl, _, rfl, ?_⟩
        rw [lm, decide_eq_true (show (((4 : Nat) : Int) > 2) by decide)]
        refine iteT ⟨_, rfl, _, rfl, _, rfl, (by show 2 ≤ sizeLine; decide), fun pl hpl => ?_⟩
        have y5 := same_new (o := .lst [.int d, .int 1]) hpl
        have e5 : LI (upd H4 pl (.lst [.int d, .int 1])) pl [d, 1] := upd_same
        generalize upd H4 pl (.lst [.int d, .int 1]) = H5 at *
        refine ⟨(p, pl, xs, d), rfl, ⟨y5 _ _ hp4, e5, lx, sx, Nat.lt_of_le_of_lt (show d.natAbs ≤ 30 by omega) (by decide)⟩, ?_⟩
        rintro _ H6 s6 rfl
        have s36 := s4.trans (y5.trans s6)
        refine ⟨_, rfl, ?_⟩
        by_cases c : hn d xs = 0
        · rw [decide_eq_true c]
          refine iteT (k _ _ (s13.trans s36) ?_)
          unfold spB
          rw [List.any_eq_true.mpr ⟨d, dm, decide_eq_true c⟩]
        · rw [decide_eq_false c]
          refine iteF ⟨_, rfl, _, _, rfl, ⟨by decide, by decide, by decide, by decide⟩, ?_⟩
          refine for_range (lo := -40) (n := 81) (fun i σ H' => H' = H6 ∧ ∃ z3 : Option V, σ = [some (.ref p), some (.int 1), some (.int d), z3]) ⟨rfl, _, rfl⟩ ?_ ?_
          · rintro i' σ H' hi' ⟨rfl, z3, rfl⟩
            have hp6 := (s13.trans s36) _ _ hp
            refine ⟨_, rfl, _, _, rfl, rfl, _, rfl, ?_⟩
            rw [decide_eq_true (show (1 : Int) > 0 by decide)]
            refine iteT ⟨_, rfl, p, _, rfl, .inl (SqL.of hp6), _, _, rfl, rfl, _, rfl, ?_⟩
            rw [lm, decide_eq_false (show ¬ (((4 : Nat) : Int) > 4) by decide)]
            exact iteF (iteF ⟨rfl, _, rfl⟩)
          · rintro σ H' ⟨rfl, z3, rfl⟩
            obtain ⟨f1, f2⟩ := fin H' s36 (fun _ => c)
            exact ⟨f1, f2, _, _, rfl⟩
      · refine ⟨_, rfl, _, _, rfl, rfl, _, rfl, ?_⟩
        rw [decide_eq_false (show ¬ (-1 : Int) > 0 by decide)]
        refine iteF (iteF ⟨_, rfl, _, _, rfl, ⟨by decide, by decide, by decide, by decide⟩, ?_⟩)
        refine for_range (lo := -40) (n := 81) (fun i σ H' => H' = H4 ∧ ∃ z3 : Option V, σ = [some (.ref p), some (.int (-1)), some (.int d), z3]) ⟨rfl, _, rfl⟩ ?_ ?_
        · rintro i' σ H' hi' ⟨rfl, z3, rfl⟩
          refine ⟨_, rfl, _, _, rfl, rfl, _, rfl, ?_⟩
          rw [decide_eq_false (show ¬ (-1 : Int) > 0 by decide)]
          exact iteF (iteF ⟨rfl, _, rfl⟩)
        · rintro σ H' ⟨rfl, z3, rfl⟩
          obtain ⟨f1, f2⟩ := fin H' s4 (fun e => absurd e (by decide))
          exact ⟨f1, f2, _, _, rfl⟩
    · rintro σ H4 ⟨s4, hj, z2, z3, rfl⟩
      rw [List.length_map, List.take_length] at hj
      refine ⟨s23.trans s4, fun _ => ?_, _, _, _, rfl⟩
      rcases lds with ⟨rfl, rfl⟩ | ⟨i1, rfl⟩
      · unfold spB
        rw [List.any_eq_false]
        intro d hd c
        exact hj rfl d hd (of_decide_eq_true c)
      · exact hi i1
  · rintro σ H2 ⟨s2, hi, z1, z2, z3, rfl⟩
    refine k _ _ (s1.trans s2) ?_
    rw [hi (by show 1 ≤ 2; decide)]
end
end Xq
/-! What is compared as text: lists of ints and of tuples of ints. -/
namespace Xq
open PySem PySem.Spec PyProof.Rows L2 Xk
/-- an int, or a tuple of ints, as data -/
inductive S1 (H : Hp) : V → PyData → Prop
  | int (i : Int) : S1 H (.int i) (.int i)
  | tup {p : Addr} {xs : List Int} : TI H p xs → S1 H (.ref p) (.tuple (xs.map PyData.int))
inductive SA (H : Hp) : List V → List PyData → Prop
  | nil : SA H [] []
  | cons {v : V} {vs : List V} {d : PyData} {ds : List PyData} : S1 H v d → SA H vs ds → SA H (v :: vs) (d :: ds)
theorem S1.same {H H' : Hp} (s : Same H H') {v : V} {d : PyData} : S1 H v d → S1 H' v d
  | .int i => .int i
  | .tup h => .tup (TI.same s h)
theorem SA.same {H H' : Hp} (s : Same H H') : ∀ {vs : List V} {ds : List PyData}, SA H vs ds → SA H' vs ds
  | _, _, .nil => .nil
  | _, _, .cons a b => .cons (a.same s) (SA.same s b)
theorem SA.snoc {H : Hp} {v : V} {d : PyData} (h : S1 H v d) : ∀ {vs : List V} {ds : List PyData}, SA H vs ds → SA H (vs ++ [v]) (ds ++ [d])
  | _, _, .nil => .cons h .nil
  | _, _, .cons a b => .cons a (SA.snoc h b)
theorem nd_ints (xs : List Int) : PyData.hasDictAll (xs.map PyData.int) = false := by
  induction xs with
  | nil => rfl
  | cons x r ih =>
    show (PyData.hasDict (.int x) || PyData.hasDictAll (r.map PyData.int)) = false
    rw [ih]
    rfl
theorem S1.nd {H : Hp} {v : V} {d : PyData} (h : S1 H v d) : d.hasDict = false := by
  cases h with
  | int i => rfl
  | @tup p xs _ =>
    exact nd_ints xs
theorem SA.nd {H : Hp} : ∀ {vs : List V} {ds : List PyData}, SA H vs ds → PyData.hasDictAll ds = false
  | _, _, .nil => rfl
  | _, _, @SA.cons _ v vs d ds a b => by
    show (d.hasDict || PyData.hasDictAll ds) = false
    rw [a.nd, SA.nd b]
    rfl
section
variable {X : Cx} {pins : List (Addr × Obj)} {σ : L2.St} {H : Hp} {s : Shared}
theorem S1.reads (I : Inv X pins σ H s) {v : V} {d : PyData} {u : Value} (h : S1 H v d) (r : RelV v u) : ∃ as, Reads s.heap u d as := by
  cases h with
  | int i =>
    obtain ⟨t, rfl⟩ := r
    exact ⟨_, Reads.int i t⟩
  | @tup p xs e =>
    cases r
    obtain ⟨_, its, rv, o, ho, hc, n, hd⟩ := (show ObjOk X.prog X.w H s.heap p (.tup (xs.map V.int)) from I.hok p _ e)
    exact ⟨_, Reads.tuple ho hc hd (ints_reads _ _ rv)⟩
theorem SA.reads (I : Inv X pins σ H s) : ∀ {vs : List V} {ds : List PyData} {us : List Value}, SA H vs ds → Vals vs us → ∃ as, ReadsAll s.heap us ds as
  | _, _, _, .nil, r => by
    cases r
    exact ⟨_, ReadsAll.nil⟩
  | _, _, _, .cons a b, r => by
    cases r with
    | cons r1 r2 =>
      obtain ⟨as, q1⟩ := S1.reads I a r1
      obtain ⟨bs, q2⟩ := SA.reads I b r2
      exact ⟨_, ReadsAll.cons q1 q2⟩
end
/-- what may stand in a list that is shown -/
structure It1 (d : PyData) : Prop where
  sh : d.showable = true
  dp : d.depth ≤ 3
  ln : d.shown.length ≤ 3000
/-- a list of such is shown -/
structure Sho (d : PyData) : Prop where
  sh : d.showable = true
  dp : d.depth ≤ 20
  ln : d.shown.length ≤ sizeLine
theorem it_int {i : Int} (h : Sm 600 i) : It1 (.int i) := by
  have l : i.natAbs.log2 < 600 := PySem.Flt.log2_lt_of (by decide) h
  refine ⟨?_, by simp [PyData.depth], ?_⟩
  · simp only [PyData.showable]
    exact decide_eq_true (Nat.lt_trans l (by decide))
  · have q := PySem.int_text_length_le (a := i) (k := 600) (by decide) l
    have e : (PyData.int i).shown = Str.ofString (toString i) := rfl
    rw [e, PySem.ofString_length]
    omega
theorem all_it : ∀ ds : List PyData, (∀ d ∈ ds, It1 d) → PyData.showableAll ds = true ∧ PyData.depthAll ds ≤ 4 ∧ ((PyData.shownAll ds).map (·.length)).sum ≤ 3000 * ds.length ∧ (PyData.shownAll ds).length = ds.length
  | [], _ => ⟨rfl, by simp [PyData.depthAll], by simp [PyData.shownAll], rfl⟩
  | d :: ds, h => by
    obtain ⟨a, b, c, e⟩ := all_it ds fun x hx => h x (List.mem_cons_of_mem _ hx)
    have hd := h d (List.mem_cons_self ..)
    refine ⟨?_, ?_, ?_, ?_⟩
    · show (d.showable && PyData.showableAll ds) = true
      rw [hd.sh, a]
      rfl
    · have := hd.dp
      simp only [PyData.depthAll]
      omega
    · have := hd.ln
      simp only [PyData.shownAll, List.map_cons, List.sum_cons, List.length_cons]
      omega
    · simp only [PyData.shownAll, List.length_cons, e]
/-- a def where no repr is under way -/
structure CalG (P : Program) (w : World) (K : PySem.W.Frag) (mg : Str → Option Value) (base : Heap) (k : Nat) (x : Str) (ps : List Str) (sp : Sp) : Prop where
  ex : ∃ f fd, FnG P w K mg base k f fd ps sp ∧ Binds K fd ps [] ∧ mg x = some (.ref f) ∧ PySem.W.keepIn K (.ref f) = true
theorem mkG {P : Program} {w : World} {K : PySem.W.Frag} {mg : Str → Option Value} {base : Heap} {sp : Sp} {N ps : List Str} {x : Str} {st : Stmt} {k : Nat}
    (D : Df K mg x st) (S : FnScope N ps (defScope st))
    (hb : ∀ (kV doc pm : Value) (an : Option Addr) (cdv ct : Value) (us : List Value), us.length = ps.length → bindArgs (PySem.W.fnOf x x (defArgs st) (defBody st) (defScope st) .none kV doc pm an cdv ct) ⟨us, []⟩ = pure (ps.zip us))
    (hl : ∀ vs H Q E, sp vs H Q E → vs.length = ps.length)
    (h : ∀ (f : Addr) (cdv : Value) (A : Around) (outer : List Env) (s : Shared) (H : Hp) (vs : List V) (Q : VK) (E : XK), Room k (A.deeper (envOfC x (defScope st) s.heap.objs.size f cdv)) → A.guards = some [] → sp vs H Q E →
      ∃ t, PSs (cxOf CX0 P w K mg base N x (defScope st) f cdv A outer s H E).nox (defBody st) t ∧ t { nx := fun _ H' => Q .non H', rt := Q } (L2.start N vs) H) :
    CalG P w K mg base (k + 1) x ps sp := by
  obtain ⟨f, fd, F, m⟩ := D.ex
  exact ⟨f, fd, fn_g F S hl (fun cdv A outer s H vs Q E hr hG hsp => h f cdv A outer s H vs Q E hr hG hsp), F.binds hb, m, F.kp⟩
theorem pe_clG {X : Cx} {k j : Nat} {ps : List Str} {sp : Sp} {x : Str} {p pos : Pos} {e : Expr} {es : List Expr} {t : TA} (C : CalG X.prog X.w X.K X.mg X.base k x ps sp) (hr : Room j X.A) (hG : X.A.guards = some []) (ha : PA X (e :: es) t) (hkj : k ≤ j := by decide) (hg : Gl X x := by rfl) (hdb : (x == ("__debug__" : Str)) = false := by decide)
    (he : starEach (e :: es) X.env = (false, eval e X.env) :: starEach es X.env := by rfl) (hpl : (backTo pos (starEach es X.env)).any (·.1) = false := by rfl) :
    PE X (.Call (.Name x p) (e :: es) [] pos) (tCall sp [] E0 t) := by
  obtain ⟨f, fd, F, b, m, kp⟩ := C.ex
  exact pe_callg F (hr.mono hkj) hG hg m kp b ha hdb he hpl
end Xq
namespace Xq
theorem ta_1 : ta 1 = true := by decide +kernel
end Xq
namespace Xq
theorem ta_2 : ta 2 = true := by decide +kernel
end Xq
namespace Xq
theorem ta_3 : ta 3 = true := by decide +kernel
end Xq
namespace Xq
theorem ta_4 : ta 4 = true := by decide +kernel
end Xq
namespace Xq
theorem ta_5 : ta 5 = true := by decide +kernel
end Xq
namespace Xq
theorem ta_6 : ta 6 = true := by decide +kernel
end Xq
namespace Xq
theorem ta_7 : ta 7 = true := by decide +kernel
end Xq
namespace Xq
theorem ta_8 : ta 8 = true := by decide +kernel
end Xq
namespace Xq
theorem ta_9 : ta 9 = true := by decide +kernel
end Xq
/-! The law's shapes and what written tells of them (k39). -/
namespace Xq
open PySem PySem.Spec PyProof.Rows L2
/-- c - 2 w x + x x -/
def q2 (w n : Nat) : List Int := [(w : Int) * w - n, -2 * (w : Int), 1]
def dueQ (w n : Nat) : List (Int × Int) := [(1, 2 * (w : Int)), ((2 * (w : Int)).fdiv ((Nat.gcd (2 * (w : Int)).natAbs ((w : Int) * w - n).natAbs : Nat) : Int), ((w : Int) * w - n).fdiv ((Nat.gcd (2 * (w : Int)).natAbs ((w : Int) * w - n).natAbs : Nat) : Int))]
def tq (w n : Nat) : Bool := decide (n = w * w) || (okX (q2 w n) && if n < w * w then decide (stpX (q2 w n) = dueQ w n) else decide ((stpX (q2 w n)).length ≠ 2))
def tl (n : Nat) : Bool := okX [-(n : Int), 0, 1] && decide ((stpX [-(n : Int), 0, 1]).length ≠ 2)
def tf (t b : Nat) : Bool := !decide (Nat.gcd t b = 1) || (okX [-(t : Int), (b : Int)] && decide (stpX [-(t : Int), (b : Int)] = [((b : Int), (t : Int))]))
theorem tq_all : ((List.range 15).all fun w => (List.range 200).all fun n => tq (w + 1) (n + 2)) = true := by decide +kernel
theorem tl_all : ((List.range 200).all fun n => tl (n + 2)) = true := by decide +kernel
theorem tf_all : ((List.range 60).all fun t => (List.range 60).all fun b => tf (t + 1) (b + 1)) = true := by decide +kernel
theorem tq_of {w n : Nat} (w1 : 1 ≤ w) (w2 : w ≤ 15) (n1 : 2 ≤ n) (n2 : n ≤ 201) : tq w n = true := by
  have h := List.all_eq_true.mp (List.all_eq_true.mp tq_all (w - 1) (List.mem_range.mpr (by omega))) (n - 2) (List.mem_range.mpr (by omega))
  rw [show w - 1 + 1 = w by omega, show n - 2 + 2 = n by omega] at h
  exact h
theorem tl_of {n : Nat} (n1 : 2 ≤ n) (n2 : n ≤ 201) : tl n = true := by
  have h := List.all_eq_true.mp tl_all (n - 2) (List.mem_range.mpr (by omega))
  rw [show n - 2 + 2 = n by omega] at h
  exact h
theorem tf_of {t b : Nat} (t1 : 1 ≤ t) (t2 : t ≤ 60) (b1 : 1 ≤ b) (b2 : b ≤ 60) : tf t b = true := by
  have h := List.all_eq_true.mp (List.all_eq_true.mp tf_all (t - 1) (List.mem_range.mpr (by omega))) (b - 1) (List.mem_range.mpr (by omega))
  rw [show t - 1 + 1 = t by omega, show b - 1 + 1 = b by omega] at h
  exact h
theorem tb_of {a b c : Nat} (a1 : 1 ≤ a) (a2 : a ≤ 9) (b1 : 1 ≤ b) (b2 : b ≤ 9) (c1 : 1 ≤ c) (c2 : c ≤ 30) : tb a b c = true := by
  have h : ta a = true := by
    rcases (show a = 1 ∨ a = 2 ∨ a = 3 ∨ a = 4 ∨ a = 5 ∨ a = 6 ∨ a = 7 ∨ a = 8 ∨ a = 9 by omega) with rfl | rfl | rfl | rfl | rfl | rfl | rfl | rfl | rfl
    · exact ta_1
    · exact ta_2
    · exact ta_3
    · exact ta_4
    · exact ta_5
    · exact ta_6
    · exact ta_7
    · exact ta_8
    · exact ta_9
  have h := List.all_eq_true.mp (List.all_eq_true.mp h (b - 1) (List.mem_range.mpr (by omega))) (c - 1) (List.mem_range.mpr (by omega))
  rw [show b - 1 + 1 = b by omega, show c - 1 + 1 = c by omega] at h
  exact h
end Xq
/-! The law's shapes (k39): what the program finds. -/
namespace Xq
open PySem PySem.Spec PyProof.Rows L2
theorem rd_spec (n : Int) : ∀ (m : Nat) (f : Int), 0 ≤ f → f * f ≤ n → n < (f + m + 1) * (f + m + 1) → okRd n m f = true ∧ rdS n m f * rdS n m f ≤ n ∧ n < (rdS n m f + 1) * (rdS n m f + 1) ∧ f ≤ rdS n m f
  | 0, f, h0, h1, h2 => by
    have h2 : n < (f + 0 + 1) * (f + 0 + 1) := h2
    rw [Int.add_zero] at h2
    exact ⟨decide_eq_true h2, h1, h2, Int.le_refl _⟩
  | m + 1, f, h0, h1, h2 => by
    unfold okRd rdS
    by_cases q : (f + 1) * (f + 1) ≤ n
    · have e : f + ((m + 1 : Nat) : Int) + 1 = f + 1 + m + 1 := by omega
      rw [e] at h2
      obtain ⟨a, b, c, d⟩ := rd_spec n m (f + 1) (by omega) q h2
      rw [if_pos q, a, Bool.or_true]
      exact ⟨rfl, b, c, by omega⟩
    · rw [if_neg q, decide_eq_true (show n < (f + 1) * (f + 1) by omega)]
      exact ⟨rfl, h1, by omega, Int.le_refl _⟩
theorem sq_lt_iff {a b : Int} (ha : 0 ≤ a) (hb : 0 ≤ b) (h : a * a < b * b) : a < b := by
  rcases Int.lt_or_le a b with q | q
  · exact q
  · have := sq_up hb q
    omega
theorem rd_of {n : Int} (h1 : 1 ≤ n) (h2 : n ≤ 400) : okRd n 40 0 = true ∧ rdL n * rdL n ≤ n ∧ n < (rdL n + 1) * (rdL n + 1) ∧ 1 ≤ rdL n ∧ rdL n ≤ 20 := by
  obtain ⟨a, b, c, d⟩ := rd_spec n 40 0 (by decide) (by omega) (by show n < 41 * 41; omega)
  have b : rdL n * rdL n ≤ n := b
  have c : n < (rdL n + 1) * (rdL n + 1) := c
  have d : 0 ≤ rdL n := d
  refine ⟨a, b, c, ?_, ?_⟩
  · rcases Int.lt_or_le 0 (rdL n) with q | q
    · exact q
    · have e : rdL n = 0 := by omega
      rw [e] at c
      omega
  · have := sq_lt_iff (a := rdL n) (b := 21) d (by decide) (by omega)
    omega
theorem nosq {n d : Int} (d0 : 0 ≤ d) (h1 : d * d ≤ n) (h2 : n < (d + 1) * (d + 1)) (h3 : d * d ≠ n) (v : Int) : v * v ≠ n := fun e => by
  have hv : v * v = (v.natAbs : Int) * (v.natAbs : Int) := by
    rw [Int.natAbs_mul_self']
  have p : (0 : Int) ≤ (v.natAbs : Int) := Int.natCast_nonneg _
  rw [hv] at e
  have a := sq_lt_iff (a := d) (b := (v.natAbs : Int)) d0 p (by omega)
  have b := sq_lt_iff (a := (v.natAbs : Int)) (b := d + 1) p (by omega) (by omega)
  omega
theorem nosq4 {n : Int} (h : ∀ v : Int, v * v ≠ n) (u : Int) : u * u ≠ 4 * n := fun e => by
  rcases Int.emod_two_eq u with z | z
  · obtain ⟨v, rfl⟩ : ∃ v, u = 2 * v := ⟨u / 2, by omega⟩
    have : 2 * v * (2 * v) = 4 * (v * v) := by grind
    exact h v (by omega)
  · obtain ⟨v, rfl⟩ : ∃ v, u = 2 * v + 1 := ⟨u / 2, by omega⟩
    have : (2 * v + 1) * (2 * v + 1) = 4 * (v * v) + 4 * v + 1 := by grind
    omega
theorem tl_add (a b : Str) : TL.tl (a ++ b) = TL.tl a ++ TL.tl b := TL.tl_append a b
theorem tx_sq (k : Int) : txL 1 [k, 0, 1] = Str.ofString "root 1 of " ++ W k ++ Str.ofString " 0 1" := by
  refine TL.ext_tl ?_
  rw [tl_tx, tl_add, tl_add]
  show [114, 111, 111, 116, 32] ++ (TL.tl (W 1) ++ ([32, 111, 102, 32] ++ (TL.tl (W k) ++ ([32] ++ (TL.tl (W 0) ++ ([32] ++ TL.tl (W 1))))))) = _
  rw [show TL.tl (W 0) = [48] from rfl, show TL.tl (W 1) = [49] from rfl, show TL.tl (Str.ofString "root 1 of ") = [114, 111, 111, 116, 32, 49, 32, 111, 102, 32] from rfl, show TL.tl (Str.ofString " 0 1") = [32, 48, 32, 49] from rfl]
  simp
theorem pre_len (s : String) (h : (Str.ofString s).length ≤ 20) {i : Int} (hi : i.natAbs ≤ 1000) : (Str.ofString s).length + (W i).length ≤ 30 ∧ (Str.ofString s ++ W i).length ≤ 30 := by
  have := w_len hi
  have e : (Str.ofString s ++ W i).length = (Str.ofString s).length + (W i).length := by
    rw [TL.len_tl, TL.len_tl, TL.len_tl, tl_add, List.length_append]
  omega
section
variable {c m : Int}
theorem Qd.upv (h : Qd c m) (t : Int) : ((2 * t + m) * (2 * t + m) < dis c m → upL (qC c m) t 1 = 1) ∧
    (dis c m ≤ (2 * t + m) * (2 * t + m) → 2 * t + m < 0 → upL (qC c m) t 1 = 0) ∧ (dis c m ≤ (2 * t + m) * (2 * t + m) → 0 ≤ 2 * t + m → upL (qC c m) t 1 = 2) := by
  obtain ⟨a, b, d⟩ := h.cnt t
  rw [h.up]
  exact ⟨fun q => by rw [a q]; rfl, fun q r => by rw [b q r]; rfl, fun q r => by rw [d q r]; rfl⟩
end
theorem sqx0 (t : Int) : (2 * t + 0) * (2 * t + 0) = 4 * (t * t) := by grind
/-- a root of no square -/
theorem lone_ok {n d : Int} (n1 : 1 ≤ n) (n2 : n ≤ 400) (d1 : 1 ≤ d) (h1 : d * d ≤ n) (h2 : n < (d + 1) * (d + 1)) (h3 : d * d ≠ n) : okTN 1 [-n, 0, 1] = true ∧ okStr [-n, 0, 1] 1 = true := by
  have ed : dis (-n) 0 = 4 * n := by
    unfold dis
    omega
  have Q : Qd (-n) 0 := ⟨by omega, by omega, by decide, by decide, by omega, fun u => by rw [ed]; exact nosq4 (nosq (by omega) h1 h2 h3) u⟩
  have u0 : upL (qC (-n) 0) 0 1 = 1 := (Q.upv 0).1 (by rw [sqx0, ed]; omega)
  obtain ⟨o, _⟩ := Q.str (.inr rfl) (by omega)
  exact ⟨Q.okTN (.inr rfl) (by omega), o⟩
/-- a sum of a whole number and a root -/
theorem great_of {n w d : Int} (n1 : 1 ≤ n) (n2 : n ≤ 400) (w1 : 1 ≤ w) (w2 : w ≤ 20) (d1 : 1 ≤ d) (d2 : d ≤ 20) (h1 : d * d ≤ n) (h2 : n < (d + 1) * (d + 1)) (h3 : d * d ≠ n) :
    Of [w * w - n, -2 * w, 1] w 1 (w + d + 1) 1 [w * w - n, -2 * w, 1] 1 := by
  have hns := nosq (by omega) h1 h2 h3
  have ww : w * w ≤ 20 * 20 := sq_up (by omega) w2
  have w0 : 0 ≤ w * w := Int.mul_nonneg (by omega) (by omega)
  have ed : dis (w * w - n) (-2 * w) = 4 * n := by
    unfold dis
    have : -2 * w * (-2 * w) = 4 * (w * w) := by grind
    omega
  have Q : Qd (w * w - n) (-2 * w) := ⟨by omega, by omega, by omega, by omega, by have := hns w; omega, fun u => by rw [ed]; exact nosq4 hns u⟩
  have sqx : ∀ t : Int, (2 * t + -2 * w) * (2 * t + -2 * w) = 4 * ((t - w) * (t - w)) := fun t => by grind
  have z0 : (0 - w) * (0 - w) = w * w := by grind
  have zw : (w - w) * (w - w) = 0 := by rw [Int.sub_self]; rfl
  have z2 : (w + d + 1 - w) * (w + d + 1 - w) = (d + 1) * (d + 1) := by grind
  have u0 : upL (qC (w * w - n) (-2 * w)) 0 1 ≤ 1 := by
    have hw := hns w
    rcases Int.lt_or_le (w * w) n with q | q
    · rw [(Q.upv 0).1 (by rw [sqx, ed, z0]; omega)]
      decide
    · rw [(Q.upv 0).2.1 (by rw [sqx, ed, z0]; omega) (by omega)]
      decide
  have uw : upL (qC (w * w - n) (-2 * w)) w 1 = 1 := (Q.upv w).1 (by rw [sqx, ed, zw]; omega)
  have u2 : upL (qC (w * w - n) (-2 * w)) (w + d + 1) 1 = 2 := (Q.upv (w + d + 1)).2.2 (by rw [sqx, ed, z2]; omega) (by omega)
  exact Q.of (.inr rfl) u0 (by omega) (by omega) (by omega) uw u2
theorem frac_ok {t b : Int} (t1 : 1 ≤ t) (t2 : t ≤ 60) (b1 : 1 ≤ b) (b2 : b ≤ 60) (g : Nat.gcd t.natAbs b.natAbs = 1) : okTN 0 [-t, b] = true ∧ okStr [-t, b] 0 = true := by
  have h : Fq t b := ⟨t1, by omega, b1, by omega, g⟩
  exact ⟨h.okTN, h.fl.1⟩
theorem tx_lin2 (k b : Int) : txL 0 [k, b] = Str.ofString "root 0 of " ++ W k ++ Str.ofString " " ++ W b := by
  refine TL.ext_tl ?_
  rw [tl_tx, tl_add, tl_add, tl_add]
  show [114, 111, 111, 116, 32] ++ (TL.tl (W 0) ++ ([32, 111, 102, 32] ++ (TL.tl (W k) ++ ([32] ++ TL.tl (W b))))) = _
  rw [show TL.tl (W 0) = [48] from rfl, show TL.tl (Str.ofString "root 0 of ") = [114, 111, 111, 116, 32, 48, 32, 111, 102, 32] from rfl, show TL.tl (Str.ofString " ") = [32] from rfl]
  simp
end Xq
/-! _law_right (k39). -/
namespace Xq
open PySem PySem.Spec PyProof.Rows L2 Xk
/-- what Shape.of rests on -/
structure All9 (P : Program) (w : World) (K : PySem.W.Frag) (mg : Str → Option Value) (base : Heap) (C : Addr) : Prop where
  B : Bl mg
  S : ShC K mg C
  SO : ShO K C
  ce : Cal P w K mg base 4 "check_equation" ["value"] spChkE
  cs : Cal P w K mg base 4 "check_stretch" ["low", "high"] spChkS
  fw : Cal P w K mg base 6 "factor_within" ["equation", "low", "high"] spFw
  tm : Cal P w K mg base 2 "is_term" ["value"] spIsTerm
  tx : Cal P w K mg base 1 "text_of" ["rank", "equation"] spTx
  rl : Cal P w K mg base 5 "rank_of_last" ["terms", "high"] spRl
  told : Cal P w K mg base 6 "told_by" ["text"] spToldG
  str : Cal P w K mg base 6 "stretch_of" ["equation", "rank"] spStrG
section
variable {X : Cx} {C : Addr} {j : Nat} {p apos pos : Pos} {e1 : Expr} {es : List Expr} {t : TA} {pl : Sem Bool}
theorem pe_of9 (U : All9 X.prog X.w X.K X.mg X.base C) (ha : PA X (e1 :: es) t) (hr : Room (j + 10) X.A) (hg : Gl X "Shape")
    (hst : starEach (e1 :: es) X.env = (false, eval e1 X.env) :: starEach es X.env := by rfl) (hpl : (backTo pos (starEach es X.env)).any (·.1) = false := by rfl)
    (ht : eval (.Call (.Attribute (.Name "Shape" p) "of" apos) (e1 :: es) [] pos) X.env = (do
      let ov ← eval (.Name "Shape" p) X.env
      standAt apos.atName
      let (f, first) ← holding [ov] (getMethod ov "of" pl)
      callWith pos f first (backTo pos (starEach (e1 :: es) X.env)) (backToKw pos (keywordEach [] X.env))) := by rfl) :
    PE X (.Call (.Attribute (.Name "Shape" p) "of" apos) (e1 :: es) [] pos) (tSMeth C (spOfG C) E0 (tC (.ref C)) t) := by
  obtain ⟨mc, R, pp, g, fd, c, hk, F⟩ := U.SO.rd
  exact pe_smeth (pl := pl) (pe_glob (v := .ref C) hg U.S.mgC rfl) R c (ok_ofG (P := X.prog) (w := X.w) (base := X.base) F U.B U.S U.ce U.cs U.fw U.tm U.tx U.rl U.told U.str) (hr.mono (by omega)) hk (F.binds (fun _ _ _ _ _ _ us hl => match us, hl with | [_, _, _], _ => rfl)) pass0 ha hst hpl ht
end
theorem sp_of9 {C : Addr} {H : Hp} {Q : VK} {p l h : Addr} {xs ls : List Int} {a b c d r : Int} (O : Of xs a b c d ls r) (hp : TI H p xs) (hl : TI H l [a, b]) (hh : TI H h [c, d])
    (k : ∀ sh H', Same H H' → ShpG C H' sh (txL r ls) r ls → Q (.ref sh) H') : spOfG C ([.ref p, .ref l, .ref h] ++ []) H Q L2.E0 := by
  refine ⟨p, l, h, xs, a, b, c, d, rfl, hp, hl, hh, O.ok, fun v H' s ⟨sh, hv, hS⟩ => ?_⟩
  rw [hv]
  rw [O.eT, O.eR, O.eL] at hS
  exact k sh H' s hS
theorem it_row4 : ∀ {l : List Int}, (∀ x ∈ l, Sm 400 x) → PyData.showableAll (l.map PyData.int) = true ∧ PyData.depthAll (l.map PyData.int) = 0 ∧ ((PyData.shownAll (l.map PyData.int)).map (·.length)).sum ≤ 401 * l.length ∧ (PyData.shownAll (l.map PyData.int)).length = l.length
  | [], _ => ⟨rfl, by simp [PyData.depthAll], by simp [PyData.shownAll], rfl⟩
  | d :: ds, h => by
    obtain ⟨a, b, c, e⟩ := it_row4 (l := ds) fun x hx => h x (List.mem_cons_of_mem _ hx)
    have hd := h d (List.mem_cons_self ..)
    have s := (it_int (sm_le hd (by decide))).sh
    have l1 : (PyData.int d).shown.length ≤ 401 := by
      have q := PySem.int_text_length_le (a := d) (k := 400) (by decide) (PySem.Flt.log2_lt_of (by decide) hd)
      have e : (PyData.int d).shown = Str.ofString (toString d) := rfl
      rw [e, PySem.ofString_length]
      omega
    refine ⟨?_, ?_, ?_, ?_⟩
    · show ((PyData.int d).showable && PyData.showableAll (ds.map PyData.int)) = true
      rw [s, a]
      rfl
    · simp only [List.map_cons, PyData.depthAll, PyData.depth, b]
      rfl
    · simp only [PyData.shownAll, List.map_cons, List.sum_cons, List.length_cons]
      omega
    · simp only [PyData.shownAll, List.map_cons, List.length_cons, e]
theorem it_tup4 {l : List Int} (hl : l.length ≤ 6) (h : ∀ x ∈ l, Sm 400 x) : It1 (dT l) := by
  obtain ⟨a, b, c, e⟩ := it_row4 h
  refine ⟨?_, ?_, ?_⟩
  · unfold dT
    simpa only [PyData.showable] using a
  · unfold dT
    simp only [PyData.depth, b]
    decide
  · have q := tupleText_len_le (PyData.shownAll (l.map PyData.int))
    have e2 : (dT l).shown = tupleText (PyData.shownAll (l.map PyData.int)) := by unfold dT; simp only [PyData.shown]
    rw [e2]
    omega
theorem eqv_rows : ∀ {a b : List Int}, PyData.eqvAll (a.map PyData.int) (b.map PyData.int) = true → a = b
  | [], [], _ => rfl
  | [], y :: b, h => by
    rw [List.map_nil, List.map_cons] at h
    simp [PyData.eqvAll] at h
  | x :: a, [], h => by
    rw [List.map_nil, List.map_cons] at h
    simp [PyData.eqvAll] at h
  | x :: a, y :: b, h => by
    rw [List.map_cons, List.map_cons] at h
    simp only [PyData.eqvAll, PyData.eqv, Bool.and_eq_true, beq_iff_eq] at h
    rw [h.1, eqv_rows h.2]
theorem eqv_tups {a b : List Int} (h : a ≠ b) : PyData.eqv (dT a) (dT b) = false := by
  rw [Bool.eq_false_iff]
  intro e
  unfold dT at e
  simp only [PyData.eqv] at e
  exact h (eqv_rows e)
/-! ### repr of None, of a truth, of pairs -/
inductive RD (H : Hp) : V → PyData → Prop
  | non : RD H .non .none
  | bl (b : Bool) : RD H (.bl b) (.bool b)
  | prs {q : Addr} {as : List Addr} {ps : List (Int × Int)} : H q = some (.tup (as.map V.ref)) → Prs H as ps → RD H (.ref q) (.tuple (ps.map fun p => dT [p.1, p.2]))
theorem Prs.sa {H : Hp} : ∀ {as : List Addr} {ps : List (Int × Int)}, Prs H as ps → SA H (as.map V.ref) (ps.map fun p => dT [p.1, p.2])
  | [], [], _ => .nil
  | a :: as, p :: ps, h => .cons (S1.tup (xs := [p.1, p.2]) h.1) (Prs.sa h.2)
theorem shown_bl (b : Bool) : (PyData.bool b).shown = if b = true then Str.ofString "True" else Str.ofString "False" := by
  cases b <;> simp [PyData.shown]
theorem shown_non : PyData.none.shown = Str.ofString "None" := by simp [PyData.shown]
def rRepD : List V → Hp → VK → Prop := fun xs H Q => ∃ v d, xs = [v] ∧ RD H v d ∧ Sho d ∧ Q (.str d.shown) H
theorem call_repD {X : Cx} (hG : X.A.guards = some []) (hu : X.A.units + 21 < cLine) : CallR X (.builtin "repr") rRepD := by
  intro pins s σ H xs us Q I r h
  obtain ⟨v, d, rfl, hd, hS, q⟩ := h
  cases r with
  | cons rx rr =>
    cases rr
    cases hd with
    | non =>
      cases rx
      rw [shown_non] at q
      exact PySem.P.repr_of_none ⟨.str "None", H, I.tok _, ⟨_, rfl⟩, q⟩
    | bl b =>
      cases rx
      rw [shown_bl] at q
      exact PySem.P.repr_of_bool ⟨.str (if b = true then Str.ofString "True" else Str.ofString "False"), H, I.tok _, ⟨_, rfl⟩, q⟩
    | @prs q0 as ps e hP =>
      cases rx
      obtain ⟨_, its, rv, o, ho, hc, n, hdd⟩ := (show ObjOk X.prog X.w H s.heap q0 (.tup (as.map V.ref)) from I.hok q0 _ e)
      obtain ⟨bs, hr⟩ := SA.reads I hP.sa rv
      have hr2 := Reads.tuple ho hc hdd hr
      have nd : (PyData.tuple (ps.map fun p => dT [p.1, p.2])).hasDict = false := hP.sa.nd
      generalize PyData.tuple (ps.map fun p => dT [p.1, p.2]) = d9 at *
      refine repr_of_reads' hr2 hS.sh (fun z => ?_) hG (by have := hS.dp; omega) (fun _ _ e => e) (fun h' u tk k => ?_) hS.ln
      · rw [nd] at z
        cases z
      exact ⟨.str d9.shown, H, I.kept k, ⟨u, rfl⟩, q⟩
theorem sho_non : Sho .none := ⟨by simp [PyData.showable], by simp [PyData.depth], by rw [shown_non]; decide +kernel⟩
theorem sho_bl (b : Bool) : Sho (.bool b) := ⟨by simp [PyData.showable], by simp [PyData.depth], by rw [shown_bl]; cases b <;> decide +kernel⟩
theorem sho_prs {ps : List (Int × Int)} (hl : ps.length ≤ 10) (h : ∀ p ∈ ps, Sm 400 p.1 ∧ Sm 400 p.2) : Sho (.tuple (ps.map fun p => dT [p.1, p.2])) := by
  obtain ⟨a, b, c, e⟩ := all_it (ps.map fun p => dT [p.1, p.2]) fun d hd => by
    obtain ⟨p, hp, rfl⟩ := List.mem_map.mp hd
    refine it_tup4 (by show 2 ≤ 6; decide) fun x hx => ?_
    simp only [List.mem_cons, List.not_mem_nil, or_false] at hx
    rcases hx with rfl | rfl
    · exact (h p hp).1
    · exact (h p hp).2
  rw [List.length_map] at c e
  refine ⟨?_, ?_, ?_⟩
  · simpa only [PyData.showable] using a
  · simp only [PyData.depth]
    omega
  · have q := tupleText_len_le (PyData.shownAll (ps.map fun p => dT [p.1, p.2]))
    have e2 : (PyData.tuple (ps.map fun p => dT [p.1, p.2])).shown = tupleText (PyData.shownAll (ps.map fun p => dT [p.1, p.2])) := by simp only [PyData.shown]
    have big : 40000 ≤ sizeLine := by decide
    rw [e2]
    omega
theorem tw_ok {a b c : Nat} {xs : List Int} (h : tw a b c xs = true) : okTN 0 xs = true ∧ okStr xs 0 = true ∧ okX xs = true ∧ decide ((stpX xs).length = xs.length - 1) = decide (c < a * b) := by
  unfold tw at h
  simp only [Bool.and_eq_true, decide_eq_true_eq] at h
  exact ⟨h.1.1.1, h.1.1.2, h.1.2, h.2⟩
theorem SameX.trans {r : Addr} {H H1 H2 : Hp} (a : SameX r H H1) (b : SameX r H1 H2) : SameX r H H2 := fun c o n e => b c o n (a c o n e)
theorem SameX.of {r : Addr} {H H' : Hp} (k : Same H H') : SameX r H H' := fun b o _ e => k b o e
theorem RD.same {H H' : Hp} (s : Same H H') {v : V} {d : PyData} (h : RD H v d) : RD H' v d := by
  cases h with
  | non => exact .non
  | bl b => exact .bl b
  | prs e hP => exact .prs (s _ _ e) (hP.same s)
def prT (ps : List (Int × Int)) : PyData := .tuple (ps.map fun p => dT [p.1, p.2])
def ddW (W N : Nat) : PyData := if N < W * W then prT (dueQ W N) else .none
theorem fdivNat (a b : Nat) : (a : Int).fdiv (b : Int) = ((a / b : Nat) : Int) := by
  rw [Int.fdiv_eq_ediv_of_nonneg _ (by omega)]
  rfl
theorem due_sm {W N : Nat} (w1 : 1 ≤ W) (w2 : W ≤ 15) (h : N < W * W) : ∀ p ∈ dueQ W N, Sm 400 p.1 ∧ Sm 400 p.2 := fun p hp => by
  have ww : W * W ≤ 15 * 15 := Nat.mul_le_mul w2 w2
  have wi : (W : Int) * W = ((W * W : Nat) : Int) := (Int.natCast_mul W W).symm
  have e1 : ∀ a g : Nat, a ≤ 1000 → Sm 400 ((a : Int).fdiv (g : Int)) := fun a g ha => by
    rw [fdivNat]
    have := Nat.div_le_self a g
    exact Nat.lt_of_le_of_lt (show (((a / g : Nat) : Int)).natAbs ≤ 1000 by rw [Int.natAbs_natCast]; exact Nat.le_trans this ha) (by decide)
  have e2 : (2 : Int) * (W : Int) = ((2 * W : Nat) : Int) := by omega
  have e3 : (W : Int) * W - N = ((W * W - N : Nat) : Int) := by rw [wi]; omega
  unfold dueQ at hp
  simp only [List.mem_cons, List.not_mem_nil, or_false] at hp
  rcases hp with rfl | rfl
  · exact ⟨show Sm 400 (1 : Int) by decide, Nat.lt_of_le_of_lt (show (2 * (W : Int)).natAbs ≤ 1000 by omega) (by decide)⟩
  · rw [e2, e3]
    exact ⟨e1 _ _ (by omega), e1 _ _ (by omega)⟩
theorem wr_dd {H : Hp} {v : V} {W N : Nat} (w1 : 1 ≤ W) (w2 : W ≤ 15) (n1 : 2 ≤ N) (n2 : N ≤ 201) (ne : N ≠ W * W) (ho : WrO H v (q2 W N)) : RD H v (ddW W N) := by
  have h := tq_of w1 w2 n1 n2
  unfold tq at h
  rw [decide_eq_false ne, Bool.false_or, Bool.and_eq_true] at h
  obtain ⟨_, h⟩ := h
  unfold ddW
  by_cases c : N < W * W
  · rw [if_pos c] at h ⊢
    have h := of_decide_eq_true h
    rcases ho with ⟨l, q, as, rfl, e, hP⟩ | ⟨l, rfl⟩
    · rw [h] at hP
      exact .prs e hP
    · exact absurd (by rw [h]; rfl) l
  · rw [if_neg c] at h ⊢
    have h := of_decide_eq_true h
    rcases ho with ⟨l, _⟩ | ⟨l, rfl⟩
    · exact absurd l h
    · exact .non
theorem q2_ok {W N : Nat} (w1 : 1 ≤ W) (w2 : W ≤ 15) (n1 : 2 ≤ N) (n2 : N ≤ 201) (ne : N ≠ W * W) : okX (q2 W N) = true := by
  have h := tq_of w1 w2 n1 n2
  unfold tq at h
  rw [decide_eq_false ne, Bool.false_or, Bool.and_eq_true] at h
  exact h.1
theorem sho_dd {W N : Nat} (w1 : 1 ≤ W) (w2 : W ≤ 15) : Sho (ddW W N) := by
  unfold ddW
  split
  · rename_i c
    exact sho_prs (by show 2 ≤ 10; decide) (due_sm w1 w2 c)
  · exact sho_non
abbrev nLR : List Str := ["_law_tub_here", "_law_whole", "_law_number", "_law_down", "_law_lone", "_law_great", "_law_due", "_law_top", "_law_bottom", "_law_common", "_law_a", "_law_b", "_law_c", "_law_terms", "_law_cubic", "_law_turned"]
theorem nLR_ : FnScope nLR ["_law_tub_here"] (defScope (top 78)) := (⟨rfl, rfl, rfl, by decide +kernel, rfl, by decide +kernel, by decide +kernel⟩)
def spRight : Sp := fun vs H Q _ => ∃ r, vs = [.ref r] ∧ RkI H r ∧ ∀ H', SameX r H H' → Q (.bl true) H'
section
variable {P : Program} {w : World} {K : PySem.W.Frag} {mg : Str → Option Value} {base : Heap} {C : Addr}
theorem ne_row {H : Hp} {a b : Addr} {u v : List Int} {Q : VK} (ha : TI H a u) (hb : TI H b v) (h : Q (.bl (!decide (u = v))) H) : rNeD K (.ref a) (.ref b) H Q := by
  refine ⟨dT u, dT v, .tup (SqT.of ha) (dp_ints _), .tup (SqT.of hb) (dp_ints _), sh_int9 _, sh_int9 _, ?_⟩
  have e : PyData.eqv (dT u) (dT v) = decide (u = v) := by
    by_cases c : u = v
    · rw [c, PySem.SeqAt.eqv_refl _ (SeqAt.canLay_of_shaped (sh_int9 _)), decide_eq_true rfl]
    · rw [eqv_tups c, decide_eq_false c]
  rw [e]
  exact h
structure Cs (P : Program) (w : World) (K : PySem.W.Frag) (mg : Str → Option Value) (base : Heap) (C : Addr) : Prop where
  U9 : All9 P w K mg base C
  tap : Cal P w K mg base 1 "_law_tap" ["_law_tub_here", "_law_amount"] spTap
  rd : Cal P w K mg base 1 "_law_root_down" ["_law_number"] spRd
  fr : Cal P w K mg base 2 "_law_fraction" ["_law_part"] spFr
  gc : Cal P w K mg base 1 "_law_gcd" ["_law_one", "_law_two"] spGc
  fi : Cal P w K mg base 5 "fills" ["shape"] (spFi C)
  wr : Cal P w K mg base 4 "written" ["shape"] (spWr C)
  ss : Cal P w K mg base 2 "_law_splits" ["_law_terms"] spSs
  tx : Cal P w K mg base 1 "_law_text" ["_law_terms", "_law_rank_here"] spTxl
  pt : Cal P w K mg base 2 "_law_prime_terms" ["_law_terms"] spPt
theorem c_right (D : Df K mg "_law_right" (top 78)) (U : Cs P w K mg base C) : CalG P w K mg base 12 "_law_right" ["_law_tub_here"] spRight := by
  refine mkG D nLR_ (fun _ _ _ _ _ _ us hl => match us, hl with | [_], _ => rfl) (fun vs H Q E h => ?_) (fun f cdv A outer s H vs Q E hr hG h => ?_)
  · obtain ⟨r, rfl, _⟩ := h
    rfl
  obtain ⟨tub, rfl, hR, k⟩ := h
  have B := U.U9.B
  have S := U.U9.S
  have hG2 : (A.deeper (envOfC "_law_right" (defScope (top 78)) s.heap.objs.size f cdv)).guards = some [] := hG
  have hu : (A.deeper (envOfC "_law_right" (defScope (top 78)) s.heap.objs.size f cdv)).units + 21 < cLine := by have := hr.un; omega
  have hu2 : (A.deeper (envOfC "_law_right" (defScope (top 78)) s.heap.objs.size f cdv)).units + 64 < cLine := by have := hr.un; omega
  have r10 : Room (0 + 10) (A.deeper (envOfC "_law_right" (defScope (top 78)) s.heap.objs.size f cdv)) := hr.mono (by decide)
  have r8 : Room (0 + 8) (A.deeper (envOfC "_law_right" (defScope (top 78)) s.heap.objs.size f cdv)) := hr.mono (by decide)
  refine ⟨_, pss_cons (ps_par (i := 1) (j := 2) rfl nLR_.nd rfl rfl (by decide) rfl rfl (pa_cons (pe_op op_add pe_int (pe_cl U.tap hr (pa_cons (pv 0) (pa_cons pe_int pa_nil)))) (pa_cons (pe_op op_add pe_int (pe_cl U.tap hr (pa_cons (pv 0) (pa_cons pe_int pa_nil)))) pa_nil)) rfl)
    (pss_cons ((ps_set (i := 3) (FnScope.nd nLR_) rfl (Or.inl rfl) (pe_cl U.rd hr (pa_cons (pv 2) pa_nil))))
    (C8.pss_cut (ps_if ((pt_cmpR op_ne (pe_op op_mulW (pv 3) (pv 3)) (pv 2) (nomark _)))
        (pss_cons ((ps_set (i := 4) (FnScope.nd nLR_) rfl (Or.inl rfl) (pe_mkG (j := 0) S U.U9.told U.U9.str (pe_op op_add_str (pe_op op_add_str pe_str (pe_callTy call_str_int (by rfl) B.str_ PyProof.Rows.boot_str (pa_cons (pe_un un_neg (pv 2)) pa_nil))) pe_str) r8 (by rfl))))
        (pss_cons ((ps_set (i := 5) (FnScope.nd nLR_) rfl (Or.inl rfl) (pe_of9 U.U9 (pa_cons (pe_tup (pa_cons (pe_op op_sub (pe_op op_mulW (pv 1) (pv 1)) (pv 2)) (pa_cons (pe_op op_mulW (pe_un un_neg pe_int) (pv 1)) (pa_cons pe_int pa_nil)))) (pa_cons (pe_tup (pa_cons (pv 1) (pa_cons pe_int pa_nil))) (pa_cons (pe_tup (pa_cons (pe_op op_add (pe_op op_add (pv 1) (pv 3)) pe_int) (pa_cons pe_int pa_nil))) pa_nil))) r10 (by rfl))))
        (pss_cons ((ps_set (i := 6) (FnScope.nd nLR_) rfl (Or.inl rfl) pe_non))
        (C8.pss_cut (ps_if ((pt_cmpR op_gt (pe_op op_mulW (pv 1) (pv 1)) (pv 2) (nomark _)))
            (pss_one ((ps_set (i := 6) (FnScope.nd nLR_) rfl (Or.inl rfl) (pe_tup (pa_cons (pe_tup (pa_cons pe_int (pa_cons (pe_op op_mulW pe_int (pv 1)) pa_nil))) (pa_cons (pe_cl U.fr hr (pa_cons (pe_tup (pa_cons (pe_op op_mulW pe_int (pv 1)) (pa_cons (pe_op op_sub (pe_op op_mulW (pv 1) (pv 1)) (pv 2)) pa_nil))) pa_nil)) pa_nil)))))) pss_nil)
        (pss_one (ps_if (PW.pt (pw_or (pt_val (pe_cl U.fi hr (pa_cons (pv 4) pa_nil))) (pw_or (pt_cmpR op_notN (pe_cl U.wr hr (pa_cons (pv 4) pa_nil)) pe_non (nomark _))
            (pw_or1 ((pt_cmpR op_ne (pe_callB (call_repD hG2 hu) (by rfl) B.repr_ PyProof.Rows.boot_repr (pa_cons (pe_cl U.wr hr (pa_cons (pv 5) pa_nil)) pa_nil)) (pe_callB (call_repD hG2 hu) (by rfl) B.repr_ PyProof.Rows.boot_repr (pa_cons (pv 6) pa_nil)) (nomark _))))))) pss_nv pss_nil)))))) pss_nil)
    (pss_cons (ps_par (i := 7) (j := 8) rfl nLR_.nd rfl rfl (by decide) rfl rfl (pa_cons (pe_op op_add pe_int (pe_cl U.tap hr (pa_cons (pv 0) (pa_cons pe_int pa_nil)))) (pa_cons (pe_op op_add pe_int (pe_cl U.tap hr (pa_cons (pv 0) (pa_cons pe_int pa_nil)))) pa_nil)) rfl)
    (pss_cons ((ps_set (i := 9) (FnScope.nd nLR_) rfl (Or.inl rfl) (pe_cl U.gc hr (pa_cons (pv 7) (pa_cons (pv 8) pa_nil)))))
    (pss_cons (ps_par (i := 7) (j := 8) rfl nLR_.nd rfl rfl (by decide) rfl rfl (pa_cons (pe_op op_fdivX (pv 7) (pv 9)) (pa_cons (pe_op op_fdivX (pv 8) (pv 9)) pa_nil)) rfl)
    (pss_cons (ps_if (pt_cmpR (op_neD hu2) (pe_cl U.wr hr (pa_cons (pe_mkG (j := 0) S U.U9.told U.U9.str (pe_op op_add_str (pe_op op_add_str (pe_op op_add_str pe_str (pe_callTy call_str_int (by rfl) B.str_ PyProof.Rows.boot_str (pa_cons (pe_un un_neg (pv 7)) pa_nil))) pe_str) (pe_callTy call_str_int (by rfl) B.str_ PyProof.Rows.boot_str (pa_cons (pv 8) pa_nil))) r8 (by rfl)) pa_nil))
        (pe_tup (pa_cons (pe_tup (pa_cons (pv 8) (pa_cons (pv 7) pa_nil))) pa_nil)) (nomark _)) pss_nv pss_nil)
    (pss_cons (ps_par3 (i := 10) (j := 11) (l := 12) rfl nLR_.nd rfl rfl rfl (by decide) (by decide) (by decide) rfl rfl rfl (pa_cons (pe_op op_add pe_int (pe_cl U.tap hr (pa_cons (pv 0) (pa_cons pe_int pa_nil)))) (pa_cons (pe_op op_add pe_int (pe_cl U.tap hr (pa_cons (pv 0) (pa_cons pe_int pa_nil)))) (pa_cons (pe_op op_add pe_int (pe_cl U.tap hr (pa_cons (pv 0) (pa_cons pe_int pa_nil)))) pa_nil))) rfl)
    (pss_cons ((ps_set (i := 13) (FnScope.nd nLR_) rfl (Or.inl rfl) (pe_lst (pa_cons (pe_un un_neg (pv 12)) (pa_cons (pv 11) (pa_cons (pe_un un_neg (pv 10)) (pa_cons pe_int pa_nil)))))))
    (pss_cons (ps_if (pt_val (pe_cl U.ss hr (pa_cons (pv 13) pa_nil))) (pss_one (ps_ret pe_bl)) pss_nil)
    (pss_cons ((ps_set (i := 14) (FnScope.nd nLR_) rfl (Or.inl rfl) (pe_mkG (j := 0) S U.U9.told U.U9.str (pe_cl U.tx hr (pa_cons (pv 13) (pa_cons pe_int pa_nil))) r8 (by rfl))))
    (pss_cons (ps_if ((pt_cmpR op_ne (pe_callB (call_repD hG2 hu) (by rfl) B.repr_ PyProof.Rows.boot_repr (pa_cons (pe_cl U.fi hr (pa_cons (pv 14) pa_nil)) pa_nil)) (pe_callB (call_repD hG2 hu) (by rfl) B.repr_ PyProof.Rows.boot_repr (pa_cons (pe_cmpR op_gt (pe_op op_mulW (pv 10) (pv 11)) (pv 12) (nomark _)) pa_nil)) (nomark _))) pss_nv pss_nil)
    (C8.pss_cut (ps_if (PW.pt (pw_and ((pt_cmpR op_gt (pe_op op_mulW (pv 10) (pv 11)) (pv 12) (nomark _))) (pw_and1 (PW.pt (pw_or (pt_cmpR op_isN (pe_cl U.wr hr (pa_cons (pv 14) pa_nil)) pe_non (nomark _)) (pw_or1 (pt_cmpR (op_neD hu2) ((pe_ix ix_tup (pe_cl U.wr hr (pa_cons (pv 14) pa_nil)) pe_int (fun _ _ => rfl))) (pe_tup (pa_cons pe_int (pa_cons (pv 10) pa_nil))) (nomark _)))))))) pss_nv pss_nil)
    (pss_cons ((ps_set (i := 15) (FnScope.nd nLR_) rfl (Or.inl rfl) (pe_cl U.pt hr (pa_cons (pe_revL (pv 13)) pa_nil))))
    (pss_one (ps_ret (pe_cmpR op_eq (pe_callB (call_repD hG2 hu) (by rfl) B.repr_ PyProof.Rows.boot_repr (pa_cons (pe_cl U.fi hr (pa_cons (pe_mkG (j := 0) S U.U9.told U.U9.str (pe_cl U.tx hr (pa_cons (pv 15) (pa_cons pe_int pa_nil))) r8 (by rfl)) pa_nil)) pa_nil)) (pe_callB (call_repD hG2 hu) (by rfl) B.repr_ PyProof.Rows.boot_repr (pa_cons (pe_cmpR op_gt (pe_op op_mulW (pv 10) (pv 11)) (pv 12) (nomark _)) pa_nil)) (nomark _))))))))))))))))), ?_⟩
  have e0 : L2.start nLR [V.ref tub] = [some (.ref tub), none, none, none, none, none, none, none, none, none, none, none, none, none, none, none] := rfl
  rw [e0]
  have z2 : (2 : Nat) ≤ sizeLine := by decide
  have z1 : (1 : Nat) ≤ sizeLine := by decide
  have z3 : (3 : Nat) ≤ sizeLine := by decide
  have z4 : (4 : Nat) ≤ sizeLine := by decide
  have l10 : ∀ {i : Int}, i.natAbs ≤ 1000 → i.natAbs.log2 < 1920 := fun {i} hi => Nat.lt_of_lt_of_le (PySem.Flt.log2_lt_of (show 0 < 10 by decide) (show i.natAbs < 2 ^ 10 by omega)) (by decide)
  have s1k : ∀ {i : Int}, i.natAbs ≤ 1000 → Sm 900 i := fun {i} hi => sm9 (by omega) (by omega)
  have txt : ∀ (a b : String), (Str.ofString a).length ≤ 20 → (Str.ofString b).length ≤ 20 → ∀ {i : Int}, i.natAbs ≤ 1000 → (Str.ofString a).length + (W i).length ≤ sizeLine ∧ (Str.ofString a ++ W i).length + (Str.ofString b).length ≤ sizeLine := fun a b ha hb {i} hi => by
    obtain ⟨u1, u2⟩ := pre_len a ha hi
    have : (50 : Nat) ≤ sizeLine := by decide
    omega
  refine ⟨_, rfl, (tub, 15), rfl, hR, (show (1 : Int) ≤ 15 by decide), (show (15 : Int) ≤ 1000 by decide), fun n1 H1 x1 R1 n10 n11 => ?_⟩
  refine ⟨_, _, rfl, rfl, ?_⟩
  refine ⟨_, rfl, (tub, 200), rfl, R1, (show (1 : Int) ≤ 200 by decide), (show (200 : Int) ≤ 1000 by decide), fun n2 H2 x2 R2 n20 n21 => ?_⟩
  have n11 : n1 < 15 := n11
  have n21 : n2 < 200 := n21
  have x2 : SameX tub H H2 := SameX.trans (show SameX tub H H1 from x1) (show SameX tub H1 H2 from x2)
  have R2 : RkI H2 tub := R2
  clear x1 R1
  refine ⟨_, _, rfl, rfl, ?_⟩
  refine ⟨_, _, rfl, ?_⟩
  obtain ⟨Wn, hW⟩ : ∃ W : Nat, 1 + n1 = (W : Int) := Int.eq_ofNat_of_zero_le (by omega)
  obtain ⟨N, hN⟩ : ∃ N : Nat, 2 + n2 = (N : Int) := Int.eq_ofNat_of_zero_le (by omega)
  obtain ⟨o1, d1, d2, d3, d4⟩ := rd_of (n := 2 + n2) (by omega) (by omega)
  refine ⟨_, rfl, 2 + n2, rfl, o1, ?_⟩
  rintro _ HX - ⟨rfl, eX⟩
  have eX : H2 = HX := (show HX = H2 from eX).symm
  subst eX
  dsimp only
  rw [hN] at d1 d2 d3 d4 ⊢
  rw [hW]
  generalize rdL (N : Int) = d at *
  have w1 : 1 ≤ Wn := by omega
  have w2 : Wn ≤ 15 := by omega
  have N1 : 2 ≤ N := by omega
  have N2 : N ≤ 201 := by omega
  clear n10 n11 n20 n21 hW hN o1
  have sW : Sm 900 (Wn : Int) := s1k (by omega)
  have sd : Sm 900 d := s1k (by omega)
  refine ⟨fun σ' H' => (∃ b1 b2 b3 b4 b5 b6 : Option V, σ' = [some (.ref tub), b1, b2, b3, b4, b5, b6, none, none, none, none, none, none, none, none, none]) ∧ SameX tub H H' ∧ RkI H' tub, ?_, ?_⟩
  · refine ⟨_, rfl, _, rfl, _, _, rfl, rfl, cm sd sd, _, rfl, rfl, _, rfl, ?_⟩
    show (if (!decide (V.int (d * d) = V.int (N : Int))) = true then _ else _)
    by_cases q : d * d = (N : Int)
    · rw [decide_eq_true (show V.int (d * d) = V.int (N : Int) by rw [q])]
      exact iteF ⟨⟨_, _, _, _, _, _, rfl⟩, x2, R2⟩
    rw [decide_eq_false (show ¬ V.int (d * d) = V.int (N : Int) from fun z => q (V.int.inj z))]
    have nsq : N ≠ Wn * Wn := fun z => by
      refine nosq (n := (N : Int)) (d := d) (by omega) d1 d2 q (Wn : Int) ?_
      rw [z, Int.natCast_mul]
    obtain ⟨k1, k2⟩ := lone_ok (n := (N : Int)) (d := d) (by omega) (by omega) d3 d1 d2 q
    have O := great_of (n := (N : Int)) (w := (Wn : Int)) (d := d) (by omega) (by omega) (by omega) (by omega) d3 d4 d1 d2 q
    have tl1 := tl_of N1 N2
    unfold tl at tl1
    rw [Bool.and_eq_true] at tl1
    obtain ⟨tl1, tl2⟩ := tl1
    have tl2 : (stpX [-(N : Int), 0, 1]).length ≠ 2 := of_decide_eq_true tl2
    obtain ⟨u1, u2⟩ := txt "root 1 of " " 0 1" (by decide +kernel) (by decide +kernel) (i := -(N : Int)) (by omega)
    -- the lone root
    refine iteT ⟨_, rfl, _, rfl, _, rfl, l10 (by omega), _, _, rfl, rfl, u1, _, _, rfl, rfl, u2, ?_⟩
    intro x4 dx4 hx4 hdx4 nx4
    refine ⟨H2, x4, dx4, _, 1, [-(N : Int), 0, 1], rfl, Same.put (same_new hdx4) hx4, hx4, upd_same, by rw [← tx_sq]; exact okT_of k1, k2, fun H4 s4 S4 => ⟨rfl, ?_⟩⟩
    clear hx4 hdx4 nx4
    -- the sum
    refine ⟨rfl, _, rfl, _, rfl, _, _, rfl, rfl, cm sW sW, _, rfl, _, _, rfl, rfl, _, rfl, _, rfl, _, _, rfl, rfl, cm (show Sm 900 (-2 : Int) by decide) sW, z3, fun p hp => ⟨_, rfl, z2, fun l hl => ⟨_, rfl, _, rfl, _, _, rfl, rfl, _, _, rfl, rfl, z2, fun h hh => ?_⟩⟩⟩
    have s5a := same_new (o := .tup [.int ((Wn : Int) * Wn - N), .int (-2 * (Wn : Int)), .int 1]) hp
    have s5b := same_new (o := .tup [.int (Wn : Int), .int 1]) hl
    have s5c := same_new (o := .tup [.int ((Wn : Int) + d + 1), .int 1]) hh
    refine sp_of9 O (TI.same (s5b.trans s5c) upd_same) (TI.same s5c upd_same) upd_same fun sh H5 s5 S5 => ?_
    have S5 : ShpG C H5 sh (txL 1 (q2 Wn N)) 1 (q2 Wn N) := S5
    have s45 := s5a.trans (s5b.trans (s5c.trans s5))
    have S4 := S4.same s45
    have t5 := s4.trans s45
    clear s5a s5b s5c s5 s45 hp hl hh s4
    -- what is due
    refine ⟨fun σ' H' => ∃ v6 : V, σ' = [some (.ref tub), some (.int (Wn : Int)), some (.int (N : Int)), some (.int d), some (.ref x4), some (.ref sh), some v6, none, none, none, none, none, none, none, none, none] ∧ Same H5 H' ∧ RD H' v6 (ddW Wn N), ?_, ?_⟩
    · refine ⟨_, rfl, _, rfl, _, _, rfl, rfl, cm sW sW, _, rfl, _, _, rfl, rfl, _, rfl, ?_⟩
      have wi : (Wn : Int) * Wn = ((Wn * Wn : Nat) : Int) := (Int.natCast_mul Wn Wn).symm
      by_cases c : N < Wn * Wn
      · rw [decide_eq_true (show ((Wn : Int) * Wn > (N : Int)) by rw [wi]; omega)]
        have ww : Wn * Wn ≤ 15 * 15 := Nat.mul_le_mul w2 w2
        refine iteT ⟨_, rfl, _, _, rfl, rfl, cm (show Sm 900 (2 : Int) by decide) sW, z2, fun t1 ht1 => ?_⟩
        have y1 := same_new (o := .tup [.int 1, .int (2 * (Wn : Int))]) ht1
        have e1 : TI (upd H5 t1 (.tup [.int 1, .int (2 * (Wn : Int))])) t1 [1, 2 * (Wn : Int)] := upd_same
        generalize upd H5 t1 (.tup [.int 1, .int (2 * (Wn : Int))]) = H6 at *
        refine ⟨_, rfl, _, _, rfl, rfl, cm (show Sm 900 (2 : Int) by decide) sW, _, rfl, _, rfl, _, _, rfl, rfl, cm sW sW, _, rfl, _, _, rfl, rfl, z2, fun t2 ht2 => ?_⟩
        have y2 := same_new (o := .tup [.int (2 * (Wn : Int)), .int ((Wn : Int) * Wn - N)]) ht2
        have e2 : TI (upd H6 t2 (.tup [.int (2 * (Wn : Int)), .int ((Wn : Int) * Wn - N)])) t2 [2 * (Wn : Int), (Wn : Int) * Wn - N] := upd_same
        generalize upd H6 t2 (.tup [.int (2 * (Wn : Int)), .int ((Wn : Int) * Wn - N)]) = H7 at *
        refine ⟨(t2, 2 * (Wn : Int), (Wn : Int) * Wn - N), rfl, ⟨e2, by show 1 ≤ 2 * (Wn : Int); omega, by show 2 * (Wn : Int) ≤ 1000; omega, by show 1 ≤ (Wn : Int) * Wn - N; rw [wi]; omega, by show (Wn : Int) * Wn - N ≤ 1000; rw [wi]; omega⟩, ?_⟩
        rintro _ H8 s8 ⟨q8, rfl, hq8⟩
        refine ⟨z2, fun td htd => ?_⟩
        have y9 := same_new (o := .tup [.ref t1, .ref q8]) htd
        refine ⟨.ref td, rfl, y1.trans (y2.trans (s8.trans y9)), ?_⟩
        unfold ddW
        rw [if_pos c]
        exact .prs (as := [t1, q8]) (ps := dueQ Wn N) upd_same ⟨TI.same (y2.trans (s8.trans y9)) e1, TI.same y9 hq8, trivial⟩
      · rw [decide_eq_false (show ¬ ((Wn : Int) * Wn > (N : Int)) by rw [wi]; omega)]
        refine iteF ⟨.non, rfl, Same.refl _, ?_⟩
        unfold ddW
        rw [if_neg c]
        exact .non
    rintro σ' H6 ⟨v6, rfl, s6, r6⟩
    have S4 := S4.same s6
    have S5 := S5.same s6
    have t6 := t5.trans s6
    refine ⟨_, rfl, (x4, _, 1, [-(N : Int), 0, 1]), rfl, ⟨S4, by show 1 ≤ 3; decide, by show 3 ≤ 100; decide, tl1⟩, ?_⟩
    rintro _ H7 s7 rfl
    refine ⟨_, rfl, ?_⟩
    rw [decide_eq_false (show ¬ (stpX [-(N : Int), 0, 1]).length = ([-(N : Int), 0, 1] : List Int).length - 1 from tl2)]
    refine iteF ⟨_, rfl, (x4, _, 1, [-(N : Int), 0, 1]), rfl, ⟨S4.same s7, by show 1 ≤ 3; decide, by show 3 ≤ 100; decide, tl1⟩, ?_⟩
    rintro v8 H8 s8 ho
    have ho : WrO H8 v8 [-(N : Int), 0, 1] := ho
    rcases ho with ⟨c, _⟩ | ⟨_, rfl⟩
    · exact absurd c tl2
    refine ⟨rfl, _, rfl, ?_⟩
    show (if false = true then _ else _)
    refine iteF ⟨_, rfl, (sh, _, 1, q2 Wn N), rfl, ⟨S5.same (s7.trans s8), by show 1 ≤ 3; decide, by show 3 ≤ 100; decide, q2_ok w1 w2 N1 N2 nsq⟩, ?_⟩
    rintro v9 H9 s9 ho
    have s69 := s7.trans (s8.trans s9)
    refine ⟨v9, ddW Wn N, rfl, wr_dd w1 w2 N1 N2 nsq ho, sho_dd w1 w2, ?_⟩
    refine ⟨_, rfl, v6, ddW Wn N, rfl, r6.same s69, sho_dd w1 w2, rfl, _, rfl, ?_⟩
    show (if (!decide (V.str (ddW Wn N).shown = V.str (ddW Wn N).shown)) = true then _ else _)
    rw [decide_eq_true rfl]
    have tA := t6.trans s69
    exact iteF ⟨⟨_, _, _, _, _, _, rfl⟩, x2.trans (SameX.of tA), R2.same tA⟩
  clear d1 d2 d3 d4 sW sd x2 R2
  rintro σ' H3 ⟨⟨b1, b2, b3, b4, b5, b6, rfl⟩, x3, R3⟩
  -- a fraction
  refine ⟨_, rfl, (tub, 60), rfl, R3, (show (1 : Int) ≤ 60 by decide), (show (60 : Int) ≤ 1000 by decide), fun n3 H4 x4 R4 n30 n31 => ?_⟩
  refine ⟨_, _, rfl, rfl, ?_⟩
  refine ⟨_, rfl, (tub, 60), rfl, R4, (show (1 : Int) ≤ 60 by decide), (show (60 : Int) ≤ 1000 by decide), fun n4 H5 x5 R5 n40 n41 => ?_⟩
  have n31 : n3 < 60 := n31
  have n41 : n4 < 60 := n41
  have x5 : SameX tub H H5 := x3.trans (SameX.trans (show SameX tub H3 H4 from x4) (show SameX tub H4 H5 from x5))
  have R5 : RkI H5 tub := R5
  clear x3 x4 R3 R4
  refine ⟨_, _, rfl, rfl, ?_⟩
  refine ⟨_, _, rfl, ?_⟩
  obtain ⟨T, hT⟩ : ∃ T : Nat, 1 + n3 = (T : Int) := Int.eq_ofNat_of_zero_le (by omega)
  obtain ⟨Bt, hB⟩ : ∃ B : Nat, 1 + n4 = (B : Int) := Int.eq_ofNat_of_zero_le (by omega)
  refine ⟨_, rfl, _, rfl, (1 + n3, 1 + n4), rfl, ⟨by show (1 + n3).natAbs ≤ 100000; omega, by show (1 + n4).natAbs ≤ 100000; omega⟩, ?_⟩
  rintro _ HX - ⟨rfl, eX⟩
  have eX : H5 = HX := (show HX = H5 from eX).symm
  subst eX
  dsimp only
  rw [hT, hB, Int.natAbs_natCast, Int.natAbs_natCast]
  have T1 : 1 ≤ T := by omega
  have T2 : T ≤ 60 := by omega
  have B1 : 1 ≤ Bt := by omega
  have B2 : Bt ≤ 60 := by omega
  clear n30 n31 n40 n41 hT hB
  have gp : 0 < Nat.gcd T Bt := Nat.gcd_pos_of_pos_left _ (by omega)
  have gl : Nat.gcd T Bt ≤ T := Nat.gcd_le_left _ (by omega)
  have dv : ∀ i : Int, CDivX i ((Nat.gcd T Bt : Nat) : Int) := fun i => ⟨by omega, Nat.lt_of_lt_of_le (PySem.Flt.log2_lt_of (show 0 < 10 by decide) (show (((Nat.gcd T Bt : Nat) : Int)).natAbs < 2 ^ 10 by omega)) (by decide)⟩
  refine ⟨_, rfl, _, rfl, _, _, rfl, rfl, dv _, _, rfl, _, rfl, _, _, rfl, rfl, dv _, _, _, rfl, ?_⟩
  dsimp only
  rw [fdivNat, fdivNat]
  have cg : Nat.gcd (T / Nat.gcd T Bt) (Bt / Nat.gcd T Bt) = 1 := Nat.gcd_div_gcd_div_gcd_of_pos_left (by omega)
  have t1 : 1 ≤ T / Nat.gcd T Bt := Nat.div_pos gl gp
  have t2 : T / Nat.gcd T Bt ≤ 60 := Nat.le_trans (Nat.div_le_self _ _) T2
  have b1' : 1 ≤ Bt / Nat.gcd T Bt := Nat.div_pos (Nat.gcd_le_right _ (by omega)) gp
  have b2' : Bt / Nat.gcd T Bt ≤ 60 := Nat.le_trans (Nat.div_le_self _ _) B2
  generalize T / Nat.gcd T Bt = t at *
  generalize Bt / Nat.gcd T Bt = b at *
  generalize ((Nat.gcd T Bt : Nat) : Int) = gg at *
  clear T1 T2 B1 B2 gp gl dv
  obtain ⟨k1, k2⟩ := frac_ok (t := (t : Int)) (b := (b : Int)) (by omega) (by omega) (by omega) (by omega) (by rw [Int.natAbs_natCast, Int.natAbs_natCast]; exact cg)
  have tf1 := tf_of t1 t2 b1' b2'
  unfold tf at tf1
  rw [decide_eq_true cg, Bool.not_true, Bool.false_or, Bool.and_eq_true] at tf1
  obtain ⟨tf1, tf2⟩ := tf1
  have tf2 : stpX [-(t : Int), (b : Int)] = [((b : Int), (t : Int))] := of_decide_eq_true tf2
  obtain ⟨u1, u2⟩ := txt "root 0 of " " " (by decide +kernel) (by decide +kernel) (i := -(t : Int)) (by omega)
  have u3 : (Str.ofString "root 0 of " ++ W (-(t : Int)) ++ Str.ofString " ").length + (W (b : Int)).length ≤ sizeLine := by
    have h1 := (pre_len "root 0 of " (by decide +kernel) (i := -(t : Int)) (by omega)).2
    have h2 := (pre_len " " (by decide +kernel) (i := (b : Int)) (by omega)).1
    have e : (Str.ofString "root 0 of " ++ W (-(t : Int)) ++ Str.ofString " ").length = (Str.ofString "root 0 of " ++ W (-(t : Int))).length + (Str.ofString " ").length := by
      rw [TL.len_tl, TL.len_tl, TL.len_tl, tl_add, List.length_append]
    have : (100 : Nat) ≤ sizeLine := by decide
    omega
  refine ⟨_, rfl, _, rfl, _, rfl, l10 (by omega), _, _, rfl, rfl, u1, _, _, rfl, rfl, u2, _, rfl, _, rfl, l10 (by omega), _, _, rfl, rfl, u3, ?_⟩
  intro xf dxf hxf hdxf nxf
  refine ⟨H5, xf, dxf, _, 0, [-(t : Int), (b : Int)], rfl, Same.put (same_new hdxf) hxf, hxf, upd_same, by rw [← tx_lin2]; exact okT_of k1, k2, fun H6 s6 S6 => ⟨rfl, ?_⟩⟩
  refine ⟨(xf, _, 0, [-(t : Int), (b : Int)]), rfl, ⟨S6, by show 1 ≤ 2; decide, by show 2 ≤ 100; decide, tf1⟩, ?_⟩
  rintro v7 H7 s7 ho
  have ho : WrO H7 v7 [-(t : Int), (b : Int)] := ho
  clear hxf hdxf nxf
  obtain ⟨_, qf, as, rfl, ef, hP⟩ := (show (_ ∧ _) ∨ (_ ∧ _) from ho).resolve_right fun c => c.1 (by rw [tf2]; rfl)
  rw [tf2] at hP
  refine ⟨_, rfl, _, rfl, z2, fun t8 ht8 => ⟨z1, fun t9 ht9 => ?_⟩⟩
  have y8 := same_new (o := .tup [.int (b : Int), .int (t : Int)]) ht8
  have e8 : upd H7 t8 (.tup [.int (b : Int), .int (t : Int)]) t8 = some (.tup [.int (b : Int), .int (t : Int)]) := upd_same
  generalize upd H7 t8 (.tup [.int (b : Int), .int (t : Int)]) = H8 at *
  have y9 := same_new (o := .tup [.ref t8]) ht9
  have e9 : upd H8 t9 (.tup [.ref t8]) t9 = some (.tup [.ref t8]) := upd_same
  have y89 := y8.trans y9
  refine ⟨.tuple [dT [(b : Int), (t : Int)]], .tuple [dT [(b : Int), (t : Int)]], .tup (SqT.of (y89 _ _ ef)) (hP.same y89).dp, .tup (SqT.of e9) (.cons (.tup (SqT.of (y9 _ _ e8)) (dp_ints [(b : Int), (t : Int)])) .nil), rfl, rfl, _, rfl, ?_⟩
  rw [PySem.SeqAt.eqv_refl _ rfl]
  refine iteF ?_
  generalize upd H8 t9 (.tup [.ref t8]) = H9 at *
  have t59 := s6.trans (s7.trans y89)
  have x9 := x5.trans (SameX.of t59)
  have R9 := R5.same t59
  clear x5 R5 s6 S6 s7 ef hP y8 y9 y89 e8 e9 ht8 ht9 t59
  -- a cubic equation
  refine ⟨_, rfl, (tub, 9), rfl, R9, (show (1 : Int) ≤ 9 by decide), (show (9 : Int) ≤ 1000 by decide), fun n5 H10 x10 R10 n50 n51 => ?_⟩
  refine ⟨_, _, rfl, rfl, ?_⟩
  refine ⟨_, rfl, (tub, 9), rfl, R10, (show (1 : Int) ≤ 9 by decide), (show (9 : Int) ≤ 1000 by decide), fun n6 H11 x11 R11 n60 n61 => ?_⟩
  refine ⟨_, _, rfl, rfl, ?_⟩
  refine ⟨_, rfl, (tub, 30), rfl, R11, (show (1 : Int) ≤ 30 by decide), (show (30 : Int) ≤ 1000 by decide), fun n7 H12 x12 R12 n70 n71 => ?_⟩
  have n51 : n5 < 9 := n51
  have n61 : n6 < 9 := n61
  have n71 : n7 < 30 := n71
  have x12 : SameX tub H H12 := x9.trans (SameX.trans (show SameX tub H9 H10 from x10) (SameX.trans (show SameX tub H10 H11 from x11) (show SameX tub H11 H12 from x12)))
  clear x9 x10 x11 R9 R10 R11 R12
  refine ⟨_, _, rfl, rfl, ?_⟩
  refine ⟨_, _, _, rfl, ?_⟩
  dsimp only
  obtain ⟨ca, ha⟩ : ∃ a : Nat, 1 + n5 = (a : Int) := Int.eq_ofNat_of_zero_le (by omega)
  obtain ⟨cb, hb⟩ : ∃ a : Nat, 1 + n6 = (a : Int) := Int.eq_ofNat_of_zero_le (by omega)
  obtain ⟨cc, hc⟩ : ∃ a : Nat, 1 + n7 = (a : Int) := Int.eq_ofNat_of_zero_le (by omega)
  rw [ha, hb, hc]
  have a1 : 1 ≤ ca := by omega
  have a2 : ca ≤ 9 := by omega
  have bb1 : 1 ≤ cb := by omega
  have bb2 : cb ≤ 9 := by omega
  have c1 : 1 ≤ cc := by omega
  have c2 : cc ≤ 30 := by omega
  clear n50 n51 n60 n61 n70 n71 ha hb hc
  refine ⟨_, rfl, _, rfl, _, rfl, _, rfl, _, rfl, z4, fun l hl => ?_⟩
  have yl := same_new (o := .lst [.int (-(cc : Int)), .int (cb : Int), .int (-(ca : Int)), .int 1]) hl
  have el : LI (upd H12 l (.lst [.int (-(cc : Int)), .int (cb : Int), .int (-(ca : Int)), .int 1])) l (c3 ca cb cc) := upd_same
  dsimp only
  generalize upd H12 l (.lst [.int (-(cc : Int)), .int (cb : Int), .int (-(ca : Int)), .int 1]) = H13 at *
  have x13 := x12.trans (SameX.of yl)
  clear yl hl x12
  have bc3 : ∀ x ∈ c3 ca cb cc, x.natAbs ≤ 30 := fun x hx => by
    unfold c3 at hx
    simp only [List.mem_cons, List.not_mem_nil, or_false] at hx
    omega
  refine ⟨_, rfl, (l, c3 ca cb cc), rfl, ⟨el, rfl, fun x hx => Nat.lt_of_le_of_lt (bc3 x hx) (by decide), rfl, bc3 _ (List.mem_cons_self ..)⟩, ?_⟩
  rintro _ H14 s14 rfl
  have el : LI H14 l (c3 ca cb cc) := s14 _ _ el
  have x14 := x13.trans (SameX.of s14)
  refine ⟨_, rfl, ?_⟩
  cases hs : spB (c3 ca cb cc) with
  | true => exact iteT (k _ x14)
  | false =>
  have hb := tb_of a1 a2 bb1 bb2 c1 c2
  unfold tb at hb
  rw [spl_no c1 hs, Bool.false_or, Bool.and_eq_true, Bool.and_eq_true] at hb
  obtain ⟨⟨hw1, hw2⟩, hw3⟩ := hb
  obtain ⟨p1, p2, p3, p4⟩ := tw_ok hw1
  obtain ⟨q1, q2, q3, q4⟩ := tw_ok hw2
  have ab : decide ((ca : Int) * cb > (cc : Int)) = decide (cc < ca * cb) := by
    have e : (ca : Int) * cb = ((ca * cb : Nat) : Int) := (Int.natCast_mul ca cb).symm
    rw [e]
    by_cases c : cc < ca * cb
    · rw [decide_eq_true c, decide_eq_true (show (((ca * cb : Nat) : Int) > (cc : Int)) by omega)]
    · rw [decide_eq_false c, decide_eq_false (show ¬ (((ca * cb : Nat) : Int) > (cc : Int)) by omega)]
  have sa : Sm 900 (ca : Int) := s1k (by omega)
  have sb : Sm 900 (cb : Int) := s1k (by omega)
  refine iteF ⟨_, rfl, (l, 0, c3 ca cb cc), rfl, ⟨el, okTx_of (show (0 : Int).natAbs ≤ 1000 by decide) (by show 4 ≤ 6; decide) fun x hx => Nat.le_trans (bc3 x hx) (by decide)⟩, ?_⟩
  rintro _ H15 s15 rfl
  intro xc dxc hxc hdxc nxc
  refine ⟨H15, xc, dxc, _, 0, c3 ca cb cc, rfl, Same.put (same_new hdxc) hxc, hxc, upd_same, okT_of p1, p2, fun H16 s16 S16 => ⟨rfl, ?_⟩⟩
  clear hxc hdxc nxc
  have el : LI H16 l (c3 ca cb cc) := s16 _ _ (s15 _ _ el)
  have x16 := x14.trans (SameX.of (s15.trans s16))
  clear x13 x14 s14 s15 s16
  refine ⟨_, rfl, (xc, _, 0, c3 ca cb cc), rfl, ⟨S16, by show 1 ≤ 4; decide, by show 4 ≤ 100; decide, p3⟩, ?_⟩
  rintro _ H17 s17 rfl
  refine ⟨_, .bool _, rfl, .bl _, sho_bl _, ?_⟩
  refine ⟨_, rfl, _, rfl, _, _, rfl, rfl, cm sa sb, _, rfl, _, _, rfl, rfl, _, .bool _, rfl, .bl _, sho_bl _, rfl, _, rfl, ?_⟩
  have p4 : decide ((stpX (c3 ca cb cc)).length = (c3 ca cb cc).length - 1) = decide ((ca : Int) * cb > (cc : Int)) := p4.trans ab.symm
  show (if (!decide (V.str (PyData.bool (decide ((stpX (c3 ca cb cc)).length = (c3 ca cb cc).length - 1))).shown = V.str (PyData.bool (decide ((ca : Int) * cb > (cc : Int)))).shown)) = true then _ else _)
  rw [p4, decide_eq_true rfl]
  refine iteF ?_
  have el : LI H17 l (c3 ca cb cc) := s17 _ _ el
  have S17 := S16.same s17
  have x17 := x16.trans (SameX.of s17)
  clear x16 s17 S16
  refine ⟨fun σ' H' => (∃ b1 b2 b3 b4 b5 b6 b7 b8 b9 b14 : Option V, σ' = [some (.ref tub), b1, b2, b3, b4, b5, b6, b7, b8, b9, some (.int (ca : Int)), some (.int (cb : Int)), some (.int (cc : Int)), some (.ref l), b14, none]) ∧ Same H17 H', ?_, ?_⟩
  · refine ⟨_, rfl, _, rfl, _, _, rfl, rfl, cm sa sb, _, rfl, _, _, rfl, rfl, _, rfl, ?_⟩
    by_cases c : cc < ca * cb
    · rw [ab, decide_eq_true c]
      have h3 : (stpX (c3 ca cb cc)).length = 3 := by
        rw [ab, decide_eq_true c] at p4
        exact of_decide_eq_true p4
      have hw3 : (stpX (c3 ca cb cc)).head? = some (1, (ca : Int)) := by
        rw [decide_eq_false (show ¬ ca * cb ≤ cc by omega), Bool.false_or] at hw3
        exact of_decide_eq_true hw3
      refine iteT ⟨_, rfl, (xc, _, 0, c3 ca cb cc), rfl, ⟨S17, by show 1 ≤ 4; decide, by show 4 ≤ 100; decide, p3⟩, ?_⟩
      rintro v8 H18 s18 ho
      have ho : WrO H18 v8 (c3 ca cb cc) := ho
      obtain ⟨_, qc, as, rfl, ec, hP⟩ := (show (_ ∧ _) ∨ (_ ∧ _) from ho).resolve_right fun c => c.1 h3
      refine ⟨rfl, _, rfl, ?_⟩
      show (if false = true then _ else _)
      refine iteF ⟨_, rfl, (xc, _, 0, c3 ca cb cc), rfl, ⟨S17.same s18, by show 1 ≤ 4; decide, by show 4 ≤ 100; decide, p3⟩, ?_⟩
      rintro v9 H19 s19 ho
      have ho : WrO H19 v9 (c3 ca cb cc) := ho
      obtain ⟨_, qd, as2, rfl, ed, hP2⟩ := (show (_ ∧ _) ∨ (_ ∧ _) from ho).resolve_right fun c => c.1 h3
      obtain ⟨a0, at_, rfl, h0⟩ : ∃ a0 at_, as2 = a0 :: at_ ∧ TI H19 a0 [1, (ca : Int)] := by
        cases hq : stpX (c3 ca cb cc) with
        | nil =>
          rw [hq] at h3
          cases h3
        | cons p ps =>
          rw [hq] at hw3 hP2
          have ep : p = (1, (ca : Int)) := Option.some.inj hw3
          cases as2 with
          | nil => exact hP2.elim
          | cons a0 at_ =>
            rw [ep] at hP2
            exact ⟨a0, at_, rfl, hP2.1⟩
      refine ⟨qd, _, _, .ref a0, rfl, rfl, SqT.of ed, atI_nat (j := 0) rfl, ?_⟩
      refine ⟨_, rfl, z2, fun t8 ht8 => ?_⟩
      have y8 := same_new (o := .tup [.int 1, .int (ca : Int)]) ht8
      refine ne_row (u := [1, (ca : Int)]) (v := [1, (ca : Int)]) (TI.same y8 h0) upd_same ⟨_, rfl, ?_⟩
      rw [decide_eq_true rfl]
      exact iteF ⟨⟨_, _, _, _, _, _, _, _, _, _, rfl⟩, s18.trans (s19.trans y8)⟩
    · rw [ab, decide_eq_false c]
      exact iteF (iteF ⟨⟨_, _, _, _, _, _, _, _, _, _, rfl⟩, Same.refl _⟩)
  rintro σ' H18 ⟨⟨v1, v2, v3, v4, v5, v6, v7, v8, v9, v14, rfl⟩, s18⟩
  have el : LI H18 l (c3 ca cb cc) := s18 _ _ el
  have el0 : H18 l = some (.lst ((c3 ca cb cc).map V.int)) := el
  have x18 := x17.trans (SameX.of s18)
  -- turned
  refine ⟨_, rfl, l, _, rfl, SqL.of el0, fun p hp => ?_⟩
  have yp := same_new (o := .lst (((c3 ca cb cc).map V.int).reverse)) hp
  have ep : LI (upd H18 p (.lst (((c3 ca cb cc).map V.int).reverse))) p [1, -(ca : Int), (cb : Int), -(cc : Int)] := upd_same
  generalize upd H18 p (.lst (((c3 ca cb cc).map V.int).reverse)) = H19 at *
  refine ⟨(p, [1, -(ca : Int), (cb : Int), -(cc : Int)]), rfl, ⟨ep, by show 1 ≤ 4; decide, by show 4 ≤ 10; decide, fun x hx => ?_, ?_, by show -(cc : Int) < 0; omega⟩, ?_⟩
  · simp only [List.mem_cons, List.not_mem_nil, or_false] at hx
    omega
  · show Nat.gcd (Nat.gcd (Nat.gcd (Nat.gcd 0 1) (-(ca : Int)).natAbs) (cb : Int).natAbs) (-(cc : Int)).natAbs = 1
    rw [Nat.gcd_zero_left, Nat.gcd_one_left, Nat.gcd_one_left, Nat.gcd_one_left]
  rintro _ H20 s20 ⟨qt, rfl, hqt⟩
  have hqt : LI H20 qt (c3r ca cb cc) := by
    have e : ngL [1, -(ca : Int), (cb : Int), -(cc : Int)] = c3r ca cb cc := by
      unfold ngL c3r
      simp
    rw [← e]
    exact hqt
  have br : ∀ x ∈ c3r ca cb cc, x.natAbs ≤ 1000 := fun x hx => by
    unfold c3r at hx
    simp only [List.mem_cons, List.not_mem_nil, or_false] at hx
    omega
  refine ⟨_, rfl, (qt, 0, c3r ca cb cc), rfl, ⟨hqt, okTx_of (show (0 : Int).natAbs ≤ 1000 by decide) (by show 4 ≤ 6; decide) br⟩, ?_⟩
  rintro _ H21 s21 rfl
  intro xd dxd hxd hdxd nxd
  refine ⟨H21, xd, dxd, _, 0, c3r ca cb cc, rfl, Same.put (same_new hdxd) hxd, hxd, upd_same, okT_of q1, q2, fun H22 s22 S22 => ⟨rfl, ?_⟩⟩
  refine ⟨(xd, _, 0, c3r ca cb cc), rfl, ⟨S22, by show 1 ≤ 4; decide, by show 4 ≤ 100; decide, q3⟩, ?_⟩
  rintro _ H23 s23 rfl
  refine ⟨_, .bool _, rfl, .bl _, sho_bl _, ?_⟩
  refine ⟨_, rfl, _, rfl, _, _, rfl, rfl, cm sa sb, _, rfl, _, _, rfl, rfl, _, .bool _, rfl, .bl _, sho_bl _, rfl, ?_⟩
  have q4 : decide ((stpX (c3r ca cb cc)).length = (c3r ca cb cc).length - 1) = decide ((ca : Int) * cb > (cc : Int)) := q4.trans ab.symm
  show Q (.bl (decide (V.str (PyData.bool (decide ((stpX (c3r ca cb cc)).length = (c3r ca cb cc).length - 1))).shown = V.str (PyData.bool (decide ((ca : Int) * cb > (cc : Int)))).shown))) H23
  rw [q4, decide_eq_true rfl]
  exact k _ (x18.trans (SameX.of (yp.trans (s20.trans (s21.trans (s22.trans s23))))))
end
end Xq
/-! law; all defs together (k39). -/
namespace Xq
open PySem PySem.Spec PyProof.Rows L2 Xk
section
variable {P : Program} {w : World} {K : PySem.W.Frag} {mg : Str → Option Value} {base : Heap} {C : Addr}
theorem SqL.sx {H H' : Hp} {a D : Addr} {xs : List V} (h : SqL K H a xs) (hD : H D = none) (e : SameX D H H') : SqL K H' a xs := by
  rcases h with (h | ⟨o, h⟩) | h
  · exact .inl (.inl (e _ _ (fun z => by rw [z, hD] at h; cases h) h))
  · exact .inl (.inr ⟨o, e _ _ (fun z => by rw [z, hD] at h; cases h) h⟩)
  · exact .inr h
abbrev nLaw : List Str := ["_law_cells", "_law_turn"]
theorem l68 : FnScope nLaw ["_law_cells"] (defScope (top 79)) := (⟨rfl, rfl, rfl, by decide +kernel, rfl, by decide +kernel, by decide +kernel⟩)
def spLaw (K : PySem.W.Frag) : Sp := fun vs H Q _ => ∃ (a : Addr) (ns : List Int), vs = [.ref a] ∧ SqL K H a (ns.map V.int) ∧ ns.length ≤ 63 ∧ ∀ H', Q (.bl true) H'
theorem all_true (n : Nat) : (List.replicate n true).all id = true := by
  induction n with
  | zero => rfl
  | succ n ih => rw [List.replicate_succ, List.all_cons, ih]; rfl
theorem c_law (D : Df K mg "law" (top 79)) (B : Bl mg) (CR : CalG P w K mg base 12 "_law_right" ["_law_tub_here"] spRight) (CT : Cal P w K mg base 1 "_law_tub" ["_law_cells", "_law_turn"] (spTub K)) : CalG P w K mg base 13 "law" ["_law_cells"] (spLaw K) := by
  refine mkG D l68 (fun _ _ _ _ _ _ us hl => match us, hl with | [_], _ => rfl) (fun vs H Q E h => ?_) (fun f cdv A outer s H vs Q E hr hG h => ?_)
  · obtain ⟨a, ns, rfl, _⟩ := h
    rfl
  obtain ⟨a, ns, rfl, hS, hlen, k⟩ := h
  have hG2 : (A.deeper (envOfC "law" (defScope (top 79)) s.heap.objs.size f cdv)).guards = some [] := hG
  refine ⟨_, pss_one (ps_ret (pe_callB (cr_all rfl) (by rfl) B.all_ PyProof.Rows.boot_all (pa_cons
      (pe_lc (own := [("_law_turn", 1)]) (g := gName 1) (tt := tYes) (te := tCall spRight [] L2.E0 (tCons (tCall (spTub K) [] L2.E0 (tCons (tVar 0) (tCons (tVar 1) tNil))) tNil)) rfl l68.nd
        (pi_range1 (by rfl) B.range_ (pa_cons pe_int pa_nil))
        (blkOk_by (N := nLaw) (sc := defScope (top 79)) (by decide +kernel)) (fun _ _ _ _ _ => (pg_name (i := 1) (FnScope.nd l68) rfl (Or.inl rfl))) (fun _ _ _ _ _ => pts_nil)
        (fun _ _ _ _ _ => pe_clG CR hr hG2 (pa_cons (pe_cl CT hr (pa_cons (pv 0) (pa_cons (pv 1) pa_nil))) pa_nil))) pa_nil))), ?_⟩
  have e0 : L2.start nLaw [V.ref a] = [some (.ref a), none] := rfl
  rw [e0]
  refine ⟨_, rfl, by decide, by decide, fun D hD => ?_⟩
  refine lc_range (fun i H' => SameX D H H' ∧ H' D = some (.lst ((List.replicate i true).map V.bl))) ⟨fun b o n e => by rw [upd_ne n]; exact e, upd_same⟩ (fun i H' hi e => ?_) (fun H' e => ?_)
  · obtain ⟨sT, hDl⟩ := e
    refine ⟨rfl, ?_⟩
    simp only [tYes, if_true]
    refine ⟨_, rfl, _, rfl, (a, ns, i), (by show [V.ref a, V.int (0 + (i : Int))] = [V.ref a, V.int (i : Int)]; rw [Int.zero_add]), SqL.sx hS hD sT, hlen, fun p H2 k2 hp hr2 => ?_⟩
    refine ⟨p, rfl, hr2, fun H3 k3 => ?_⟩
    have hDp : D ≠ p := fun z => by rw [z, hp] at hDl; cases hDl
    have hD3 := k3 D _ hDp (k2 _ _ hDl)
    have k4 : Same H' H3 := fun b o e => k3 b o (fun z => by rw [z, hp] at e; cases e) (k2 b o e)
    refine ⟨_, hD3, ?_, ?_, ?_⟩
    · rw [List.length_map, List.length_replicate]
      exact Nat.lt_of_lt_of_le hi (by decide)
    · refine fun b o n e => ?_
      rw [upd_ne n]
      exact k4 _ _ (sT _ _ n e)
    · rw [upd_same, List.replicate_succ', List.map_append]
      rfl
  · obtain ⟨sT, hDl⟩ := e
    refine ⟨D, _, rfl, SqL.of hDl, ?_⟩
    rw [all_true]
    exact k _
/-- all defs where they stand -/
structure Ds (K : PySem.W.Frag) (mg : Str → Option Value) : Prop where
  d1 : Df K mg "_wall" (top 1)
  d14 : Df K mg "is_integer" (top 14)
  d15 : Df K mg "are_integers" (top 15)
  d16 : Df K mg "is_fraction" (top 16)
  d17 : Df K mg "is_below" (top 17)
  d18 : Df K mg "is_term" (top 18)
  d19 : Df K mg "wrong_term" (top 19)
  d21 : Df K mg "trimmed" (top 21)
  d22 : Df K mg "common_divisor" (top 22)
  d23 : Df K mg "primitive" (top 23)
  d24 : Df K mg "negative" (top 24)
  d25 : Df K mg "derivative" (top 25)
  d26 : Df K mg "value_at" (top 26)
  d27 : Df K mg "combined" (top 27)
  d28 : Df K mg "remainder" (top 28)
  d29 : Df K mg "divided" (top 29)
  d32 : Df K mg "sturm_chain" (top 32)
  d33 : Df K mg "changes" (top 33)
  d34 : Df K mg "reach" (top 34)
  d35 : Df K mg "roots_up_to" (top 35)
  d36 : Df K mg "roots_in_all" (top 36)
  d37 : Df K mg "roots_within" (top 37)
  d38 : Df K mg "rank_of_last" (top 38)
  d39 : Df K mg "stretch_of" (top 39)
  d40 : Df K mg "lonely_stretch" (top 40)
  d41 : Df K mg "refined" (top 41)
  d42 : Df K mg "guessed" (top 42)
  d44 : Df K mg "is_least" (top 44)
  d45 : Df K mg "factors_of" (top 45)
  d46 : Df K mg "least_factor" (top 46)
  d47 : Df K mg "divisors" (top 47)
  d48 : Df K mg "linear_factor" (top 48)
  d49 : Df K mg "quadratic_factor" (top 49)
  d50 : Df K mg "middles" (top 50)
  d51 : Df K mg "whole_roots" (top 51)
  d54 : Df K mg "check_shape" (top 54)
  d55 : Df K mg "check_equation" (top 55)
  d56 : Df K mg "check_stretch" (top 56)
  d57 : Df K mg "factor_within" (top 57)
  d58 : Df K mg "told_by" (top 58)
  d59 : Df K mg "integer_of" (top 59)
  d60 : Df K mg "text_of" (top 60)
  d62 : Df K mg "written" (top 62)
  d63 : Df K mg "fills" (top 63)
  d64 : Df K mg "steps" (top 64)
  d65 : Df K mg "halves" (top 65)
  d66 : Df K mg "can_go" (top 66)
  d68 : Df K mg "_law_tub" (top 68)
  d69 : Df K mg "_law_tap" (top 69)
  d70 : Df K mg "_law_gcd" (top 70)
  d71 : Df K mg "_law_prime_terms" (top 71)
  d72 : Df K mg "_law_goes_in" (top 72)
  d73 : Df K mg "_law_whole_parts" (top 73)
  d74 : Df K mg "_law_splits" (top 74)
  d75 : Df K mg "_law_fraction" (top 75)
  d76 : Df K mg "_law_text" (top 76)
  d77 : Df K mg "_law_root_down" (top 77)
  d78 : Df K mg "_law_right" (top 78)
  d79 : Df K mg "law" (top 79)
theorem law_all (D : Ds K mg) (B : Bl mg) (S : ShC K mg C) (SO : ShO K C) (wl : mg "list" = none) (wa : mg "any" = none) (iq : mg "isqrt" = some (.builtin "math.isqrt")) : CalG P w K mg base 13 "law" ["_law_cells"] (spLaw K) := by
  have isint := c_isint (P := P) (w := w) (base := base) D.d14 B
  have areints := c_areints D.d15 B isint
  have isfrac := c_isfrac D.d16 B areints
  have isterm := c_isterm D.d18 B isint
  have wrong := c_wrongG D.d19 B isterm
  have trim := c_trim (P := P) (w := w) (base := base) D.d21 B
  have gcd := c_gcd (P := P) (w := w) (base := base) D.d22 B
  have prim := c_primG D.d23 B gcd
  have neg := c_negG (P := P) (w := w) (base := base) D.d24 B
  have der := c_derG (P := P) (w := w) (base := base) D.d25 B
  have val := c_valG (P := P) (w := w) (base := base) D.d26
  have comb := c_combG D.d27 B trim
  have rem := c_remG D.d28 B comb prim
  have sturm := c_sturmG D.d32 B der rem neg
  have chg := c_chgG D.d33 B val
  have reach := c_reachG (P := P) (w := w) (base := base) D.d34 B
  have upto := c_upG D.d35 chg reach
  have inall := c_allG D.d36 upto reach
  have gue := c_gueG D.d42 val
  have refd := c_refG D.d41 B gue
  have lone := c_loneG D.d40 sturm reach chg upto
  have str := c_strG D.d39 B lone refd
  have div := c_divG (P := P) (w := w) (base := base) D.d47 B
  have lin := c_linG D.d48 B div val
  have wr := c_wrG (P := P) (w := w) (base := base) D.d51 B iq
  have dv := c_dvG (P := P) (w := w) (base := base) D.d29 B wl wa
  have mid := c_midG D.d50 B wr
  have qu := c_quG D.d49 B div mid dv
  have lf := c_lfG D.d46 B lin qu
  have least := c_leastG D.d44 gcd lf
  have intof := c_intof (P := P) (w := w) (base := base) D.d59 B
  have told := c_toldG D.d58 B intof wrong least sturm upto inall
  have dva := c_dvA (P := P) (w := w) (base := base) D.d29 B wl wa
  have lina := c_linA D.d48 B div val
  have lfa := c_lfA D.d46 B lina qu
  have fac := c_fac D.d45 B prim neg lfa dva
  have rw_ := c_rw D.d37 sturm chg val
  have rl := c_rl D.d38 sturm upto
  have fw := c_fw D.d57 fac rw_
  have chk := c_chkG (P := P) (w := w) (base := base) D.d54 B S
  have tx := c_tx (P := P) (w := w) (base := base) D.d60 B
  have chke := c_chkE D.d55 B wrong
  have below := c_below (P := P) (w := w) (base := base) D.d17
  have chks := c_chkS D.d56 isfrac below
  have U9 : All9 P w K mg base C := ⟨B, S, SO, chke, chks, fw, isterm, tx, rl, told, str⟩
  have hv := c_hv D.d65 B trim
  have go := c_go (P := P) (w := w) (base := base) D.d66 B
  have sp := c_sp D.d64 B S chk hv go comb
  have wr9 := c_wr9 D.d62 B S sp
  have fi := c_fi D.d63 wr9
  have tub := c_tub (P := P) (w := w) (base := base) D.d68 B
  have tap := c_tap (P := P) (w := w) (base := base) D.d69 B B.divmod_
  have gc := c_gc (P := P) (w := w) (base := base) D.d70 B
  have pt := c_pt D.d71 B gc
  have gi := c_gi (P := P) (w := w) (base := base) D.d72 B wl
  have wp := c_wp (P := P) (w := w) (base := base) D.d73 B
  have ss := c_ss D.d74 B wp gi
  have fr := c_fr D.d75 gc
  have txl := c_txl (P := P) (w := w) (base := base) D.d76 B
  have rd := c_rd (P := P) (w := w) (base := base) D.d77
  have U : Cs P w K mg base C := ⟨U9, tap, rd, fr, gc, fi, wr9, ss, txl, pt⟩
  exact c_law D.d79 B (c_right D.d78 U) tub
end
end Xq
/-! Where all stands behind the top of k39. -/
namespace Wq
open PySem PySem.Spec PyProof.Rows L2 Xk Xq
noncomputable abbrev HK (p : Params) : PySem.W.Frag := Hd.K p
theorem topQ (i : Nat) : top i = Hd.hT i := congrArg (fun p : Program => p.main.body.getD i (.Pass ⟨0, 0, 0, 0⟩)) Hd.pT
section
variable {p : Params} {mg : Str → Option Value} {h : Heap}
theorem fd1 (p : Params) : ∃ fd, Fun (HK p) "_wall" "_wall" (top 1) 49 fd := by
  rw [topQ]
  refine ⟨?fd, ⟨⟨?a1, ?a2, ?a3, ?a4, ?a5, ?a6, ?a7, ?a8, ?a9, ?e1, ?e2, ?e3⟩, ?e4⟩⟩
  case e1 => exact rfl
  case e2 => exact rfl
  case e3 => kernel_rfl
  case e4 => kernel_rfl
theorem df1 (X : (HK p).In h) (G : h.Ns mainGlobals mg) : Df (HK p) mg "_wall" (top 1) := by
  obtain ⟨fd, F⟩ := fd1 p
  exact ⟨49, fd, F, PySem.W.mg_of X G (by kernel_rfl)⟩
theorem fd14 (p : Params) : ∃ fd, Fun (HK p) "is_integer" "is_integer" (top 14) 196 fd := by
  rw [topQ]
  refine ⟨?fd, ⟨⟨?a1, ?a2, ?a3, ?a4, ?a5, ?a6, ?a7, ?a8, ?a9, ?e1, ?e2, ?e3⟩, ?e4⟩⟩
  case e1 => exact rfl
  case e2 => exact rfl
  case e3 => kernel_rfl
  case e4 => kernel_rfl
theorem df14 (X : (HK p).In h) (G : h.Ns mainGlobals mg) : Df (HK p) mg "is_integer" (top 14) := by
  obtain ⟨fd, F⟩ := fd14 p
  exact ⟨196, fd, F, PySem.W.mg_of X G (by kernel_rfl)⟩
theorem fd15 (p : Params) : ∃ fd, Fun (HK p) "are_integers" "are_integers" (top 15) 201 fd := by
  rw [topQ]
  refine ⟨?fd, ⟨⟨?a1, ?a2, ?a3, ?a4, ?a5, ?a6, ?a7, ?a8, ?a9, ?e1, ?e2, ?e3⟩, ?e4⟩⟩
  case e1 => exact rfl
  case e2 => exact rfl
  case e3 => kernel_rfl
  case e4 => kernel_rfl
theorem df15 (X : (HK p).In h) (G : h.Ns mainGlobals mg) : Df (HK p) mg "are_integers" (top 15) := by
  obtain ⟨fd, F⟩ := fd15 p
  exact ⟨201, fd, F, PySem.W.mg_of X G (by kernel_rfl)⟩
theorem fd16 (p : Params) : ∃ fd, Fun (HK p) "is_fraction" "is_fraction" (top 16) 208 fd := by
  rw [topQ]
  refine ⟨?fd, ⟨⟨?a1, ?a2, ?a3, ?a4, ?a5, ?a6, ?a7, ?a8, ?a9, ?e1, ?e2, ?e3⟩, ?e4⟩⟩
  case e1 => exact rfl
  case e2 => exact rfl
  case e3 => kernel_rfl
  case e4 => kernel_rfl
theorem df16 (X : (HK p).In h) (G : h.Ns mainGlobals mg) : Df (HK p) mg "is_fraction" (top 16) := by
  obtain ⟨fd, F⟩ := fd16 p
  exact ⟨208, fd, F, PySem.W.mg_of X G (by kernel_rfl)⟩
theorem fd17 (p : Params) : ∃ fd, Fun (HK p) "is_below" "is_below" (top 17) 215 fd := by
  rw [topQ]
  refine ⟨?fd, ⟨⟨?a1, ?a2, ?a3, ?a4, ?a5, ?a6, ?a7, ?a8, ?a9, ?e1, ?e2, ?e3⟩, ?e4⟩⟩
  case e1 => exact rfl
  case e2 => exact rfl
  case e3 => kernel_rfl
  case e4 => kernel_rfl
theorem df17 (X : (HK p).In h) (G : h.Ns mainGlobals mg) : Df (HK p) mg "is_below" (top 17) := by
  obtain ⟨fd, F⟩ := fd17 p
  exact ⟨215, fd, F, PySem.W.mg_of X G (by kernel_rfl)⟩
theorem fd18 (p : Params) : ∃ fd, Fun (HK p) "is_term" "is_term" (top 18) 222 fd := by
  rw [topQ]
  refine ⟨?fd, ⟨⟨?a1, ?a2, ?a3, ?a4, ?a5, ?a6, ?a7, ?a8, ?a9, ?e1, ?e2, ?e3⟩, ?e4⟩⟩
  case e1 => exact rfl
  case e2 => exact rfl
  case e3 => kernel_rfl
  case e4 => kernel_rfl
theorem df18 (X : (HK p).In h) (G : h.Ns mainGlobals mg) : Df (HK p) mg "is_term" (top 18) := by
  obtain ⟨fd, F⟩ := fd18 p
  exact ⟨222, fd, F, PySem.W.mg_of X G (by kernel_rfl)⟩
theorem fd19 (p : Params) : ∃ fd, Fun (HK p) "wrong_term" "wrong_term" (top 19) 229 fd := by
  rw [topQ]
  refine ⟨?fd, ⟨⟨?a1, ?a2, ?a3, ?a4, ?a5, ?a6, ?a7, ?a8, ?a9, ?e1, ?e2, ?e3⟩, ?e4⟩⟩
  case e1 => exact rfl
  case e2 => exact rfl
  case e3 => kernel_rfl
  case e4 => kernel_rfl
theorem df19 (X : (HK p).In h) (G : h.Ns mainGlobals mg) : Df (HK p) mg "wrong_term" (top 19) := by
  obtain ⟨fd, F⟩ := fd19 p
  exact ⟨229, fd, F, PySem.W.mg_of X G (by kernel_rfl)⟩
theorem fd21 (p : Params) : ∃ fd, Fun (HK p) "trimmed" "trimmed" (top 21) 236 fd := by
  rw [topQ]
  refine ⟨?fd, ⟨⟨?a1, ?a2, ?a3, ?a4, ?a5, ?a6, ?a7, ?a8, ?a9, ?e1, ?e2, ?e3⟩, ?e4⟩⟩
  case e1 => exact rfl
  case e2 => exact rfl
  case e3 => kernel_rfl
  case e4 => kernel_rfl
theorem df21 (X : (HK p).In h) (G : h.Ns mainGlobals mg) : Df (HK p) mg "trimmed" (top 21) := by
  obtain ⟨fd, F⟩ := fd21 p
  exact ⟨236, fd, F, PySem.W.mg_of X G (by kernel_rfl)⟩
theorem fd22 (p : Params) : ∃ fd, Fun (HK p) "common_divisor" "common_divisor" (top 22) 243 fd := by
  rw [topQ]
  refine ⟨?fd, ⟨⟨?a1, ?a2, ?a3, ?a4, ?a5, ?a6, ?a7, ?a8, ?a9, ?e1, ?e2, ?e3⟩, ?e4⟩⟩
  case e1 => exact rfl
  case e2 => exact rfl
  case e3 => kernel_rfl
  case e4 => kernel_rfl
theorem df22 (X : (HK p).In h) (G : h.Ns mainGlobals mg) : Df (HK p) mg "common_divisor" (top 22) := by
  obtain ⟨fd, F⟩ := fd22 p
  exact ⟨243, fd, F, PySem.W.mg_of X G (by kernel_rfl)⟩
theorem fd23 (p : Params) : ∃ fd, Fun (HK p) "primitive" "primitive" (top 23) 248 fd := by
  rw [topQ]
  refine ⟨?fd, ⟨⟨?a1, ?a2, ?a3, ?a4, ?a5, ?a6, ?a7, ?a8, ?a9, ?e1, ?e2, ?e3⟩, ?e4⟩⟩
  case e1 => exact rfl
  case e2 => exact rfl
  case e3 => kernel_rfl
  case e4 => kernel_rfl
theorem df23 (X : (HK p).In h) (G : h.Ns mainGlobals mg) : Df (HK p) mg "primitive" (top 23) := by
  obtain ⟨fd, F⟩ := fd23 p
  exact ⟨248, fd, F, PySem.W.mg_of X G (by kernel_rfl)⟩
theorem fd24 (p : Params) : ∃ fd, Fun (HK p) "negative" "negative" (top 24) 253 fd := by
  rw [topQ]
  refine ⟨?fd, ⟨⟨?a1, ?a2, ?a3, ?a4, ?a5, ?a6, ?a7, ?a8, ?a9, ?e1, ?e2, ?e3⟩, ?e4⟩⟩
  case e1 => exact rfl
  case e2 => exact rfl
  case e3 => kernel_rfl
  case e4 => kernel_rfl
theorem df24 (X : (HK p).In h) (G : h.Ns mainGlobals mg) : Df (HK p) mg "negative" (top 24) := by
  obtain ⟨fd, F⟩ := fd24 p
  exact ⟨253, fd, F, PySem.W.mg_of X G (by kernel_rfl)⟩
theorem fd25 (p : Params) : ∃ fd, Fun (HK p) "derivative" "derivative" (top 25) 258 fd := by
  rw [topQ]
  refine ⟨?fd, ⟨⟨?a1, ?a2, ?a3, ?a4, ?a5, ?a6, ?a7, ?a8, ?a9, ?e1, ?e2, ?e3⟩, ?e4⟩⟩
  case e1 => exact rfl
  case e2 => exact rfl
  case e3 => kernel_rfl
  case e4 => kernel_rfl
theorem df25 (X : (HK p).In h) (G : h.Ns mainGlobals mg) : Df (HK p) mg "derivative" (top 25) := by
  obtain ⟨fd, F⟩ := fd25 p
  exact ⟨258, fd, F, PySem.W.mg_of X G (by kernel_rfl)⟩
theorem fd26 (p : Params) : ∃ fd, Fun (HK p) "value_at" "value_at" (top 26) 265 fd := by
  rw [topQ]
  refine ⟨?fd, ⟨⟨?a1, ?a2, ?a3, ?a4, ?a5, ?a6, ?a7, ?a8, ?a9, ?e1, ?e2, ?e3⟩, ?e4⟩⟩
  case e1 => exact rfl
  case e2 => exact rfl
  case e3 => kernel_rfl
  case e4 => kernel_rfl
theorem df26 (X : (HK p).In h) (G : h.Ns mainGlobals mg) : Df (HK p) mg "value_at" (top 26) := by
  obtain ⟨fd, F⟩ := fd26 p
  exact ⟨265, fd, F, PySem.W.mg_of X G (by kernel_rfl)⟩
theorem fd27 (p : Params) : ∃ fd, Fun (HK p) "combined" "combined" (top 27) 272 fd := by
  rw [topQ]
  refine ⟨?fd, ⟨⟨?a1, ?a2, ?a3, ?a4, ?a5, ?a6, ?a7, ?a8, ?a9, ?e1, ?e2, ?e3⟩, ?e4⟩⟩
  case e1 => exact rfl
  case e2 => exact rfl
  case e3 => kernel_rfl
  case e4 => kernel_rfl
theorem df27 (X : (HK p).In h) (G : h.Ns mainGlobals mg) : Df (HK p) mg "combined" (top 27) := by
  obtain ⟨fd, F⟩ := fd27 p
  exact ⟨272, fd, F, PySem.W.mg_of X G (by kernel_rfl)⟩
theorem fd28 (p : Params) : ∃ fd, Fun (HK p) "remainder" "remainder" (top 28) 279 fd := by
  rw [topQ]
  refine ⟨?fd, ⟨⟨?a1, ?a2, ?a3, ?a4, ?a5, ?a6, ?a7, ?a8, ?a9, ?e1, ?e2, ?e3⟩, ?e4⟩⟩
  case e1 => exact rfl
  case e2 => exact rfl
  case e3 => kernel_rfl
  case e4 => kernel_rfl
theorem df28 (X : (HK p).In h) (G : h.Ns mainGlobals mg) : Df (HK p) mg "remainder" (top 28) := by
  obtain ⟨fd, F⟩ := fd28 p
  exact ⟨279, fd, F, PySem.W.mg_of X G (by kernel_rfl)⟩
theorem fd29 (p : Params) : ∃ fd, Fun (HK p) "divided" "divided" (top 29) 286 fd := by
  rw [topQ]
  refine ⟨?fd, ⟨⟨?a1, ?a2, ?a3, ?a4, ?a5, ?a6, ?a7, ?a8, ?a9, ?e1, ?e2, ?e3⟩, ?e4⟩⟩
  case e1 => exact rfl
  case e2 => exact rfl
  case e3 => kernel_rfl
  case e4 => kernel_rfl
theorem df29 (X : (HK p).In h) (G : h.Ns mainGlobals mg) : Df (HK p) mg "divided" (top 29) := by
  obtain ⟨fd, F⟩ := fd29 p
  exact ⟨286, fd, F, PySem.W.mg_of X G (by kernel_rfl)⟩
theorem fd32 (p : Params) : ∃ fd, Fun (HK p) "sturm_chain" "sturm_chain" (top 32) 293 fd := by
  rw [topQ]
  refine ⟨?fd, ⟨⟨?a1, ?a2, ?a3, ?a4, ?a5, ?a6, ?a7, ?a8, ?a9, ?e1, ?e2, ?e3⟩, ?e4⟩⟩
  case e1 => exact rfl
  case e2 => exact rfl
  case e3 => kernel_rfl
  case e4 => kernel_rfl
theorem df32 (X : (HK p).In h) (G : h.Ns mainGlobals mg) : Df (HK p) mg "sturm_chain" (top 32) := by
  obtain ⟨fd, F⟩ := fd32 p
  exact ⟨293, fd, F, PySem.W.mg_of X G (by kernel_rfl)⟩
theorem fd33 (p : Params) : ∃ fd, Fun (HK p) "changes" "changes" (top 33) 298 fd := by
  rw [topQ]
  refine ⟨?fd, ⟨⟨?a1, ?a2, ?a3, ?a4, ?a5, ?a6, ?a7, ?a8, ?a9, ?e1, ?e2, ?e3⟩, ?e4⟩⟩
  case e1 => exact rfl
  case e2 => exact rfl
  case e3 => kernel_rfl
  case e4 => kernel_rfl
theorem df33 (X : (HK p).In h) (G : h.Ns mainGlobals mg) : Df (HK p) mg "changes" (top 33) := by
  obtain ⟨fd, F⟩ := fd33 p
  exact ⟨298, fd, F, PySem.W.mg_of X G (by kernel_rfl)⟩
theorem fd34 (p : Params) : ∃ fd, Fun (HK p) "reach" "reach" (top 34) 303 fd := by
  rw [topQ]
  refine ⟨?fd, ⟨⟨?a1, ?a2, ?a3, ?a4, ?a5, ?a6, ?a7, ?a8, ?a9, ?e1, ?e2, ?e3⟩, ?e4⟩⟩
  case e1 => exact rfl
  case e2 => exact rfl
  case e3 => kernel_rfl
  case e4 => kernel_rfl
theorem df34 (X : (HK p).In h) (G : h.Ns mainGlobals mg) : Df (HK p) mg "reach" (top 34) := by
  obtain ⟨fd, F⟩ := fd34 p
  exact ⟨303, fd, F, PySem.W.mg_of X G (by kernel_rfl)⟩
theorem fd35 (p : Params) : ∃ fd, Fun (HK p) "roots_up_to" "roots_up_to" (top 35) 310 fd := by
  rw [topQ]
  refine ⟨?fd, ⟨⟨?a1, ?a2, ?a3, ?a4, ?a5, ?a6, ?a7, ?a8, ?a9, ?e1, ?e2, ?e3⟩, ?e4⟩⟩
  case e1 => exact rfl
  case e2 => exact rfl
  case e3 => kernel_rfl
  case e4 => kernel_rfl
theorem df35 (X : (HK p).In h) (G : h.Ns mainGlobals mg) : Df (HK p) mg "roots_up_to" (top 35) := by
  obtain ⟨fd, F⟩ := fd35 p
  exact ⟨310, fd, F, PySem.W.mg_of X G (by kernel_rfl)⟩
theorem fd36 (p : Params) : ∃ fd, Fun (HK p) "roots_in_all" "roots_in_all" (top 36) 317 fd := by
  rw [topQ]
  refine ⟨?fd, ⟨⟨?a1, ?a2, ?a3, ?a4, ?a5, ?a6, ?a7, ?a8, ?a9, ?e1, ?e2, ?e3⟩, ?e4⟩⟩
  case e1 => exact rfl
  case e2 => exact rfl
  case e3 => kernel_rfl
  case e4 => kernel_rfl
theorem df36 (X : (HK p).In h) (G : h.Ns mainGlobals mg) : Df (HK p) mg "roots_in_all" (top 36) := by
  obtain ⟨fd, F⟩ := fd36 p
  exact ⟨317, fd, F, PySem.W.mg_of X G (by kernel_rfl)⟩
theorem fd37 (p : Params) : ∃ fd, Fun (HK p) "roots_within" "roots_within" (top 37) 324 fd := by
  rw [topQ]
  refine ⟨?fd, ⟨⟨?a1, ?a2, ?a3, ?a4, ?a5, ?a6, ?a7, ?a8, ?a9, ?e1, ?e2, ?e3⟩, ?e4⟩⟩
  case e1 => exact rfl
  case e2 => exact rfl
  case e3 => kernel_rfl
  case e4 => kernel_rfl
theorem df37 (X : (HK p).In h) (G : h.Ns mainGlobals mg) : Df (HK p) mg "roots_within" (top 37) := by
  obtain ⟨fd, F⟩ := fd37 p
  exact ⟨324, fd, F, PySem.W.mg_of X G (by kernel_rfl)⟩
theorem fd38 (p : Params) : ∃ fd, Fun (HK p) "rank_of_last" "rank_of_last" (top 38) 331 fd := by
  rw [topQ]
  refine ⟨?fd, ⟨⟨?a1, ?a2, ?a3, ?a4, ?a5, ?a6, ?a7, ?a8, ?a9, ?e1, ?e2, ?e3⟩, ?e4⟩⟩
  case e1 => exact rfl
  case e2 => exact rfl
  case e3 => kernel_rfl
  case e4 => kernel_rfl
theorem df38 (X : (HK p).In h) (G : h.Ns mainGlobals mg) : Df (HK p) mg "rank_of_last" (top 38) := by
  obtain ⟨fd, F⟩ := fd38 p
  exact ⟨331, fd, F, PySem.W.mg_of X G (by kernel_rfl)⟩
theorem fd39 (p : Params) : ∃ fd, Fun (HK p) "stretch_of" "stretch_of" (top 39) 338 fd := by
  rw [topQ]
  refine ⟨?fd, ⟨⟨?a1, ?a2, ?a3, ?a4, ?a5, ?a6, ?a7, ?a8, ?a9, ?e1, ?e2, ?e3⟩, ?e4⟩⟩
  case e1 => exact rfl
  case e2 => exact rfl
  case e3 => kernel_rfl
  case e4 => kernel_rfl
theorem df39 (X : (HK p).In h) (G : h.Ns mainGlobals mg) : Df (HK p) mg "stretch_of" (top 39) := by
  obtain ⟨fd, F⟩ := fd39 p
  exact ⟨338, fd, F, PySem.W.mg_of X G (by kernel_rfl)⟩
theorem fd40 (p : Params) : ∃ fd, Fun (HK p) "lonely_stretch" "lonely_stretch" (top 40) 345 fd := by
  rw [topQ]
  refine ⟨?fd, ⟨⟨?a1, ?a2, ?a3, ?a4, ?a5, ?a6, ?a7, ?a8, ?a9, ?e1, ?e2, ?e3⟩, ?e4⟩⟩
  case e1 => exact rfl
  case e2 => exact rfl
  case e3 => kernel_rfl
  case e4 => kernel_rfl
theorem df40 (X : (HK p).In h) (G : h.Ns mainGlobals mg) : Df (HK p) mg "lonely_stretch" (top 40) := by
  obtain ⟨fd, F⟩ := fd40 p
  exact ⟨345, fd, F, PySem.W.mg_of X G (by kernel_rfl)⟩
theorem fd41 (p : Params) : ∃ fd, Fun (HK p) "refined" "refined" (top 41) 352 fd := by
  rw [topQ]
  refine ⟨?fd, ⟨⟨?a1, ?a2, ?a3, ?a4, ?a5, ?a6, ?a7, ?a8, ?a9, ?e1, ?e2, ?e3⟩, ?e4⟩⟩
  case e1 => exact rfl
  case e2 => exact rfl
  case e3 => kernel_rfl
  case e4 => kernel_rfl
theorem df41 (X : (HK p).In h) (G : h.Ns mainGlobals mg) : Df (HK p) mg "refined" (top 41) := by
  obtain ⟨fd, F⟩ := fd41 p
  exact ⟨352, fd, F, PySem.W.mg_of X G (by kernel_rfl)⟩
theorem fd42 (p : Params) : ∃ fd, Fun (HK p) "guessed" "guessed" (top 42) 359 fd := by
  rw [topQ]
  refine ⟨?fd, ⟨⟨?a1, ?a2, ?a3, ?a4, ?a5, ?a6, ?a7, ?a8, ?a9, ?e1, ?e2, ?e3⟩, ?e4⟩⟩
  case e1 => exact rfl
  case e2 => exact rfl
  case e3 => kernel_rfl
  case e4 => kernel_rfl
theorem df42 (X : (HK p).In h) (G : h.Ns mainGlobals mg) : Df (HK p) mg "guessed" (top 42) := by
  obtain ⟨fd, F⟩ := fd42 p
  exact ⟨359, fd, F, PySem.W.mg_of X G (by kernel_rfl)⟩
theorem fd44 (p : Params) : ∃ fd, Fun (HK p) "is_least" "is_least" (top 44) 366 fd := by
  rw [topQ]
  refine ⟨?fd, ⟨⟨?a1, ?a2, ?a3, ?a4, ?a5, ?a6, ?a7, ?a8, ?a9, ?e1, ?e2, ?e3⟩, ?e4⟩⟩
  case e1 => exact rfl
  case e2 => exact rfl
  case e3 => kernel_rfl
  case e4 => kernel_rfl
theorem df44 (X : (HK p).In h) (G : h.Ns mainGlobals mg) : Df (HK p) mg "is_least" (top 44) := by
  obtain ⟨fd, F⟩ := fd44 p
  exact ⟨366, fd, F, PySem.W.mg_of X G (by kernel_rfl)⟩
theorem fd45 (p : Params) : ∃ fd, Fun (HK p) "factors_of" "factors_of" (top 45) 373 fd := by
  rw [topQ]
  refine ⟨?fd, ⟨⟨?a1, ?a2, ?a3, ?a4, ?a5, ?a6, ?a7, ?a8, ?a9, ?e1, ?e2, ?e3⟩, ?e4⟩⟩
  case e1 => exact rfl
  case e2 => exact rfl
  case e3 => kernel_rfl
  case e4 => kernel_rfl
theorem df45 (X : (HK p).In h) (G : h.Ns mainGlobals mg) : Df (HK p) mg "factors_of" (top 45) := by
  obtain ⟨fd, F⟩ := fd45 p
  exact ⟨373, fd, F, PySem.W.mg_of X G (by kernel_rfl)⟩
theorem fd46 (p : Params) : ∃ fd, Fun (HK p) "least_factor" "least_factor" (top 46) 380 fd := by
  rw [topQ]
  refine ⟨?fd, ⟨⟨?a1, ?a2, ?a3, ?a4, ?a5, ?a6, ?a7, ?a8, ?a9, ?e1, ?e2, ?e3⟩, ?e4⟩⟩
  case e1 => exact rfl
  case e2 => exact rfl
  case e3 => kernel_rfl
  case e4 => kernel_rfl
theorem df46 (X : (HK p).In h) (G : h.Ns mainGlobals mg) : Df (HK p) mg "least_factor" (top 46) := by
  obtain ⟨fd, F⟩ := fd46 p
  exact ⟨380, fd, F, PySem.W.mg_of X G (by kernel_rfl)⟩
theorem fd47 (p : Params) : ∃ fd, Fun (HK p) "divisors" "divisors" (top 47) 385 fd := by
  rw [topQ]
  refine ⟨?fd, ⟨⟨?a1, ?a2, ?a3, ?a4, ?a5, ?a6, ?a7, ?a8, ?a9, ?e1, ?e2, ?e3⟩, ?e4⟩⟩
  case e1 => exact rfl
  case e2 => exact rfl
  case e3 => kernel_rfl
  case e4 => kernel_rfl
theorem df47 (X : (HK p).In h) (G : h.Ns mainGlobals mg) : Df (HK p) mg "divisors" (top 47) := by
  obtain ⟨fd, F⟩ := fd47 p
  exact ⟨385, fd, F, PySem.W.mg_of X G (by kernel_rfl)⟩
theorem fd48 (p : Params) : ∃ fd, Fun (HK p) "linear_factor" "linear_factor" (top 48) 392 fd := by
  rw [topQ]
  refine ⟨?fd, ⟨⟨?a1, ?a2, ?a3, ?a4, ?a5, ?a6, ?a7, ?a8, ?a9, ?e1, ?e2, ?e3⟩, ?e4⟩⟩
  case e1 => exact rfl
  case e2 => exact rfl
  case e3 => kernel_rfl
  case e4 => kernel_rfl
theorem df48 (X : (HK p).In h) (G : h.Ns mainGlobals mg) : Df (HK p) mg "linear_factor" (top 48) := by
  obtain ⟨fd, F⟩ := fd48 p
  exact ⟨392, fd, F, PySem.W.mg_of X G (by kernel_rfl)⟩
theorem fd49 (p : Params) : ∃ fd, Fun (HK p) "quadratic_factor" "quadratic_factor" (top 49) 399 fd := by
  rw [topQ]
  refine ⟨?fd, ⟨⟨?a1, ?a2, ?a3, ?a4, ?a5, ?a6, ?a7, ?a8, ?a9, ?e1, ?e2, ?e3⟩, ?e4⟩⟩
  case e1 => exact rfl
  case e2 => exact rfl
  case e3 => kernel_rfl
  case e4 => kernel_rfl
theorem df49 (X : (HK p).In h) (G : h.Ns mainGlobals mg) : Df (HK p) mg "quadratic_factor" (top 49) := by
  obtain ⟨fd, F⟩ := fd49 p
  exact ⟨399, fd, F, PySem.W.mg_of X G (by kernel_rfl)⟩
theorem fd50 (p : Params) : ∃ fd, Fun (HK p) "middles" "middles" (top 50) 406 fd := by
  rw [topQ]
  refine ⟨?fd, ⟨⟨?a1, ?a2, ?a3, ?a4, ?a5, ?a6, ?a7, ?a8, ?a9, ?e1, ?e2, ?e3⟩, ?e4⟩⟩
  case e1 => exact rfl
  case e2 => exact rfl
  case e3 => kernel_rfl
  case e4 => kernel_rfl
theorem df50 (X : (HK p).In h) (G : h.Ns mainGlobals mg) : Df (HK p) mg "middles" (top 50) := by
  obtain ⟨fd, F⟩ := fd50 p
  exact ⟨406, fd, F, PySem.W.mg_of X G (by kernel_rfl)⟩
theorem fd51 (p : Params) : ∃ fd, Fun (HK p) "whole_roots" "whole_roots" (top 51) 411 fd := by
  rw [topQ]
  refine ⟨?fd, ⟨⟨?a1, ?a2, ?a3, ?a4, ?a5, ?a6, ?a7, ?a8, ?a9, ?e1, ?e2, ?e3⟩, ?e4⟩⟩
  case e1 => exact rfl
  case e2 => exact rfl
  case e3 => kernel_rfl
  case e4 => kernel_rfl
theorem df51 (X : (HK p).In h) (G : h.Ns mainGlobals mg) : Df (HK p) mg "whole_roots" (top 51) := by
  obtain ⟨fd, F⟩ := fd51 p
  exact ⟨411, fd, F, PySem.W.mg_of X G (by kernel_rfl)⟩
theorem fd54 (p : Params) : ∃ fd, Fun (HK p) "check_shape" "check_shape" (top 54) 500 fd := by
  rw [topQ]
  refine ⟨?fd, ⟨⟨?a1, ?a2, ?a3, ?a4, ?a5, ?a6, ?a7, ?a8, ?a9, ?e1, ?e2, ?e3⟩, ?e4⟩⟩
  case e1 => exact rfl
  case e2 => exact rfl
  case e3 => kernel_rfl
  case e4 => kernel_rfl
theorem df54 (X : (HK p).In h) (G : h.Ns mainGlobals mg) : Df (HK p) mg "check_shape" (top 54) := by
  obtain ⟨fd, F⟩ := fd54 p
  exact ⟨500, fd, F, PySem.W.mg_of X G (by kernel_rfl)⟩
theorem fd55 (p : Params) : ∃ fd, Fun (HK p) "check_equation" "check_equation" (top 55) 507 fd := by
  rw [topQ]
  refine ⟨?fd, ⟨⟨?a1, ?a2, ?a3, ?a4, ?a5, ?a6, ?a7, ?a8, ?a9, ?e1, ?e2, ?e3⟩, ?e4⟩⟩
  case e1 => exact rfl
  case e2 => exact rfl
  case e3 => kernel_rfl
  case e4 => kernel_rfl
theorem df55 (X : (HK p).In h) (G : h.Ns mainGlobals mg) : Df (HK p) mg "check_equation" (top 55) := by
  obtain ⟨fd, F⟩ := fd55 p
  exact ⟨507, fd, F, PySem.W.mg_of X G (by kernel_rfl)⟩
theorem fd56 (p : Params) : ∃ fd, Fun (HK p) "check_stretch" "check_stretch" (top 56) 514 fd := by
  rw [topQ]
  refine ⟨?fd, ⟨⟨?a1, ?a2, ?a3, ?a4, ?a5, ?a6, ?a7, ?a8, ?a9, ?e1, ?e2, ?e3⟩, ?e4⟩⟩
  case e1 => exact rfl
  case e2 => exact rfl
  case e3 => kernel_rfl
  case e4 => kernel_rfl
theorem df56 (X : (HK p).In h) (G : h.Ns mainGlobals mg) : Df (HK p) mg "check_stretch" (top 56) := by
  obtain ⟨fd, F⟩ := fd56 p
  exact ⟨514, fd, F, PySem.W.mg_of X G (by kernel_rfl)⟩
theorem fd57 (p : Params) : ∃ fd, Fun (HK p) "factor_within" "factor_within" (top 57) 521 fd := by
  rw [topQ]
  refine ⟨?fd, ⟨⟨?a1, ?a2, ?a3, ?a4, ?a5, ?a6, ?a7, ?a8, ?a9, ?e1, ?e2, ?e3⟩, ?e4⟩⟩
  case e1 => exact rfl
  case e2 => exact rfl
  case e3 => kernel_rfl
  case e4 => kernel_rfl
theorem df57 (X : (HK p).In h) (G : h.Ns mainGlobals mg) : Df (HK p) mg "factor_within" (top 57) := by
  obtain ⟨fd, F⟩ := fd57 p
  exact ⟨521, fd, F, PySem.W.mg_of X G (by kernel_rfl)⟩
theorem fd58 (p : Params) : ∃ fd, Fun (HK p) "told_by" "told_by" (top 58) 526 fd := by
  rw [topQ]
  refine ⟨?fd, ⟨⟨?a1, ?a2, ?a3, ?a4, ?a5, ?a6, ?a7, ?a8, ?a9, ?e1, ?e2, ?e3⟩, ?e4⟩⟩
  case e1 => exact rfl
  case e2 => exact rfl
  case e3 => kernel_rfl
  case e4 => kernel_rfl
theorem df58 (X : (HK p).In h) (G : h.Ns mainGlobals mg) : Df (HK p) mg "told_by" (top 58) := by
  obtain ⟨fd, F⟩ := fd58 p
  exact ⟨526, fd, F, PySem.W.mg_of X G (by kernel_rfl)⟩
theorem fd59 (p : Params) : ∃ fd, Fun (HK p) "integer_of" "integer_of" (top 59) 533 fd := by
  rw [topQ]
  refine ⟨?fd, ⟨⟨?a1, ?a2, ?a3, ?a4, ?a5, ?a6, ?a7, ?a8, ?a9, ?e1, ?e2, ?e3⟩, ?e4⟩⟩
  case e1 => exact rfl
  case e2 => exact rfl
  case e3 => kernel_rfl
  case e4 => kernel_rfl
theorem df59 (X : (HK p).In h) (G : h.Ns mainGlobals mg) : Df (HK p) mg "integer_of" (top 59) := by
  obtain ⟨fd, F⟩ := fd59 p
  exact ⟨533, fd, F, PySem.W.mg_of X G (by kernel_rfl)⟩
theorem fd60 (p : Params) : ∃ fd, Fun (HK p) "text_of" "text_of" (top 60) 538 fd := by
  rw [topQ]
  refine ⟨?fd, ⟨⟨?a1, ?a2, ?a3, ?a4, ?a5, ?a6, ?a7, ?a8, ?a9, ?e1, ?e2, ?e3⟩, ?e4⟩⟩
  case e1 => exact rfl
  case e2 => exact rfl
  case e3 => kernel_rfl
  case e4 => kernel_rfl
theorem df60 (X : (HK p).In h) (G : h.Ns mainGlobals mg) : Df (HK p) mg "text_of" (top 60) := by
  obtain ⟨fd, F⟩ := fd60 p
  exact ⟨538, fd, F, PySem.W.mg_of X G (by kernel_rfl)⟩
theorem fd62 (p : Params) : ∃ fd, Fun (HK p) "written" "written" (top 62) 545 fd := by
  rw [topQ]
  refine ⟨?fd, ⟨⟨?a1, ?a2, ?a3, ?a4, ?a5, ?a6, ?a7, ?a8, ?a9, ?e1, ?e2, ?e3⟩, ?e4⟩⟩
  case e1 => exact rfl
  case e2 => exact rfl
  case e3 => kernel_rfl
  case e4 => kernel_rfl
theorem df62 (X : (HK p).In h) (G : h.Ns mainGlobals mg) : Df (HK p) mg "written" (top 62) := by
  obtain ⟨fd, F⟩ := fd62 p
  exact ⟨545, fd, F, PySem.W.mg_of X G (by kernel_rfl)⟩
theorem fd63 (p : Params) : ∃ fd, Fun (HK p) "fills" "fills" (top 63) 552 fd := by
  rw [topQ]
  refine ⟨?fd, ⟨⟨?a1, ?a2, ?a3, ?a4, ?a5, ?a6, ?a7, ?a8, ?a9, ?e1, ?e2, ?e3⟩, ?e4⟩⟩
  case e1 => exact rfl
  case e2 => exact rfl
  case e3 => kernel_rfl
  case e4 => kernel_rfl
theorem df63 (X : (HK p).In h) (G : h.Ns mainGlobals mg) : Df (HK p) mg "fills" (top 63) := by
  obtain ⟨fd, F⟩ := fd63 p
  exact ⟨552, fd, F, PySem.W.mg_of X G (by kernel_rfl)⟩
theorem fd64 (p : Params) : ∃ fd, Fun (HK p) "steps" "steps" (top 64) 557 fd := by
  rw [topQ]
  refine ⟨?fd, ⟨⟨?a1, ?a2, ?a3, ?a4, ?a5, ?a6, ?a7, ?a8, ?a9, ?e1, ?e2, ?e3⟩, ?e4⟩⟩
  case e1 => exact rfl
  case e2 => exact rfl
  case e3 => kernel_rfl
  case e4 => kernel_rfl
theorem df64 (X : (HK p).In h) (G : h.Ns mainGlobals mg) : Df (HK p) mg "steps" (top 64) := by
  obtain ⟨fd, F⟩ := fd64 p
  exact ⟨557, fd, F, PySem.W.mg_of X G (by kernel_rfl)⟩
theorem fd65 (p : Params) : ∃ fd, Fun (HK p) "halves" "halves" (top 65) 562 fd := by
  rw [topQ]
  refine ⟨?fd, ⟨⟨?a1, ?a2, ?a3, ?a4, ?a5, ?a6, ?a7, ?a8, ?a9, ?e1, ?e2, ?e3⟩, ?e4⟩⟩
  case e1 => exact rfl
  case e2 => exact rfl
  case e3 => kernel_rfl
  case e4 => kernel_rfl
theorem df65 (X : (HK p).In h) (G : h.Ns mainGlobals mg) : Df (HK p) mg "halves" (top 65) := by
  obtain ⟨fd, F⟩ := fd65 p
  exact ⟨562, fd, F, PySem.W.mg_of X G (by kernel_rfl)⟩
theorem fd66 (p : Params) : ∃ fd, Fun (HK p) "can_go" "can_go" (top 66) 569 fd := by
  rw [topQ]
  refine ⟨?fd, ⟨⟨?a1, ?a2, ?a3, ?a4, ?a5, ?a6, ?a7, ?a8, ?a9, ?e1, ?e2, ?e3⟩, ?e4⟩⟩
  case e1 => exact rfl
  case e2 => exact rfl
  case e3 => kernel_rfl
  case e4 => kernel_rfl
theorem df66 (X : (HK p).In h) (G : h.Ns mainGlobals mg) : Df (HK p) mg "can_go" (top 66) := by
  obtain ⟨fd, F⟩ := fd66 p
  exact ⟨569, fd, F, PySem.W.mg_of X G (by kernel_rfl)⟩
theorem fd68 (p : Params) : ∃ fd, Fun (HK p) "_law_tub" "_law_tub" (top 68) 576 fd := by
  rw [topQ]
  refine ⟨?fd, ⟨⟨?a1, ?a2, ?a3, ?a4, ?a5, ?a6, ?a7, ?a8, ?a9, ?e1, ?e2, ?e3⟩, ?e4⟩⟩
  case e1 => exact rfl
  case e2 => exact rfl
  case e3 => kernel_rfl
  case e4 => kernel_rfl
theorem df68 (X : (HK p).In h) (G : h.Ns mainGlobals mg) : Df (HK p) mg "_law_tub" (top 68) := by
  obtain ⟨fd, F⟩ := fd68 p
  exact ⟨576, fd, F, PySem.W.mg_of X G (by kernel_rfl)⟩
theorem fd69 (p : Params) : ∃ fd, Fun (HK p) "_law_tap" "_law_tap" (top 69) 583 fd := by
  rw [topQ]
  refine ⟨?fd, ⟨⟨?a1, ?a2, ?a3, ?a4, ?a5, ?a6, ?a7, ?a8, ?a9, ?e1, ?e2, ?e3⟩, ?e4⟩⟩
  case e1 => exact rfl
  case e2 => exact rfl
  case e3 => kernel_rfl
  case e4 => kernel_rfl
theorem df69 (X : (HK p).In h) (G : h.Ns mainGlobals mg) : Df (HK p) mg "_law_tap" (top 69) := by
  obtain ⟨fd, F⟩ := fd69 p
  exact ⟨583, fd, F, PySem.W.mg_of X G (by kernel_rfl)⟩
theorem fd70 (p : Params) : ∃ fd, Fun (HK p) "_law_gcd" "_law_gcd" (top 70) 590 fd := by
  rw [topQ]
  refine ⟨?fd, ⟨⟨?a1, ?a2, ?a3, ?a4, ?a5, ?a6, ?a7, ?a8, ?a9, ?e1, ?e2, ?e3⟩, ?e4⟩⟩
  case e1 => exact rfl
  case e2 => exact rfl
  case e3 => kernel_rfl
  case e4 => kernel_rfl
theorem df70 (X : (HK p).In h) (G : h.Ns mainGlobals mg) : Df (HK p) mg "_law_gcd" (top 70) := by
  obtain ⟨fd, F⟩ := fd70 p
  exact ⟨590, fd, F, PySem.W.mg_of X G (by kernel_rfl)⟩
theorem fd71 (p : Params) : ∃ fd, Fun (HK p) "_law_prime_terms" "_law_prime_terms" (top 71) 595 fd := by
  rw [topQ]
  refine ⟨?fd, ⟨⟨?a1, ?a2, ?a3, ?a4, ?a5, ?a6, ?a7, ?a8, ?a9, ?e1, ?e2, ?e3⟩, ?e4⟩⟩
  case e1 => exact rfl
  case e2 => exact rfl
  case e3 => kernel_rfl
  case e4 => kernel_rfl
theorem df71 (X : (HK p).In h) (G : h.Ns mainGlobals mg) : Df (HK p) mg "_law_prime_terms" (top 71) := by
  obtain ⟨fd, F⟩ := fd71 p
  exact ⟨595, fd, F, PySem.W.mg_of X G (by kernel_rfl)⟩
theorem fd72 (p : Params) : ∃ fd, Fun (HK p) "_law_goes_in" "_law_goes_in" (top 72) 600 fd := by
  rw [topQ]
  refine ⟨?fd, ⟨⟨?a1, ?a2, ?a3, ?a4, ?a5, ?a6, ?a7, ?a8, ?a9, ?e1, ?e2, ?e3⟩, ?e4⟩⟩
  case e1 => exact rfl
  case e2 => exact rfl
  case e3 => kernel_rfl
  case e4 => kernel_rfl
theorem df72 (X : (HK p).In h) (G : h.Ns mainGlobals mg) : Df (HK p) mg "_law_goes_in" (top 72) := by
  obtain ⟨fd, F⟩ := fd72 p
  exact ⟨600, fd, F, PySem.W.mg_of X G (by kernel_rfl)⟩
theorem fd73 (p : Params) : ∃ fd, Fun (HK p) "_law_whole_parts" "_law_whole_parts" (top 73) 607 fd := by
  rw [topQ]
  refine ⟨?fd, ⟨⟨?a1, ?a2, ?a3, ?a4, ?a5, ?a6, ?a7, ?a8, ?a9, ?e1, ?e2, ?e3⟩, ?e4⟩⟩
  case e1 => exact rfl
  case e2 => exact rfl
  case e3 => kernel_rfl
  case e4 => kernel_rfl
theorem df73 (X : (HK p).In h) (G : h.Ns mainGlobals mg) : Df (HK p) mg "_law_whole_parts" (top 73) := by
  obtain ⟨fd, F⟩ := fd73 p
  exact ⟨607, fd, F, PySem.W.mg_of X G (by kernel_rfl)⟩
theorem fd74 (p : Params) : ∃ fd, Fun (HK p) "_law_splits" "_law_splits" (top 74) 614 fd := by
  rw [topQ]
  refine ⟨?fd, ⟨⟨?a1, ?a2, ?a3, ?a4, ?a5, ?a6, ?a7, ?a8, ?a9, ?e1, ?e2, ?e3⟩, ?e4⟩⟩
  case e1 => exact rfl
  case e2 => exact rfl
  case e3 => kernel_rfl
  case e4 => kernel_rfl
theorem df74 (X : (HK p).In h) (G : h.Ns mainGlobals mg) : Df (HK p) mg "_law_splits" (top 74) := by
  obtain ⟨fd, F⟩ := fd74 p
  exact ⟨614, fd, F, PySem.W.mg_of X G (by kernel_rfl)⟩
theorem fd75 (p : Params) : ∃ fd, Fun (HK p) "_law_fraction" "_law_fraction" (top 75) 621 fd := by
  rw [topQ]
  refine ⟨?fd, ⟨⟨?a1, ?a2, ?a3, ?a4, ?a5, ?a6, ?a7, ?a8, ?a9, ?e1, ?e2, ?e3⟩, ?e4⟩⟩
  case e1 => exact rfl
  case e2 => exact rfl
  case e3 => kernel_rfl
  case e4 => kernel_rfl
theorem df75 (X : (HK p).In h) (G : h.Ns mainGlobals mg) : Df (HK p) mg "_law_fraction" (top 75) := by
  obtain ⟨fd, F⟩ := fd75 p
  exact ⟨621, fd, F, PySem.W.mg_of X G (by kernel_rfl)⟩
theorem fd76 (p : Params) : ∃ fd, Fun (HK p) "_law_text" "_law_text" (top 76) 626 fd := by
  rw [topQ]
  refine ⟨?fd, ⟨⟨?a1, ?a2, ?a3, ?a4, ?a5, ?a6, ?a7, ?a8, ?a9, ?e1, ?e2, ?e3⟩, ?e4⟩⟩
  case e1 => exact rfl
  case e2 => exact rfl
  case e3 => kernel_rfl
  case e4 => kernel_rfl
theorem df76 (X : (HK p).In h) (G : h.Ns mainGlobals mg) : Df (HK p) mg "_law_text" (top 76) := by
  obtain ⟨fd, F⟩ := fd76 p
  exact ⟨626, fd, F, PySem.W.mg_of X G (by kernel_rfl)⟩
theorem fd77 (p : Params) : ∃ fd, Fun (HK p) "_law_root_down" "_law_root_down" (top 77) 633 fd := by
  rw [topQ]
  refine ⟨?fd, ⟨⟨?a1, ?a2, ?a3, ?a4, ?a5, ?a6, ?a7, ?a8, ?a9, ?e1, ?e2, ?e3⟩, ?e4⟩⟩
  case e1 => exact rfl
  case e2 => exact rfl
  case e3 => kernel_rfl
  case e4 => kernel_rfl
theorem df77 (X : (HK p).In h) (G : h.Ns mainGlobals mg) : Df (HK p) mg "_law_root_down" (top 77) := by
  obtain ⟨fd, F⟩ := fd77 p
  exact ⟨633, fd, F, PySem.W.mg_of X G (by kernel_rfl)⟩
theorem fd78 (p : Params) : ∃ fd, Fun (HK p) "_law_right" "_law_right" (top 78) 640 fd := by
  rw [topQ]
  refine ⟨?fd, ⟨⟨?a1, ?a2, ?a3, ?a4, ?a5, ?a6, ?a7, ?a8, ?a9, ?e1, ?e2, ?e3⟩, ?e4⟩⟩
  case e1 => exact rfl
  case e2 => exact rfl
  case e3 => kernel_rfl
  case e4 => kernel_rfl
theorem df78 (X : (HK p).In h) (G : h.Ns mainGlobals mg) : Df (HK p) mg "_law_right" (top 78) := by
  obtain ⟨fd, F⟩ := fd78 p
  exact ⟨640, fd, F, PySem.W.mg_of X G (by kernel_rfl)⟩
theorem fd79 (p : Params) : ∃ fd, Fun (HK p) "law" "law" (top 79) 645 fd := by
  rw [topQ]
  refine ⟨?fd, ⟨⟨?a1, ?a2, ?a3, ?a4, ?a5, ?a6, ?a7, ?a8, ?a9, ?e1, ?e2, ?e3⟩, ?e4⟩⟩
  case e1 => exact rfl
  case e2 => exact rfl
  case e3 => kernel_rfl
  case e4 => kernel_rfl
theorem df79 (X : (HK p).In h) (G : h.Ns mainGlobals mg) : Df (HK p) mg "law" (top 79) := by
  obtain ⟨fd, F⟩ := fd79 p
  exact ⟨645, fd, F, PySem.W.mg_of X G (by kernel_rfl)⟩
theorem ds_of (X : (HK p).In h) (G : h.Ns mainGlobals mg) : Ds (HK p) mg where
  d1 := df1 X G
  d14 := df14 X G
  d15 := df15 X G
  d16 := df16 X G
  d17 := df17 X G
  d18 := df18 X G
  d19 := df19 X G
  d21 := df21 X G
  d22 := df22 X G
  d23 := df23 X G
  d24 := df24 X G
  d25 := df25 X G
  d26 := df26 X G
  d27 := df27 X G
  d28 := df28 X G
  d29 := df29 X G
  d32 := df32 X G
  d33 := df33 X G
  d34 := df34 X G
  d35 := df35 X G
  d36 := df36 X G
  d37 := df37 X G
  d38 := df38 X G
  d39 := df39 X G
  d40 := df40 X G
  d41 := df41 X G
  d42 := df42 X G
  d44 := df44 X G
  d45 := df45 X G
  d46 := df46 X G
  d47 := df47 X G
  d48 := df48 X G
  d49 := df49 X G
  d50 := df50 X G
  d51 := df51 X G
  d54 := df54 X G
  d55 := df55 X G
  d56 := df56 X G
  d57 := df57 X G
  d58 := df58 X G
  d59 := df59 X G
  d60 := df60 X G
  d62 := df62 X G
  d63 := df63 X G
  d64 := df64 X G
  d65 := df65 X G
  d66 := df66 X G
  d68 := df68 X G
  d69 := df69 X G
  d70 := df70 X G
  d71 := df71 X G
  d72 := df72 X G
  d73 := df73 X G
  d74 := df74 X G
  d75 := df75 X G
  d76 := df76 X G
  d77 := df77 X G
  d78 := df78 X G
  d79 := df79 X G
theorem bl_of (X : (HK p).In h) (G : h.Ns mainGlobals mg) : Bl mg where
  isinstance_ := PySem.W.mg_none_of X G (by kernel_rfl)
  int_ := PySem.W.mg_none_of X G (by kernel_rfl)
  bool_ := PySem.W.mg_none_of X G (by kernel_rfl)
  tuple_ := PySem.W.mg_none_of X G (by kernel_rfl)
  str_ := PySem.W.mg_none_of X G (by kernel_rfl)
  len_ := PySem.W.mg_none_of X G (by kernel_rfl)
  all_ := PySem.W.mg_none_of X G (by kernel_rfl)
  range_ := PySem.W.mg_none_of X G (by kernel_rfl)
  max_ := PySem.W.mg_none_of X G (by kernel_rfl)
  min_ := PySem.W.mg_none_of X G (by kernel_rfl)
  abs_ := PySem.W.mg_none_of X G (by kernel_rfl)
  enumerate_ := PySem.W.mg_none_of X G (by kernel_rfl)
  zip_ := PySem.W.mg_none_of X G (by kernel_rfl)
  divmod_ := PySem.W.mg_none_of X G (by kernel_rfl)
  repr_ := PySem.W.mg_none_of X G (by kernel_rfl)
  gcd_ := PySem.W.mg_of X G (by kernel_rfl)
  deg_ := ⟨_, PySem.W.mg_of X G rfl⟩
  term_ := ⟨_, PySem.W.mg_of X G rfl⟩
  bits_ := ⟨_, PySem.W.mg_of X G rfl⟩
theorem list_of (X : (HK p).In h) (G : h.Ns mainGlobals mg) : mg "list" = none := PySem.W.mg_none_of X G (by kernel_rfl)
theorem any_of (X : (HK p).In h) (G : h.Ns mainGlobals mg) : mg "any" = none := PySem.W.mg_none_of X G (by kernel_rfl)
theorem isq_of (X : (HK p).In h) (G : h.Ns mainGlobals mg) : mg "isqrt" = some (.builtin "math.isqrt") := PySem.W.mg_of X G (by kernel_rfl)
theorem sh_cl (p : Params) : Cls (HK p) 489 := ⟨by kernel_rfl, by kernel_rfl, by kernel_rfl, by kernel_rfl⟩
theorem sh_init (p : Params) : ∃ f fd, Mk (HK p) 489 f ∧ Fun (HK p) "__init__" "Shape.__init__" (inClass (top 53) 0) f fd := by
  rw [topQ]
  refine ⟨425, ?fd, ⟨?m1, ?m2, ?m3, ?m4⟩, ⟨⟨?a1, ?a2, ?a3, ?a4, ?a5, ?a6, ?a7, ?a8, ?a9, ?e1, ?e2, ?e3⟩, ?e4⟩⟩
  case m1 => kernel_rfl
  case m2 => kernel_rfl
  case m3 => kernel_rfl
  case m4 => kernel_rfl
  case e1 => exact rfl
  case e2 => exact rfl
  case e3 => kernel_rfl
  case e4 => kernel_rfl
theorem sh_text (p : Params) : ∃ q f fd, PropOf (HK p) 489 "text" q f ∧ Fun (HK p) "text" "Shape.text" (inClass (top 53) 2) f fd := by
  rw [topQ]
  refine ⟨441, ?f, ?fd, ⟨?m1, ?m2, ?m3, ⟨?rest, ?m4⟩⟩, ⟨⟨?a1, ?a2, ?a3, ?a4, ?a5, ?a6, ?a7, ?a8, ?a9, ?e1, ?e2, ?e3⟩, ?e4⟩⟩
  case m1 => kernel_rfl
  case m4 => exact rfl
  case m2 => kernel_rfl
  case m3 => kernel_rfl
  case e1 => exact rfl
  case e2 => exact rfl
  case e3 => kernel_rfl
  case e4 => kernel_rfl
theorem sh_equation (p : Params) : ∃ q f fd, PropOf (HK p) 489 "equation" q f ∧ Fun (HK p) "equation" "Shape.equation" (inClass (top 53) 3) f fd := by
  rw [topQ]
  refine ⟨449, ?f, ?fd, ⟨?m1, ?m2, ?m3, ⟨?rest, ?m4⟩⟩, ⟨⟨?a1, ?a2, ?a3, ?a4, ?a5, ?a6, ?a7, ?a8, ?a9, ?e1, ?e2, ?e3⟩, ?e4⟩⟩
  case m1 => kernel_rfl
  case m4 => exact rfl
  case m2 => kernel_rfl
  case m3 => kernel_rfl
  case e1 => exact rfl
  case e2 => exact rfl
  case e3 => kernel_rfl
  case e4 => kernel_rfl
theorem sh_degree (p : Params) : ∃ q f fd, PropOf (HK p) 489 "degree" q f ∧ Fun (HK p) "degree" "Shape.degree" (inClass (top 53) 4) f fd := by
  rw [topQ]
  refine ⟨457, ?f, ?fd, ⟨?m1, ?m2, ?m3, ⟨?rest, ?m4⟩⟩, ⟨⟨?a1, ?a2, ?a3, ?a4, ?a5, ?a6, ?a7, ?a8, ?a9, ?e1, ?e2, ?e3⟩, ?e4⟩⟩
  case m1 => kernel_rfl
  case m4 => exact rfl
  case m2 => kernel_rfl
  case m3 => kernel_rfl
  case e1 => exact rfl
  case e2 => exact rfl
  case e3 => kernel_rfl
  case e4 => kernel_rfl
theorem sh_rank (p : Params) : ∃ q f fd, PropOf (HK p) 489 "rank" q f ∧ Fun (HK p) "rank" "Shape.rank" (inClass (top 53) 5) f fd := by
  rw [topQ]
  refine ⟨465, ?f, ?fd, ⟨?m1, ?m2, ?m3, ⟨?rest, ?m4⟩⟩, ⟨⟨?a1, ?a2, ?a3, ?a4, ?a5, ?a6, ?a7, ?a8, ?a9, ?e1, ?e2, ?e3⟩, ?e4⟩⟩
  case m1 => kernel_rfl
  case m4 => exact rfl
  case m2 => kernel_rfl
  case m3 => kernel_rfl
  case e1 => exact rfl
  case e2 => exact rfl
  case e3 => kernel_rfl
  case e4 => kernel_rfl
theorem sh_flo (p : Params) : ∃ f fd, Meth (HK p) 489 "floor_at" f ∧ Fun (HK p) "floor_at" "Shape.floor_at" (inClass (top 53) 6) f fd := by
  rw [topQ]
  refine ⟨472, ?fd, ⟨?m1, ?m2, ?m3⟩, ⟨⟨?a1, ?a2, ?a3, ?a4, ?a5, ?a6, ?a7, ?a8, ?a9, ?e1, ?e2, ?e3⟩, ?e4⟩⟩
  case m1 => kernel_rfl
  case m2 => kernel_rfl
  case m3 => kernel_rfl
  case e1 => exact rfl
  case e2 => exact rfl
  case e3 => kernel_rfl
  case e4 => kernel_rfl
theorem sh_so (p : Params) : ShO (HK p) 489 := by
  have q : ∃ fd, Fun (HK p) "of" "Shape.of" (inClass (top 53) 1) 430 fd := by
    rw [topQ]
    refine ⟨?fd, ⟨⟨?a1, ?a2, ?a3, ?a4, ?a5, ?a6, ?a7, ?a8, ?a9, ?e1, ?e2, ?e3⟩, ?e4⟩⟩
    case e1 => exact rfl
    case e2 => exact rfl
    case e3 => kernel_rfl
    case e4 => kernel_rfl
  obtain ⟨fd, F⟩ := q
  exact ⟨⟨.type "type", ⟨by kernel_rfl, by kernel_rfl⟩, 432, 430, fd, ⟨by kernel_rfl, ⟨_, rfl⟩⟩, by kernel_rfl, F⟩⟩
theorem sh_of (X : (HK p).In h) (G : h.Ns mainGlobals mg) : ShC (HK p) mg 489 where
  cl := sh_cl p
  n1 := by show PySem.W.findIn _ _ _ = _; kernel_rfl
  n2 := by show PySem.W.findIn _ _ _ = _; kernel_rfl
  n3 := by show PySem.W.findIn _ _ _ = _; kernel_rfl
  n4 := by show PySem.W.findIn _ _ _ = _; kernel_rfl
  n5 := by show PySem.W.findIn _ _ _ = _; kernel_rfl
  mgC := PySem.W.mg_of X G (by kernel_rfl)
  mkS := sh_init p
  txt := sh_text p
  eqn := sh_equation p
  deg := sh_degree p
  rnk := sh_rank p
  flo := sh_flo p
  c1 := by kernel_rfl
  c2 := by kernel_rfl
  c3 := by kernel_rfl
  c4 := by kernel_rfl
  kit := by kernel_rfl
end
end Wq
/-! The end of k39. -/
namespace Xq
open PySem PySem.Spec PyProof.Rows L2 Xk
/-- the law's call, where no repr is under way -/
theorem call_g2 {P : Program} {w : World} {K : PySem.W.Frag} {mg mb : Str → Option Value} {k : Nat} {fa a : Addr} {x x' : Str} {sp : Sp} {s₁ : Shared} {vs : List Value} {ns : List Int}
    (KX : K.In s₁.heap) (hns : s₁.heap.Ns mainGlobals mg) (hb : s₁.heap.Ns builtinsNs mb) (hbb : ∀ x : Str, x ≠ "__name__" → mb x = bootBuiltins x)
    (hlim : s₁.heap.NoLimit) (hg : s₁.gens = #[]) (ha : s₁.heap.get? a = some { cls := .type "list", data := .seq vs.toArray })
    (hi : IntsAre vs ns) (hl : ns.length ≤ sizeLine) (hr : Room k callerA)
    (F : ∀ base : Heap, CalG P w K mg base k x [x'] sp) (hmx : mg x = some (.ref fa))
    (hsp : ∀ H : Hp, SqL K H a (ns.map V.int) → sp [.ref a] H (fun v _ => v = .bl true) E0) :
    codeAny (model P w) callerA (.call (.ref fa) ⟨[.ref a], []⟩)
      (fun r s' => r = .ok (.ret (.bool true)) ∧ PySem.OldK s₁.heap s'.heap ∧ s'.os = s₁.os ∧ AllBare s'.gens) s₁ := by
  have rv := vals_ints hi
  have lenV := hi.length
  have core : ∀ H : Hp, Only H → SqL K H a (ns.map V.int) → HOk P w H s₁.heap → (∀ b, H b ≠ none → b = a) → (H a ≠ none → K.lookup a = none) →
      codeAny (model P w) callerA (.call (.ref fa) ⟨[.ref a], []⟩)
        (fun r s' => r = .ok (.ret (.bool true)) ∧ PySem.OldK s₁.heap s'.heap ∧ s'.os = s₁.os ∧ AllBare s'.gens) s₁ := by
    intro H hO hS hok hA hK
    have base_of : ∀ {b : Addr} {o : Obj}, s₁.heap.get? b = some o → H b = none → (hidT s₁.heap H).get? b = some o := fun e n => hidT_get e n
    have noA : ∀ {b : Addr} {o : Obj} {es : Array DictEntry} {ep : Nat}, s₁.heap.get? b = some o → o.data = .dict es ep → H b = none := fun {b o es ep} e d => by
      cases q : H b with
      | none => rfl
      | some u =>
        obtain rfl : b = a := hA b (by rw [q]; simp)
        rw [ha] at e
        cases e
        cases (show Data.seq vs.toArray _ = Data.dict es ep from d)
    have nsK : ∀ {b : Addr} {m : Str → Option Value}, s₁.heap.Ns b m → (hidT s₁.heap H).Ns b m := fun {b m} z => by
      obtain ⟨o, es, ep, e, d, r⟩ := z
      exact ⟨o, es, ep, base_of e (noA e d), d, r⟩
    have hKb : K.In (hidT s₁.heap H) := fun b o e => by
      refine base_of (KX b o e) ?_
      cases q : H b with
      | none => rfl
      | some u =>
        obtain rfl : b = a := hA b (by rw [q]; simp)
        rw [hK (by rw [q]; simp)] at e
        cases e
    have hM : Mod K mg (hidT s₁.heap H) := by
      obtain ⟨mc, h1, h2⟩ := hlim
      exact ⟨hKb, nsK hns, ⟨mb, nsK hb, hbb⟩, ⟨mc, nsK h1, h2⟩⟩
    have en : Env0 P w K mg (hidT s₁.heap H) callerA [] s₁ H :=
      ⟨rfl, hM, fun b o e => of_hidT e, Nat.le_of_eq (hidT_size _ _), trivial, fun b hb => absurd (show b ∈ ([] : List Addr) from hb) (by simp), hok, .of_eq hg⟩
    obtain ⟨f', fd, FF, bnd, m', kp⟩ := (F (hidT s₁.heap H)).ex
    rw [hmx] at m'
    cases m'
    have bd := bnd s₁ [.ref a] KX rfl
    rw [List.append_nil] at bd
    refine codeAny_mono (FF.run callerA [] s₁ H ⟨[.ref a], []⟩ [.ref a] [.ref a] _ _ hr rfl en bd (.cons rfl .nil) (hsp H hS)) fun r s' h => ?_
    cases r with
    | error e => exact (show False from h).elim
    | ok fl =>
      cases fl with
      | next => exact False.elim h
      | brk => exact False.elim h
      | cont => exact False.elim h
      | ret u =>
        obtain ⟨v, H', os, bare, un, hok', r', q⟩ := h
        obtain rfl : v = .bl true := q
        obtain rfl : u = Value.bool true := r'
        refine ⟨rfl, PySem.OldK.of_keep fun b o e => ?_, os, bare⟩
        cases q : H b with
        | none =>
          refine un.keep b o e q ?_ (by simp)
          intro z
          exact absurd (show b ∈ ([] : List Addr) from z) (by simp)
        | some u =>
          rcases hO b with z | ⟨ob, xs, z⟩
          · rw [q] at z
            cases z
          · obtain ⟨e1, _⟩ := hok b _ z
            obtain ⟨e2, _⟩ := hok' b _ (un.frzs b ob _ z)
            rw [e] at e1
            cases e1
            exact e2
  cases hk : K.lookup a with
  | some o =>
    have e := KX a o hk
    rw [ha] at e
    cases e
    refine core (fun _ => none) (fun _ => .inl rfl) (.inr ⟨_, vs.toArray, _, hk, rfl, rfl, rfl, ?_, by simpa using rv⟩) ?_ (fun b z => absurd rfl z) fun z => absurd rfl z
    · rw [List.size_toArray, lenV]
      exact hl
    · intro b u z
      cases (show (none : Option HO) = some u from z)
  | none =>
    refine core (fun b => if b = a then some (.frz { cls := .type "list", data := .seq vs.toArray } (.lst (ns.map V.int))) else none) (fun b => ?_)
      (.inl (.inr ⟨{ cls := .type "list", data := .seq vs.toArray }, if_pos rfl⟩)) (fun b u z => ?_) (fun b z => ?_) fun _ => hk
    · by_cases hb : b = a
      · exact .inr ⟨_, _, if_pos hb⟩
      · exact .inl (if_neg hb)
    · by_cases hb : b = a
      · cases ((if_pos hb).symm.trans z)
        subst hb
        exact ⟨ha, by rw [List.length_map]; exact hl, vs, _, rv, ha⟩
      · cases ((if_neg hb).symm.trans z)
    · by_cases hb : b = a
      · exact hb
      · exact absurd (if_neg hb) z
theorem room13 : Room 13 callerA := ⟨rfl, by decide, by decide⟩
theorem walk_39 {l : PySem.W.OpenLaw} {q : Program} {loose : List Str} {XP : (Str → Option Value) → Heap → Prop} {YP : World → Heap → Prop} {d : DefRec}
    (hn : l.most = some 63) (hdf : d.params.defaults = []) (hnm : d.name = "law")
    (hY : ∀ (w : World) (h : Heap), YP w h → (Wq.HK w.params).In h) :
    PySem.W.WalkO q loose XP YP l.row.toRowW d [] (fun f vs => PySem.call f vs) := by
  refine Att.attach_call hn hdf fun w s₀ s₁ mg mb fa o pm cd doc a vs ns G Y ho hd hcd hmg hobj hints hlen hg => ?_
  have KX := hY w _ Y
  rw [hnm] at hmg
  exact call_g2 KX G.T.g G.T.b G.T.builtins G.T.nolimit hg hobj hints (Nat.le_trans hlen (by decide)) room13
    (fun base => law_all (P := l.prog) (w := w) (base := base) (Wq.ds_of KX G.T.g) (Wq.bl_of KX G.T.g) (Wq.sh_of KX G.T.g) (Wq.sh_so w.params) (Wq.list_of KX G.T.g) (Wq.any_of KX G.T.g) (Wq.isq_of KX G.T.g)) hmg fun H hS => ⟨a, ns, rfl, hS, hlen, fun _ => rfl⟩
end Xq
open PySem PySem.W PyProof.Rows in
theorem PySem.Challenge.cw_likepanes_k39_known_writings_holds : PySem.Challenge.rw_likepanes_k39_known_writings.Holds := by
  w_on; o_law
  refine Hd.hd (by assumption) ?hw ?hc
  case hw =>
    show (OpenRow.toRowW (OpenLaw.row PySem.Challenge.rw_likepanes_k39_known_writings)).promised
    w_witness2
  case hc => exact Xq.walk_39 (l := PySem.Challenge.rw_likepanes_k39_known_writings) rfl (by kernel_rfl) (by kernel_rfl) (fun w h Y => PySem.W.kIn_of Y)
#print axioms PySem.Challenge.cw_likepanes_k39_known_writings_holds
