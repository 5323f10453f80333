import PyProof.Rows.All
import Wide.All
import OpenK.AllK
import Wide.FinOn
import HandS.ForMost
import HandS.WideBits
import HandS.IsInst
import HandS.Style
import HandS.Codes
import HandS.Sort
import HandS.Walk
import HandS.Flow
import HandS.HeadHook3
import KE.SortData
import PySem.Challenge.RW_likepanes_k43_whole_plain_trees
set_option Elab.async false
set_option linter.all false
set_option maxRecDepth 100000
set_option maxHeartbeats 0
section
open PySem PySem.W PyProof.Rows
open_top hd43 for PySem.Challenge.rw_likepanes_k43_whole_plain_trees
end
set_option maxHeartbeats 8000000
/-! Trees, their texts, the plain ones; no Python. -/
namespace Tq
inductive Tr where
  | leaf (b : Bool)
  | node (b : Bool) (ps : List Tr)
/-- a letter, an opening, a closing sign -/
def lc (b : Bool) : Nat := if b then 108 else 115
def oc (b : Bool) : Nat := if b then 91 else 40
def cc (b : Bool) : Nat := if b then 93 else 41
def jn : List (List Nat) → List Nat
  | [] => []
  | [x] => x
  | x :: y :: r => x ++ 32 :: jn (y :: r)
mutual
def tx : Tr → List Nat
  | .leaf b => [lc b]
  | .node b ps => oc b :: (jn (txs ps) ++ [cc b])
def txs : List Tr → List (List Nat)
  | [] => []
  | t :: r => tx t :: txs r
end
mutual
def lv : Tr → Nat
  | .leaf _ => 1
  | .node _ ps => lvs ps
def lvs : List Tr → Nat
  | [] => 0
  | t :: r => lv t + lvs r
end
mutual
def wf : Tr → Prop
  | .leaf _ => True
  | .node _ ps => 2 ≤ ps.length ∧ wfs ps
def wfs : List Tr → Prop
  | [] => True
  | t :: r => wf t ∧ wfs r
end
def le (a b : List Nat) : Bool := decide (a ≤ b)
def srt (l : List (List Nat)) : List (List Nat) := l.mergeSort le
mutual
/-- the texts that stand for a tree in brackets of a kind -/
def ls : Tr → Bool → List (List Nat)
  | .leaf b, _ => [[lc b]]
  | .node b ps, k => if b = k then lss ps k else [oc b :: (jn (srt (lss ps b)) ++ [cc b])]
def lss : List Tr → Bool → List (List Nat)
  | [], _ => []
  | t :: r, k => ls t k ++ lss r k
end
/-- the plain text -/
def pt : Tr → List Nat
  | .leaf b => [lc b]
  | .node b ps => oc b :: (jn (srt (lss ps b)) ++ [cc b])
def kd : Tr → Option Bool
  | .leaf _ => none
  | .node b _ => some b
mutual
def pl : Tr → Prop
  | .leaf _ => True
  | .node b ps => pls ps b ∧ (txs ps).Pairwise (fun x y => le x y = true)
def pls : List Tr → Bool → Prop
  | [], _ => True
  | t :: r, b => (pl t ∧ kd t ≠ some b) ∧ pls r b
end
/-! ### lists of trees -/
theorem txs_map : ∀ ps : List Tr, txs ps = ps.map tx
  | [] => rfl
  | t :: r => by rw [txs, txs_map r]; rfl
theorem lvs_app : ∀ a b : List Tr, lvs (a ++ b) = lvs a + lvs b
  | [], b => by simp [lvs]
  | t :: r, b => by rw [List.cons_append, lvs, lvs, lvs_app r b]; omega
theorem lss_app (k : Bool) : ∀ a b : List Tr, lss (a ++ b) k = lss a k ++ lss b k
  | [], b => by simp [lss]
  | t :: r, b => by rw [List.cons_append, lss, lss, lss_app k r b, List.append_assoc]
theorem txs_app (a b : List Tr) : txs (a ++ b) = txs a ++ txs b := by simp [txs_map]
theorem wfs_iff : ∀ a : List Tr, wfs a ↔ ∀ t ∈ a, wf t
  | [] => by simp [wfs]
  | t :: r => by rw [wfs, wfs_iff r]; simp
theorem pls_iff (b : Bool) : ∀ a : List Tr, pls a b ↔ ∀ t ∈ a, pl t ∧ kd t ≠ some b
  | [] => by simp [pls]
  | t :: r => by rw [pls, pls_iff b r]; simp
theorem lvs_perm {a b : List Tr} (h : a.Perm b) : lvs a = lvs b := by
  induction h with
  | nil => rfl
  | cons x _ ih => rw [lvs, lvs, ih]
  | swap x y l => rw [lvs, lvs, lvs, lvs]; omega
  | trans _ _ ih1 ih2 => rw [ih1, ih2]
theorem lss_perm {a b : List Tr} (k : Bool) (h : a.Perm b) : (lss a k).Perm (lss b k) := by
  induction h with
  | nil => exact .nil
  | cons x _ ih => rw [lss, lss]; exact ih.append_left _
  | swap x y l =>
    rw [lss, lss, lss, lss, ← List.append_assoc, ← List.append_assoc]
    exact List.perm_append_comm.append_right _
  | trans _ _ ih1 ih2 => exact ih1.trans ih2
theorem lv_pos : ∀ t : Tr, wf t → 1 ≤ lv t := by
  have two : ∀ (n : Nat) (t : Tr), sizeOf t ≤ n → wf t → 1 ≤ lv t := by
    intro n
    induction n with
    | zero =>
      intro t h
      cases t <;> simp at h
    | succ n ih =>
      intro t h w
      cases t with
      | leaf b => rw [lv]; exact Nat.le_refl _
      | node b ps =>
        rw [wf] at w
        match ps, w with
        | t :: r, w =>
          have w1 := w.2
          rw [wfs] at w1
          rw [lv, lvs]
          have hs : sizeOf t ≤ n := by
            simp at h
            omega
          have := ih t hs w1.1
          omega
        | [], w => exact absurd w.1 (by simp)
  exact fun t => two (sizeOf t) t (Nat.le_refl _)
theorem lvs_ge : ∀ ps : List Tr, wfs ps → ps.length ≤ lvs ps
  | [], _ => Nat.zero_le _
  | t :: r, w => by
    rw [wfs] at w
    have h1 := lv_pos t w.1
    have h2 := lvs_ge r w.2
    rw [lvs, List.length_cons]
    omega
theorem lv_part {ps : List Tr} {t : Tr} (w : wfs ps) (h2 : 2 ≤ ps.length) (h : t ∈ ps) : lv t < lvs ps := by
  obtain ⟨a, b, rfl⟩ := List.append_of_mem h
  have w2 := (wfs_iff _).mp w
  have wa := lvs_ge a ((wfs_iff _).mpr fun x hx => w2 x (by simp [hx]))
  have wb := lvs_ge b ((wfs_iff _).mpr fun x hx => w2 x (by simp [hx]))
  rw [lvs_app, lvs]
  simp at h2
  omega
/-! ### sorting -/
theorem le_iff {a b : List Nat} : le a b = true ↔ a ≤ b := by simp [le]
theorem le_tr (a b c : List Nat) (h1 : le a b = true) (h2 : le b c = true) : le a c = true := le_iff.mpr (List.le_trans (le_iff.mp h1) (le_iff.mp h2))
theorem le_tot (a b : List Nat) : (le a b || le b a) = true := by
  rcases List.le_total a b with h | h
  · simp [le_iff.mpr h]
  · simp [le_iff.mpr h]
theorem le_anti {a b : List Nat} (h1 : le a b = true) (h2 : le b a = true) : a = b := List.le_antisymm (le_iff.mp h1) (le_iff.mp h2)
theorem srt_pw (l : List (List Nat)) : (srt l).Pairwise (fun x y => le x y = true) := List.pairwise_mergeSort le_tr le_tot l
theorem srt_perm (l : List (List Nat)) : (srt l).Perm l := List.mergeSort_perm l le
theorem srt_uniq {l m : List (List Nat)} (h : m.Pairwise (fun x y => le x y = true)) (p : m.Perm l) : m = srt l :=
  List.Perm.eq_of_pairwise (fun a b _ _ h1 h2 => le_anti h1 h2) h (srt_pw l) (p.trans (srt_perm l).symm)
theorem srt_of_perm {l m : List (List Nat)} (p : l.Perm m) : srt l = srt m := srt_uniq (srt_pw l) ((srt_perm l).trans p)
/-! ### alike trees -/
theorem ls_other {t : Tr} {k : Bool} (h : kd t ≠ some k) : ls t k = [pt t] := by
  cases t with
  | leaf b => rw [ls, pt]
  | node b ps =>
    rw [ls, if_neg (fun e => h (by rw [kd, e])), pt]
theorem ls_same {k : Bool} {ps : List Tr} : ls (.node k ps) k = lss ps k := by rw [ls, if_pos rfl]
structure Sim (t u : Tr) : Prop where
  kd : Tq.kd t = Tq.kd u
  lv : Tq.lv t = Tq.lv u
  ls : ∀ k, (Tq.ls t k).Perm (Tq.ls u k)
theorem Sim.refl (t : Tr) : Sim t t := ⟨rfl, rfl, fun _ => .refl _⟩
theorem kd_free (t : Tr) : ∃ k, kd t ≠ some k := by
  cases t with
  | leaf b => exact ⟨true, nofun⟩
  | node b ps => exact ⟨!b, by cases b <;> simp [kd]⟩
theorem Sim.pt {t u : Tr} (h : Sim t u) : pt t = pt u := by
  obtain ⟨k, hk⟩ := kd_free t
  have q := h.ls k
  rw [ls_other hk, ls_other (by rw [← h.kd]; exact hk)] at q
  exact List.singleton_perm_singleton.mp q
theorem Sim.nd {b : Bool} {ps qs : List Tr} (h1 : lvs qs = lvs ps) (h2 : (lss qs b).Perm (lss ps b)) : Sim (.node b qs) (.node b ps) := by
  refine ⟨rfl, by rw [Tq.lv, Tq.lv, h1], fun k => ?_⟩
  by_cases e : b = k
  · subst e
    rw [ls_same, ls_same]
    exact h2
  · have hk : ∀ rs, Tq.kd (Tr.node b rs) ≠ some k := fun rs q => e (Option.some.inj q)
    rw [ls_other (hk _), ls_other (hk _), Tq.pt, Tq.pt, srt_of_perm h2]
theorem lss_plain {b : Bool} : ∀ {qs : List Tr}, (∀ t ∈ qs, Tq.pt t = tx t) → pls qs b → lss qs b = txs qs
  | [], _, _ => by rw [lss, txs]
  | t :: r, h, p => by
    rw [pls] at p
    rw [lss, txs, ls_other p.1.2, h t (List.mem_cons_self ..), lss_plain (fun x hx => h x (List.mem_cons_of_mem _ hx)) p.2]
    rfl
theorem pl_pt : ∀ t : Tr, pl t → pt t = tx t := by
  have two : ∀ (n : Nat) (t : Tr), sizeOf t ≤ n → pl t → pt t = tx t := by
    intro n
    induction n with
    | zero =>
      intro t h
      cases t <;> simp at h
    | succ n ih =>
      intro t h p
      cases t with
      | leaf b => rw [pt, tx]
      | node b ps =>
        rw [pl] at p
        have e : lss ps b = txs ps := lss_plain (fun t ht => ih t (by
          have := List.sizeOf_lt_of_mem ht
          simp at h
          omega) (((pls_iff b ps).mp p.1) t ht).1) p.1
        rw [pt, tx, e, ← srt_uniq p.2 (.refl _)]
  exact fun t => two (sizeOf t) t (Nat.le_refl _)
/-- a flattened node's parts, sorted -/
theorem flat_end {b : Bool} {ps qs rs : List Tr} (h1 : lvs qs = lvs ps) (h2 : (lss qs b).Perm (lss ps b)) (h3 : wfs qs) (h4 : pls qs b) (h5 : 2 ≤ qs.length) (p : rs.Perm qs) (hs : (txs rs).Pairwise (fun x y => le x y = true)) :
    Sim (.node b rs) (.node b ps) ∧ wf (.node b rs) ∧ pl (.node b rs) := by
  refine ⟨Sim.nd ((lvs_perm p).trans h1) ((lss_perm b p).trans h2), ?_, ?_⟩
  · rw [wf]
    exact ⟨by rw [p.length_eq]; exact h5, (wfs_iff _).mpr fun t ht => (wfs_iff _).mp h3 t (p.mem_iff.mp ht)⟩
  · rw [pl]
    exact ⟨(pls_iff b _).mpr fun t ht => (pls_iff b _).mp h4 t (p.mem_iff.mp ht), hs⟩
end Tq

/-! Reading a text. -/
namespace Tq
/-- rows (the top one, those below), what is open, whether a tree is wanted -/
structure MS where
  r : List Tr
  rs : List (List Tr)
  op : List Bool
  w : Bool
def stp (m : MS) (c : Nat) : Option MS :=
  if m.w = true ∧ (c = 108 ∨ c = 115) then some ⟨m.r ++ [.leaf (decide (c = 108))], m.rs, m.op, false⟩
  else if m.w = true ∧ (c = 91 ∨ c = 40) then some ⟨[], m.r :: m.rs, decide (c = 91) :: m.op, true⟩
  else match m.op with
    | [] => none
    | b :: op' => if m.w = true then none else if c = 32 then some ⟨m.r, m.rs, m.op, true⟩
      else if c = cc b ∧ 1 < m.r.length then match m.rs with
        | [] => none
        | r' :: rs' => some ⟨r' ++ [.node b m.r], rs', op', false⟩
      else none
def run : MS → List Nat → Option MS
  | m, [] => some m
  | m, c :: l => match stp m c with
    | none => none
    | some m' => run m' l
theorem run_of {m m' : MS} {c : Nat} {l : List Nat} (h : stp m c = some m') : run m (c :: l) = run m' l := by rw [run, h]
theorem stp_leaf (b : Bool) (r : List Tr) (rs : List (List Tr)) (op : List Bool) : stp ⟨r, rs, op, true⟩ (lc b) = some ⟨r ++ [.leaf b], rs, op, false⟩ := by
  cases b <;> simp [stp, lc]
theorem stp_open (b : Bool) (r : List Tr) (rs : List (List Tr)) (op : List Bool) : stp ⟨r, rs, op, true⟩ (oc b) = some ⟨[], r :: rs, b :: op, true⟩ := by
  cases b <;> simp [stp, oc]
theorem stp_space (b : Bool) (r : List Tr) (rs : List (List Tr)) (op : List Bool) : stp ⟨r, rs, b :: op, false⟩ 32 = some ⟨r, rs, b :: op, true⟩ := by
  simp [stp]
theorem stp_close (b : Bool) (r r' : List Tr) (rs : List (List Tr)) (op : List Bool) (h : 1 < r.length) : stp ⟨r, r' :: rs, b :: op, false⟩ (cc b) = some ⟨r' ++ [.node b r], rs, op, false⟩ := by
  cases b <;> simp [stp, cc, h]
theorem run_tx : ∀ (n : Nat) (t : Tr), sizeOf t ≤ n → wf t → ∀ r rs op l, run ⟨r, rs, op, true⟩ (tx t ++ l) = run ⟨r ++ [t], rs, op, false⟩ l := by
  intro n
  induction n with
  | zero =>
    intro t h
    cases t <;> simp at h
  | succ n ih =>
    intro t h w r rs op l
    cases t with
    | leaf b =>
      rw [tx, List.cons_append, List.nil_append, run_of (stp_leaf b r rs op)]
    | node b ps =>
      rw [wf] at w
      have inner : ∀ (qs : List Tr), qs ≠ [] → (∀ t ∈ qs, t ∈ ps) → ∀ acc l, run ⟨acc, r :: rs, b :: op, true⟩ (jn (txs qs) ++ l) = run ⟨acc ++ qs, r :: rs, b :: op, false⟩ l := by
        intro qs
        induction qs with
        | nil => intro h; exact absurd rfl h
        | cons t qs ihq =>
          intro _ hm acc l
          have ht : sizeOf t ≤ n := by
            have := List.sizeOf_lt_of_mem (hm t (List.mem_cons_self ..))
            simp at h
            omega
          have wt : wf t := (wfs_iff _).mp w.2 t (hm t (List.mem_cons_self ..))
          cases qs with
          | nil =>
            rw [txs, txs, jn]
            exact ih t ht wt _ _ _ _
          | cons u qs =>
            have e : jn (txs (t :: u :: qs)) ++ l = tx t ++ (32 :: (jn (txs (u :: qs)) ++ l)) := by
              rw [txs, txs, jn]
              simp
            rw [e, ih t ht wt, run_of (stp_space _ _ _ _), ihq (by simp) (fun x hx => hm x (List.mem_cons_of_mem _ hx))]
            simp
      have e : tx (.node b ps) ++ l = oc b :: (jn (txs ps) ++ (cc b :: l)) := by
        rw [tx]
        simp
      have ne : ps ≠ [] := fun z => by
        rw [z] at w
        exact absurd w.1 (by simp)
      rw [e, run_of (stp_open _ _ _ _), inner ps ne (fun _ h => h) [] (cc b :: l), List.nil_append, run_of (stp_close _ _ _ _ _ w.1)]
theorem run_all (t : Tr) (w : wf t) : run ⟨[], [], [], true⟩ (tx t) = some ⟨[t], [], [], false⟩ := by
  have q := run_tx (sizeOf t) t (Nat.le_refl _) w [] [] [] []
  rw [List.append_nil] at q
  rw [q]
  rfl
/-! ### letters are counted -/
def ct (l : List Nat) : Nat := l.count 108 + l.count 115
theorem ct_app (a b : List Nat) : ct (a ++ b) = ct a + ct b := by
  unfold ct
  rw [List.count_append, List.count_append]
  omega
theorem ct_cons (c : Nat) (l : List Nat) : ct (c :: l) = ct [c] + ct l := ct_app [c] l
theorem ct_jn : ∀ l : List (List Nat), ct (jn l) = (l.map ct).sum
  | [] => rfl
  | [x] => by simp [jn]
  | x :: y :: r => by
    rw [jn, ct_app, ct_cons, ct_jn (y :: r)]
    simp [ct]
theorem ct_tx : ∀ (n : Nat) (t : Tr), sizeOf t ≤ n → ct (tx t) = lv t := by
  intro n
  induction n with
  | zero =>
    intro t h
    cases t <;> simp at h
  | succ n ih =>
    intro t h
    cases t with
    | leaf b => cases b <;> rfl
    | node b ps =>
      have e : ∀ qs : List Tr, (∀ t ∈ qs, t ∈ ps) → ((txs qs).map ct).sum = lvs qs := by
        intro qs
        induction qs with
        | nil => intro _; rfl
        | cons t qs ihq =>
          intro hm
          have ht : sizeOf t ≤ n := by
            have := List.sizeOf_lt_of_mem (hm t (List.mem_cons_self ..))
            simp at h
            omega
          rw [txs, lvs, List.map_cons, List.sum_cons, ih t ht, ihq (fun x hx => hm x (List.mem_cons_of_mem _ hx))]
      rw [tx, lv, ct_cons, ct_app, ct_jn, e ps (fun _ h => h)]
      cases b <;> simp [ct, oc, cc]
theorem ct_lv (t : Tr) : ct (tx t) = lv t := ct_tx _ t (Nat.le_refl _)
/-! ### lengths -/
theorem jn_len : ∀ l : List (List Nat), (jn l).length + 1 = (l.map (fun x => x.length + 1)).sum ∨ l = []
  | [] => .inr rfl
  | [x] => .inl (by simp [jn])
  | x :: y :: r => .inl (by
    rcases jn_len (y :: r) with q | q
    · rw [jn, List.length_append, List.length_cons, List.map_cons, List.sum_cons, ← q]
      omega
    · cases q)
theorem jn_len_le (l : List (List Nat)) : (jn l).length ≤ (l.map (fun x => x.length + 1)).sum := by
  rcases jn_len l with q | q
  · omega
  · rw [q]; exact Nat.zero_le _
theorem sum_perm {l m : List (List Nat)} (h : l.Perm m) : (l.map (fun x => x.length + 1)).sum = (m.map (fun x => x.length + 1)).sum := by
  induction h with
  | nil => rfl
  | cons x _ ih => simp only [List.map_cons, List.sum_cons, ih]
  | swap x y l => simp only [List.map_cons, List.sum_cons]; omega
  | trans _ _ a b => rw [a, b]
/-- what is long at most 6 times as long as it has leaves, less 5 -/
theorem len_tx : ∀ (n : Nat) (t : Tr), sizeOf t ≤ n → wf t → (tx t).length + 3 ≤ 4 * lv t := by
  intro n
  induction n with
  | zero =>
    intro t h
    cases t <;> simp at h
  | succ n ih =>
    intro t h w
    cases t with
    | leaf b => rw [tx, lv]; exact Nat.le_refl _
    | node b ps =>
      rw [wf] at w
      have e : ∀ qs : List Tr, (∀ t ∈ qs, t ∈ ps) → ((txs qs).map (fun x => x.length + 1)).sum + 2 * qs.length ≤ 4 * lvs qs := by
        intro qs
        induction qs with
        | nil => intro _; exact Nat.zero_le _
        | cons t qs ihq =>
          intro hm
          have ht : sizeOf t ≤ n := by
            have := List.sizeOf_lt_of_mem (hm t (List.mem_cons_self ..))
            simp at h
            omega
          have q1 := ih t ht ((wfs_iff _).mp w.2 t (hm t (List.mem_cons_self ..)))
          have q2 := ihq (fun x hx => hm x (List.mem_cons_of_mem _ hx))
          rw [txs, lvs, List.map_cons, List.sum_cons, List.length_cons]
          omega
      have q := e ps (fun _ h => h)
      have j := jn_len (txs ps)
      rw [tx, lv, List.length_cons, List.length_append, List.length_singleton]
      have := w.1
      rcases j with j | j
      · omega
      · rw [j]
        have : (jn []).length = 0 := rfl
        have := lvs_ge ps w.2
        omega
theorem len_lv (t : Tr) (w : wf t) : (tx t).length + 3 ≤ 4 * lv t := len_tx _ t (Nat.le_refl _) w
end Tq

/-! Texts as lists of signs. -/
namespace Tq
open PySem PySem.Spec PyProof.Rows L2 SX Builtin Builtin.Str
theorem jn_join : ∀ l : List (List Nat), jn l = TL.joinL [32] l
  | [] => rfl
  | [x] => by simp [jn, TL.joinL]
  | x :: y :: r => by
    rw [jn, jn_join (y :: r)]
    simp [TL.joinL]
theorem join_jn (l : List (List Nat)) : Txt.join (S [32]) (l.map S) = S (jn l) := by rw [join_S, jn_join]
theorem occ_cnt (a : List Nat) (c : Nat) : ∀ (m i : Nat) (st : Array Nat × Nat), i + m = a.length + 1 → st.2 ≤ i → st.1.size ≤ i →
    (forIn (List.range' i m) st (StrLaws.occBody (S a) (S [c]) (S a).length ((S a).length + 1))).run.fst.size = st.1.size + (a.drop i).count c
  | 0, i, st, h, _, _ => by
    have e : a.drop i = [] := List.drop_eq_nil_of_le (by omega)
    rw [e]
    simp
  | m + 1, i, st, h, h1, h2 => by
    rw [List.range'_succ, List.forIn_cons]
    have hl : (S a).length = a.length := S_len a
    have key := StrLaws.subAt_one (S a) c i
    have e1 : (S a).cps.toList = a := rfl
    rw [e1] at key
    unfold StrLaws.occBody
    by_cases q : a[i]? = some c
    · obtain ⟨k1, k2⟩ := key.mpr q
      have hi : i < a.length := by
        rw [List.getElem?_eq_some_iff] at q
        exact q.1
      rw [if_pos ⟨⟨⟨by omega, h1⟩, k1⟩, k2⟩]
      have r := occ_cnt a c m (i + 1) (st.1.push i, i + (S [c]).length) (by omega) (by show i + 1 ≤ i + 1; omega) (by rw [Array.size_push]; omega)
      have d : a.drop i = c :: a.drop (i + 1) := by
        rw [List.drop_eq_getElem_cons hi]
        rw [List.getElem?_eq_getElem hi] at q
        rw [Option.some.inj q]
      rw [d, List.count_cons_self]
      refine Eq.trans r ?_
      rw [Array.size_push]
      omega
    · rw [if_neg (fun z => q (key.mp ⟨z.1.2, z.2⟩))]
      have r := occ_cnt a c m (i + 1) (st.1, st.2) (by omega) (by show st.2 ≤ i + 1; omega) (by show st.1.size ≤ i + 1; omega)
      have d : (a.drop i).count c = (a.drop (i + 1)).count c := by
        by_cases hi : i < a.length
        · rw [List.drop_eq_getElem_cons hi, List.count_cons_of_ne]
          intro z
          rw [List.getElem?_eq_getElem hi] at q
          exact q (by rw [z])
        · rw [List.drop_eq_nil_of_le (by omega), List.drop_eq_nil_of_le (by omega)]
      rw [d]
      exact r
theorem count_S (a : List Nat) (c : Nat) : Txt.count (S a) (S [c]) = ((a.count c : Nat) : Int) := by
  unfold Txt.count
  rw [StrLaws.occ_eq, Array.length_toList]
  have q := occ_cnt a c (a.length + 1) 0 (#[], 0) (by omega) (Nat.le_refl _) (Nat.zero_le _)
  have hl : (S a).length = a.length := S_len a
  have e : (S a).length + 1 - 0 = a.length + 1 := by omega
  rw [e]
  rw [q]
  simp
/-! ### sorted texts, sorted pairs -/
theorem dle_str : PySem.W.dataLe false (fun b : List Nat => PyData.str (S b)) = le := by
  rw [PySem.W.dataLe_str]
  rfl
def encP (b : List Nat × Nat) : PyData := .tuple [.str (S b.1), .int (b.2 : Nat)]
theorem dle_pair {b c : List Nat × Nat} (h : PySem.W.dataLe false encP b c = true) : le b.1 c.1 = true := by
  rw [PySem.W.dataLe_eq] at h
  have h2 : (!PySem.W.dataLt (encP c) (encP b)) = true := h
  unfold encP at h2
  rw [PySem.W.dataLt_pair (by simp [PySem.W.alike]) (by simp [PySem.W.alike])] at h2
  by_cases e : PyData.eqv (.str (S c.1)) (.str (S b.1)) = true
  · have e2 : S c.1 = S b.1 := by simpa [PyData.eqv] using e
    rw [S_inj e2]
    exact le_iff.mpr (List.le_refl _)
  · rw [if_neg e] at h2
    have h3 : PySem.W.dataLt (.str (S c.1)) (.str (S b.1)) = false := by simpa using h2
    have h4 := congrFun (congrFun dle_str b.1) c.1
    rw [PySem.W.dataLe_eq] at h4
    have h5 : (!PySem.W.dataLt (.str (S c.1)) (.str (S b.1))) = le b.1 c.1 := h4
    rw [h3] at h5
    exact h5.symm
theorem dle_sorted (l : List (List Nat × Nat)) : ((l.mergeSort (PySem.W.dataLe false encP)).map Prod.fst).Pairwise (fun x y => le x y = true) := by
  have T := PySem.W.sortLe_total (PyProof.Rows.listOrd PyProof.Rows.itemOrd) false fun b => PySem.W.keyToks (encP b)
  refine List.pairwise_map.mpr (List.Pairwise.imp (fun {b c} h => dle_pair h) (List.pairwise_mergeSort T.trans (fun a b => Bool.or_eq_true_iff.mpr (T.total a b)) l))
end Tq

/-! How long, how many. -/
namespace Tq
theorem ls_sz : ∀ (n : Nat) (t : Tr), sizeOf t ≤ n → wf t → ∀ k, ((ls t k).map (fun x => x.length + 1)).sum + 2 ≤ 4 * lv t ∧ (ls t k).length ≤ lv t := by
  intro n
  induction n with
  | zero =>
    intro t h
    cases t <;> simp at h
  | succ n ih =>
    intro t h w k
    cases t with
    | leaf b =>
      rw [ls, lv]
      exact ⟨Nat.le_refl _, Nat.le_refl _⟩
    | node b ps =>
      rw [wf] at w
      have e : ∀ (k : Bool) (qs : List Tr), (∀ t ∈ qs, t ∈ ps) → ((lss qs k).map (fun x => x.length + 1)).sum + 2 * qs.length ≤ 4 * lvs qs ∧ (lss qs k).length ≤ lvs qs := by
        intro k qs
        induction qs with
        | nil => intro _; exact ⟨Nat.le_refl _, Nat.le_refl _⟩
        | cons t qs ihq =>
          intro hm
          have ht : sizeOf t ≤ n := by
            have := List.sizeOf_lt_of_mem (hm t (List.mem_cons_self ..))
            simp at h
            omega
          have q1 := ih t ht ((wfs_iff _).mp w.2 t (hm t (List.mem_cons_self ..))) k
          have q2 := ihq (fun x hx => hm x (List.mem_cons_of_mem _ hx))
          rw [lss, lvs, List.map_append, List.sum_append, List.length_append, List.length_cons]
          omega
      have w1 := w.1
      have lg := lvs_ge ps w.2
      rw [lv]
      by_cases z : b = k
      · rw [ls, if_pos z]
        have q := e k ps (fun _ h => h)
        omega
      · rw [ls, if_neg z]
        have q := e b ps (fun _ h => h)
        have j := jn_len (srt (lss ps b))
        have sp : ((srt (lss ps b)).map (fun x => x.length + 1)).sum = ((lss ps b).map (fun x => x.length + 1)).sum := sum_perm (srt_perm _)
        simp only [List.map_cons, List.map_nil, List.sum_cons, List.sum_nil, List.length_cons, List.length_nil, List.length_append]
        rcases j with j | j
        · omega
        · rw [j]
          have : (jn []).length = 0 := rfl
          omega
theorem ls_sum (t : Tr) (w : wf t) (k : Bool) : ((ls t k).map (fun x => x.length + 1)).sum + 2 ≤ 4 * lv t := (ls_sz _ t (Nat.le_refl _) w k).1
theorem ls_len (t : Tr) (w : wf t) (k : Bool) : (ls t k).length ≤ lv t := (ls_sz _ t (Nat.le_refl _) w k).2
theorem lss_len (k : Bool) : ∀ ps : List Tr, wfs ps → (lss ps k).length ≤ lvs ps
  | [], _ => Nat.le_refl _
  | t :: r, w => by
    rw [wfs] at w
    have h1 := ls_len t w.1 k
    have h2 := lss_len k r w.2
    rw [lss, lvs, List.length_append]
    omega
theorem lss_take (k : Bool) {ps : List Tr} {i : Nat} {t : Tr} (h : ps[i]? = some t) : lss (ps.take (i + 1)) k = lss (ps.take i) k ++ ls t k := by
  rw [List.take_succ, h, lss_app]
  show _ ++ lss [t] k = _
  rw [lss, lss, List.append_nil]
end Tq

/-! The defs' promises in one form; rules of its own. -/
namespace Yq
open PySem PySem.Spec PyProof.Rows L2 SX Tq
theorem pss_nv {X : Cx} {e : List Stmt} : PSs X e (fun _ _ _ => False) := ⟨fun _ _ _ _ _ _ h => False.elim h⟩
theorem same_new {H : Hp} {p : Addr} {o : HO} (hp : H p = none) : Same H (upd H p o) := fun b u e => by
  rw [upd_ne (ne_of_none e hp)]
  exact e
def top (i : Nat) : Stmt := PySem.Challenge.pw_likepanes_k43_whole_plain_trees.main.body.getD i (.Pass ⟨0, 0, 0, 0⟩)
/-- called with args a, where ask holds -/
def Prx {α : Type} (args : α → List V) (ask : α → Hp → VK → Prop) : Sp := fun vs H Q _ => ∃ a, vs = args a ∧ ask a H Q
/-- a def of the module that keeps a promise, as it is called by its name -/
structure Cal (P : Program) (w : World) (K : PySem.W.Frag) (mg : Str → Option Value) (base : Heap) (k : Nat) (x : Str) (ps : List Str) (sp : Sp) : Prop where
  ex : ∃ f fd, FnOk P w K mg base L2.CX0 k f fd ps sp ∧ Binds K fd ps [] ∧ mg x = some (.ref f) ∧ PySem.W.keepIn K (.ref f) = true ∧ ∃ oc od osl, K.lookup f = some ⟨oc, od, .func fd, osl⟩
/-- the def st stands under its name -/
structure Df (K : PySem.W.Frag) (mg : Str → Option Value) (x : Str) (st : Stmt) : Prop where
  ex : ∃ f fd, Fun K x x st f fd ∧ mg x = some (.ref f)
section
variable {X : Cx} {k j : Nat} {ps : List Str} {sp : Sp} {x : Str} {p pos : Pos} {e : Expr} {es : List Expr} {t : TA}
theorem pe_cl (C : Cal X.prog X.w X.K X.mg X.base k x ps sp) (hr : Room j X.A) (hkj : k ≤ j) (ha : PA X (e :: es) t) (hg : Gl X x := by rfl) (hdb : (x == ("__debug__" : Str)) = false := by decide)
    (he : starEach (e :: es) X.env = (false, eval e X.env) :: starEach es X.env := by rfl) (hpl : (backTo pos (starEach es X.env)).any (·.1) = false := by rfl) :
    PE X (.Call (.Name x p) (e :: es) [] pos) (tCall sp [] L2.E0 t) := by
  obtain ⟨f, fd, F, b, m, kp, _⟩ := C.ex
  exact pe_call F (hr.mono hkj) hg m kp b .nil L2.pass0 ha hdb he hpl
end
theorem mkC {P : Program} {w : World} {K : PySem.W.Frag} {mg : Str → Option Value} {base : Heap} {α : Type} {args : α → List V} {ask : α → Hp → VK → Prop} {N ps : List Str} {x : Str} {st : Stmt} {k : Nat}
    (D : Df K mg x st) (S : FnScope N ps (defScope st))
    (hb : ∀ (kV doc pm : Value) (an : Option Addr) (cdv ct : Value) (us : List Value), us.length = ps.length → bindArgs (PySem.W.fnOf x x (defArgs st) (defBody st) (defScope st) .none kV doc pm an cdv ct) ⟨us, []⟩ = pure (ps.zip us))
    (hl : ∀ a : α, (args a).length = ps.length)
    (h : ∀ (f : Addr) (cdv : Value) (A : Around) (outer : List Env) (s : Shared) (H : Hp) (a : α) (Q : VK) (E : XK), Room k (A.deeper (envOfC x (defScope st) s.heap.objs.size f cdv)) → ask a H Q →
      ∃ t, PSs (cxOf L2.CX0 P w K mg base N x (defScope st) f cdv A outer s H E).nox (defBody st) t ∧ t { nx := fun _ H' => Q .non H', rt := Q } (L2.start N (args a)) H) :
    Cal P w K mg base (k + 1) x ps (Prx args ask) := by
  obtain ⟨f, fd, F, m⟩ := D.ex
  have lk : ∃ oc od osl, K.lookup f = some ⟨oc, od, .func fd, osl⟩ := by
    obtain ⟨oc, od, kV, doc, pm, an, cdv, ct, osl, _, lk, _⟩ := F.ex
    exact ⟨oc, od, osl, lk⟩
  refine ⟨f, fd, F.ok S (fun vs H Q E h => ?_) (fun cdv A outer s H vs Q E hr hp => ?_), F.binds hb, m, F.kp, lk⟩
  · obtain ⟨a, rfl, _⟩ := h
    exact hl a
  · obtain ⟨a, rfl, hpre⟩ := hp
    exact h f cdv A outer s H a Q E hr hpre
/-- of two promises either -/
def OrS (a b : Sp) : Sp := fun vs H Q E => a vs H Q E ∨ b vs H Q E
/-- the built-ins' names are free, the constants stand -/
structure Bl (w : World) (K : PySem.W.Frag) (mg : Str → Option Value) : Prop where
  isinstance_ : mg "isinstance" = none
  int_ : mg "int" = none
  tuple_ : mg "tuple" = none
  str_ : mg "str" = none
  len_ : mg "len" = none
  all_ : mg "all" = none
  range_ : mg "range" = none
  max_ : mg "max" = none
  min_ : mg "min" = none
  abs_ : mg "abs" = none
  divmod_ : mg "divmod" = none
  sorted_ : mg "sorted" = none
  leaves_ : ∃ t, mg "MOST_LEAVES" = some (.int 12 t)
  lies_ : ∃ t, mg "LIES" = some (.str "l" t)
  stands_ : ∃ t, mg "STANDS" = some (.str "s" t)
  cols_ : ∃ t, mg "COLUMNS" = some (.str "[" t)
  rows_ : ∃ t, mg "ROWS" = some (.str "(" t)
  clo_ : ∃ d es n, mg "CLOSING" = some (.ref d) ∧ KDict K w d es n ∧ (∃ t, PySem.W.nsIn K d "[" = some (some (.str "]" t))) ∧ (∃ t, PySem.W.nsIn K d "(" = some (some (.str ")" t)))
theorem gn {i : Nat} {v : V} {σ : L2.St} {H : Hp} {Q : L2.St → Hp → Prop} : gName i v σ H Q = Q (σ.set i (some v)) H := rfl
section
variable {P : Program} {w : World} {K : PySem.W.Frag} {mg : Str → Option Value} {base : Heap} {X : Cx}
theorem pe_isi {e : Expr} {te : TE} {p p2 pos : Pos} {x : Str} {v : V} {u : Value} (hg : Gl X "isinstance") (hm : X.mg "isinstance" = none) (he : PE X e te) (hg2 : Gl X x) (hm2 : X.mg x = none) (hv : bootBuiltins x = some u) (r : RelV v u)
    (hst : starEach [e, .Name x p2] X.env = (false, eval e X.env) :: starEach [.Name x p2] X.env := by rfl)
    (hn : x ≠ "__name__" := by decide) (hd : (x == ("__debug__" : Str)) = false := by decide) :
    PE X (.Call (.Name "isinstance" p) [e, .Name x p2] [] pos) (tCB (rIsi X.K) (tCons te (tCons (tC v) tNil))) :=
  pe_callB call_isi hg hm (by decide +kernel) (pa_cons he (pa_cons (pe_bltn hg2 hm2 hv r hn hd) pa_nil) hst) (by decide) (by decide) hst
/-- D[x], D a dict of the module -/
theorem ix_kd {d : Addr} {es : Array DictEntry} {n : Nat} (D : KDict X.K X.w d es n) :
    IxR X (fun x y H Q => ∃ (z : Str) (u0 : Value) (v0 : V), x = .ref d ∧ y = .str z ∧ PySem.W.nsIn X.K d z = some (some u0) ∧ RelV v0 u0 ∧ Q v0 H) := by
  intro value slice pins s σ H x y v u Q I rx ry h hs
  obtain ⟨z, u0, v0, rfl, rfl, e, r, q⟩ := h
  cases rx
  obtain ⟨t, rfl⟩ := ry
  refine tail_any (kd_type D I) slot_dict_getitem.lookup ?_ hs
  exact wpAny_getItem_of (PySem.strKind_is X.prog X.w z t) (PySem.W.mapOf_K (prog := X.prog) I.kIn D.at_ D.lit) (PySem.W.find_K D.at_ e) ⟨v0, H, I.tok _, r, q⟩
end
/-! ### sorted -/
section
variable {X : Cx}
open PySem.W
theorem each_dp {β : Type} {enc : β → PyData} {pins : List (Addr × Obj)} {σ : L2.St} {H : Hp} {s : Shared} (I : Inv X pins σ H s) : ∀ {xs : List V} {bs : List β} {us : List Value}, EachIs (fun x b => Dp X.K H x (enc b)) xs bs → Vals xs us →
    EachIs (fun u b => ∃ x, RelV x u ∧ Dp X.K H x (enc b)) us bs ∧ EachIs (fun v b => ∃ as, Reads s.heap v (enc b) as) us bs
  | _, _, _, .nil, .nil => ⟨.nil, .nil⟩
  | _, _, _, .cons e r, .cons q t => by
    obtain ⟨h1, h2⟩ := each_dp I r t
    exact ⟨.cons ⟨_, q, e⟩ h1, .cons (Dp.reads I _ _ _ e q) h2⟩
theorem each_back {β : Type} {enc : β → PyData} {H : Hp} : ∀ {us : List Value} {bs : List β}, EachIs (fun u b => ∃ x, RelV x u ∧ Dp X.K H x (enc b)) us bs → ∃ xs, Vals xs us ∧ EachIs (fun x b => Dp X.K H x (enc b)) xs bs
  | _, _, .nil => ⟨[], .nil, .nil⟩
  | _, _, .cons e r => by
    obtain ⟨x, q, d⟩ := e
    obtain ⟨xs, h1, h2⟩ := each_back r
    exact ⟨x :: xs, .cons q h1, .cons d h2⟩
def rSrt (β : Type) (enc : β → PyData) (K : PySem.W.Frag) : List V → Hp → VK → Prop := fun vs H Q => ∃ (a : Addr) (xs : List V) (bs : List β), vs = [.ref a] ∧ SqL K H a xs ∧ EachIs (fun x b => Dp K H x (enc b)) xs bs ∧
  ∀ ys p, EachIs (fun x b => Dp K H x (enc b)) ys (bs.mergeSort (dataLe false enc)) → H p = none → Q (.ref p) (upd H p (.lst ys))
theorem cr_srt {β : Type} {enc : β → PyData} (hu : X.A.units + 12 < cLine) (hal : ∀ b c, alike (enc b) (enc c) = true) (hk : ∀ bs : List β, Sortable (bs.map enc)) (hd : ∀ b, (enc b).depth ≤ 5) : CallR X (.builtin "sorted") (rSrt β enc X.K) := by
  intro pins s σ H vs us Q I r h
  obtain ⟨a, xs, bs, rfl, hs, he, q⟩ := h
  obtain ⟨its, rv, hl, hz⟩ := I.list hs
  rw [Vals.ref1 r]
  obtain ⟨e1, e2⟩ := each_dp I he rv
  have hlen : bs.length ≤ sizeLine := by rw [← he.length]; exact hz
  refine sorted_data hl.isList e1 e2 (AllAlike.of hal) (hk bs) hlen (fun b _ => by have := hd b; omega) fun out hol hout => ?_
  obtain ⟨ys, rys, eys⟩ := each_back hout
  obtain ⟨ep, he'⟩ := PyProof.Rows.sortedAll_at s.heap its (List.toArray out)
  have hys : ys.length ≤ sizeLine := by rw [eys.length, List.length_mergeSort]; exact hlen
  exact ⟨.ref _, upd H (s.heap.objs.size + 1) (.lst ys), I.laid (t' := s.toks) (fun _ _ => PyProof.Rows.sortedAll_old) (Nat.le_succ _) ⟨hys, out, ep, rys, he'⟩, rfl, q ys _ eys (I.hok.fresh (Nat.le_succ _))⟩
end
end Yq

/-! Trees in the heap. -/
namespace Yq
open PySem PySem.Spec PyProof.Rows L2 SX Tq
/-- all but r stays -/
def SameX (r : Addr) (H H' : Hp) : Prop := ∀ b o, b ≠ r → H b = some o → H' b = some o
theorem SameX.of {r : Addr} {H H' : Hp} (k : Same H H') : SameX r H H' := fun b o _ e => k b o e
theorem SameX.trans {r : Addr} {H H1 H2 : Hp} (a : SameX r H H1) (b : SameX r H1 H2) : SameX r H H2 := fun c o n e => b c o n (a c o n e)
theorem SameX.put {r : Addr} {H : Hp} {o : HO} : SameX r H (upd H r o) := fun b u n e => by
  rw [upd_ne n]
  exact e
theorem SameX.putN {r p : Addr} {H0 H1 : Hp} {o : HO} (s : SameX r H0 H1) (h : H0 p = none) : SameX r H0 (upd H1 p o) := fun b u n e => by
  rw [upd_ne (ne_of_none e h)]
  exact s b u n e
def rk (a b c : Int) : HO := .lst [.int a, .int b, .int c]
def RkI (H : Hp) (r : Addr) : Prop := ∃ a b c, H r = some (rk a b c)
theorem RkI.same {H H' : Hp} {r : Addr} (s : Same H H') (h : RkI H r) : RkI H' r := by
  obtain ⟨a, b, c, e⟩ := h
  exact ⟨a, b, c, s _ _ e⟩
theorem RkI.ne {H : Hp} {r p : Addr} (h : RkI H r) (hp : H p = none) : r ≠ p := by
  obtain ⟨a, b, c, e⟩ := h
  exact ne_of_none e hp
theorem RkI.putN {H : Hp} {r p : Addr} {o : HO} (h : RkI H r) (hp : r ≠ p) : RkI (upd H p o) r := by
  obtain ⟨a, b, c, e⟩ := h
  exact ⟨a, b, c, by rw [upd_ne hp]; exact e⟩
/-! ### the law's trees -/
mutual
/-- at v stands the tree, its objects in F -/
def Lw (F : Addr → Prop) (H : Hp) : Tr → V → Prop
  | .leaf b, v => v = .str (S [lc b])
  | .node b ps, v => ∃ a l vs, v = .ref a ∧ F a ∧ F l ∧ H a = some (.tup [.str (S [oc b]), .ref l]) ∧ H l = some (.lst vs) ∧ LwA F H ps vs
def LwA (F : Addr → Prop) (H : Hp) : List Tr → List V → Prop
  | [], vs => vs = []
  | t :: r, vs => ∃ v us, vs = v :: us ∧ Lw F H t v ∧ LwA F H r us
end
section
variable {F G : Addr → Prop} {H H' : Hp}
mutual
theorem Lw.mono (hF : ∀ a o, F a → H a = some o → G a ∧ H' a = some o) : ∀ (t : Tr) (v : V), Lw F H t v → Lw G H' t v
  | .leaf b, v, h => by
    rw [Lw] at h ⊢
    exact h
  | .node b ps, v, h => by
    rw [Lw] at h ⊢
    obtain ⟨a, l, vs, e, fa, fl, ha, hl, h⟩ := h
    exact ⟨a, l, vs, e, (hF _ _ fa ha).1, (hF _ _ fl hl).1, (hF _ _ fa ha).2, (hF _ _ fl hl).2, LwA.mono hF ps vs h⟩
theorem LwA.mono (hF : ∀ a o, F a → H a = some o → G a ∧ H' a = some o) : ∀ (ps : List Tr) (vs : List V), LwA F H ps vs → LwA G H' ps vs
  | [], vs, h => by
    rw [LwA] at h ⊢
    exact h
  | t :: r, vs, h => by
    rw [LwA] at h ⊢
    obtain ⟨v, us, e, h1, h2⟩ := h
    exact ⟨v, us, e, Lw.mono hF t v h1, LwA.mono hF r us h2⟩
end
end
theorem Lw.same {F : Addr → Prop} {H H' : Hp} {t : Tr} {v : V} (s : Same H H') (h : Lw F H t v) : Lw F H' t v := Lw.mono (fun a o f e => ⟨f, s a o e⟩) t v h
theorem LwA.same {F : Addr → Prop} {H H' : Hp} {ps : List Tr} {vs : List V} (s : Same H H') (h : LwA F H ps vs) : LwA F H' ps vs := LwA.mono (fun a o f e => ⟨f, s a o e⟩) ps vs h
/-- no object of it is the rack -/
theorem lwA_int {F : Addr → Prop} {H : Hp} {ps : List Tr} {i : Int} {us : List V} (h : LwA F H ps (.int i :: us)) : False := by
  cases ps with
  | nil =>
    rw [LwA] at h
    cases h
  | cons t r =>
    rw [LwA] at h
    obtain ⟨v, us', e, h1, _⟩ := h
    cases e
    cases t with
    | leaf b =>
      rw [Lw] at h1
      cases h1
    | node b ps =>
      rw [Lw] at h1
      obtain ⟨a, l, vs, e, _⟩ := h1
      cases e
section
variable {F : Addr → Prop} {H : Hp} {r : Addr}
mutual
theorem Lw.away (hR : RkI H r) : ∀ (t : Tr) (v : V), Lw F H t v → Lw (fun a => F a ∧ a ≠ r) H t v
  | .leaf b, v, h => by
    rw [Lw] at h ⊢
    exact h
  | .node b ps, v, h => by
    rw [Lw] at h ⊢
    obtain ⟨a, l, vs, e, fa, fl, ha, hl, h⟩ := h
    obtain ⟨x, y, z, er⟩ := hR
    refine ⟨a, l, vs, e, ⟨fa, fun q => ?_⟩, ⟨fl, fun q => ?_⟩, ha, hl, LwA.away ⟨x, y, z, er⟩ ps vs h⟩
    · rw [q, er] at ha
      cases ha
    · rw [q, er] at hl
      cases hl
      exact lwA_int h
theorem LwA.away (hR : RkI H r) : ∀ (ps : List Tr) (vs : List V), LwA F H ps vs → LwA (fun a => F a ∧ a ≠ r) H ps vs
  | [], vs, h => by
    rw [LwA] at h ⊢
    exact h
  | t :: q, vs, h => by
    rw [LwA] at h ⊢
    obtain ⟨v, us, e, h1, h2⟩ := h
    exact ⟨v, us, e, Lw.away hR t v h1, LwA.away hR q us h2⟩
end
end
theorem Lw.sameX {F : Addr → Prop} {H H' : Hp} {r : Addr} {t : Tr} {v : V} (hR : RkI H r) (s : SameX r H H') (h : Lw F H t v) : Lw F H' t v :=
  Lw.mono (fun a o f e => ⟨f.1, s a o f.2 e⟩) t v (Lw.away hR t v h)
theorem LwA.sameX {F : Addr → Prop} {H H' : Hp} {r : Addr} {ps : List Tr} {vs : List V} (hR : RkI H r) (s : SameX r H H') (h : LwA F H ps vs) : LwA F H' ps vs :=
  LwA.mono (fun a o f e => ⟨f.1, s a o f.2 e⟩) ps vs (LwA.away hR ps vs h)
theorem LwA.length {F : Addr → Prop} {H : Hp} : ∀ {ps : List Tr} {vs : List V}, LwA F H ps vs → vs.length = ps.length
  | [], vs, h => by
    rw [LwA] at h
    rw [h]
    rfl
  | t :: r, vs, h => by
    rw [LwA] at h
    obtain ⟨v, us, rfl, _, h2⟩ := h
    rw [List.length_cons, List.length_cons, LwA.length h2]
theorem LwA.at {F : Addr → Prop} {H : Hp} : ∀ {ps : List Tr} {vs : List V} {i : Nat} {x : V}, LwA F H ps vs → vs[i]? = some x → ∃ t, ps[i]? = some t ∧ Lw F H t x
  | [], vs, i, x, h, e => by
    rw [LwA] at h
    rw [h] at e
    cases e
  | t :: r, vs, i, x, h, e => by
    rw [LwA] at h
    obtain ⟨v, us, rfl, h1, h2⟩ := h
    cases i with
    | zero =>
      cases e
      exact ⟨t, rfl, h1⟩
    | succ i => exact LwA.at (i := i) h2 e
theorem LwA.app {F : Addr → Prop} {H : Hp} : ∀ {ps qs : List Tr} {vs us : List V}, LwA F H ps vs → LwA F H qs us → LwA F H (ps ++ qs) (vs ++ us)
  | [], qs, vs, us, h, h' => by
    rw [LwA] at h
    rw [h]
    exact h'
  | t :: r, qs, vs, us, h, h' => by
    rw [LwA] at h
    obtain ⟨v, us', rfl, h1, h2⟩ := h
    rw [List.cons_append, List.cons_append, LwA]
    exact ⟨v, us' ++ us, rfl, h1, LwA.app h2 h'⟩
theorem LwA.one {F : Addr → Prop} {H : Hp} {t : Tr} {v : V} (h : Lw F H t v) : LwA F H [t] [v] := by
  rw [LwA]
  exact ⟨v, [], rfl, h, by rw [LwA]⟩
theorem LwA.take {F : Addr → Prop} {H : Hp} : ∀ {ps : List Tr} {vs : List V} (n : Nat), LwA F H ps vs → LwA F H (ps.take n) (vs.take n)
  | [], vs, n, h => by
    rw [LwA] at h
    rw [h, List.take_nil, List.take_nil, LwA]
  | t :: r, vs, n, h => by
    rw [LwA] at h
    obtain ⟨v, us, rfl, h1, h2⟩ := h
    cases n with
    | zero =>
      rw [List.take_zero, List.take_zero, LwA]
    | succ n =>
      rw [List.take_succ_cons, List.take_succ_cons, LwA]
      exact ⟨v, us.take n, rfl, h1, LwA.take n h2⟩
theorem LwA.drop {F : Addr → Prop} {H : Hp} : ∀ {ps : List Tr} {vs : List V} (n : Nat), LwA F H ps vs → LwA F H (ps.drop n) (vs.drop n)
  | [], vs, n, h => by
    rw [LwA] at h
    rw [h, List.drop_nil, List.drop_nil, LwA]
  | t :: r, vs, n, h => by
    cases n with
    | zero => exact h
    | succ n =>
      rw [LwA] at h
      obtain ⟨v, us, rfl, h1, h2⟩ := h
      rw [List.drop_succ_cons, List.drop_succ_cons]
      exact LwA.drop n h2
theorem LwA.cons {F : Addr → Prop} {H : Hp} {t : Tr} {r : List Tr} {v : V} {us : List V} (h1 : Lw F H t v) (h2 : LwA F H r us) : LwA F H (t :: r) (v :: us) := by
  rw [LwA]
  exact ⟨v, us, rfl, h1, h2⟩
theorem LwA.nil {F : Addr → Prop} {H : Hp} : LwA F H [] [] := by rw [LwA]
/-! ### the program's nodes -/
/-- tuples stay -/
def KT (H H' : Hp) : Prop := ∀ b xs, H b = some (.tup xs) → H' b = some (.tup xs)
theorem KT.of {H H' : Hp} (s : Same H H') : KT H H' := fun b xs e => s b _ e
theorem KT.trans {H H1 H2 : Hp} (a : KT H H1) (b : KT H1 H2) : KT H H2 := fun c xs e => b c xs (a c xs e)
theorem KT.put {H : Hp} {p : Addr} {o : HO} {xs : List V} (h : H p = some (.lst xs)) : KT H (upd H p o) := fun b ys e => by
  have n : b ≠ p := fun q => by
    rw [q, h] at e
    cases e
  rw [upd_ne n]
  exact e
theorem KT.new {H : Hp} {p : Addr} {o : HO} (h : H p = none) : KT H (upd H p o) := KT.of (same_new h)
mutual
def Pn (H : Hp) : Tr → V → Prop
  | .leaf b, v => ∃ a e, v = .ref a ∧ H a = some (.tup [.str (S [lc b]), .ref e]) ∧ H e = some (.tup [])
  | .node b ps, v => ∃ a e vs, v = .ref a ∧ H a = some (.tup [.str (S [oc b]), .ref e]) ∧ H e = some (.tup vs) ∧ PnA H ps vs
def PnA (H : Hp) : List Tr → List V → Prop
  | [], vs => vs = []
  | t :: r, vs => ∃ v us, vs = v :: us ∧ Pn H t v ∧ PnA H r us
end
section
variable {H H' : Hp}
mutual
theorem Pn.mono (s : KT H H') : ∀ (t : Tr) (v : V), Pn H t v → Pn H' t v
  | .leaf b, v, h => by
    rw [Pn] at h ⊢
    obtain ⟨a, e, rfl, h1, h2⟩ := h
    exact ⟨a, e, rfl, s _ _ h1, s _ _ h2⟩
  | .node b ps, v, h => by
    rw [Pn] at h ⊢
    obtain ⟨a, e, vs, rfl, h1, h2, h3⟩ := h
    exact ⟨a, e, vs, rfl, s _ _ h1, s _ _ h2, PnA.mono s ps vs h3⟩
theorem PnA.mono (s : KT H H') : ∀ (ps : List Tr) (vs : List V), PnA H ps vs → PnA H' ps vs
  | [], vs, h => by
    rw [PnA] at h ⊢
    exact h
  | t :: r, vs, h => by
    rw [PnA] at h ⊢
    obtain ⟨v, us, e, h1, h2⟩ := h
    exact ⟨v, us, e, Pn.mono s t v h1, PnA.mono s r us h2⟩
end
end
theorem PnA.length {H : Hp} : ∀ {ps : List Tr} {vs : List V}, PnA H ps vs → vs.length = ps.length
  | [], vs, h => by
    rw [PnA] at h
    rw [h]
    rfl
  | t :: r, vs, h => by
    rw [PnA] at h
    obtain ⟨v, us, rfl, _, h2⟩ := h
    rw [List.length_cons, List.length_cons, PnA.length h2]
theorem PnA.at {H : Hp} : ∀ {ps : List Tr} {vs : List V} {i : Nat} {x : V}, PnA H ps vs → vs[i]? = some x → ∃ t, ps[i]? = some t ∧ Pn H t x
  | [], vs, i, x, h, e => by
    rw [PnA] at h
    rw [h] at e
    cases e
  | t :: r, vs, i, x, h, e => by
    rw [PnA] at h
    obtain ⟨v, us, rfl, h1, h2⟩ := h
    cases i with
    | zero =>
      cases e
      exact ⟨t, rfl, h1⟩
    | succ i => exact PnA.at (i := i) h2 e
theorem PnA.snoc {H : Hp} : ∀ {ps : List Tr} {vs : List V} {t : Tr} {v : V}, PnA H ps vs → Pn H t v → PnA H (ps ++ [t]) (vs ++ [v])
  | [], vs, t, v, h, h' => by
    rw [PnA] at h
    rw [h, List.nil_append, List.nil_append, PnA]
    exact ⟨v, [], rfl, h', by rw [PnA]⟩
  | u :: r, vs, t, v, h, h' => by
    rw [PnA] at h
    obtain ⟨x, us, rfl, h1, h2⟩ := h
    rw [List.cons_append, List.cons_append, PnA]
    exact ⟨x, us ++ [v], rfl, h1, PnA.snoc h2 h'⟩
theorem PnA.nil {H : Hp} : PnA H [] [] := by rw [PnA]
/-! ### as data, for a comparison -/
mutual
def dt : Tr → PyData
  | .leaf b => .tuple [.str (S [lc b]), .tuple []]
  | .node b ps => .tuple [.str (S [oc b]), .tuple (dts ps)]
def dts : List Tr → List PyData
  | [] => []
  | t :: r => dt t :: dts r
end
mutual
theorem Pn.data {K : PySem.W.Frag} {H : Hp} : ∀ (t : Tr) (v : V), Pn H t v → Dp K H v (dt t)
  | .leaf b, v, h => by
    rw [Pn] at h
    obtain ⟨a, e, rfl, h1, h2⟩ := h
    rw [dt]
    exact .tup (SqT.of h1) (.cons (.str _) (.cons (.tup (SqT.of h2) .nil) .nil))
  | .node b ps, v, h => by
    rw [Pn] at h
    obtain ⟨a, e, vs, rfl, h1, h2, h3⟩ := h
    rw [dt]
    exact .tup (SqT.of h1) (.cons (.str _) (.cons (.tup (SqT.of h2) (PnA.data ps vs h3)) .nil))
theorem PnA.data {K : PySem.W.Frag} {H : Hp} : ∀ (ps : List Tr) (vs : List V), PnA H ps vs → DpAll K H vs (dts ps)
  | [], vs, h => by
    rw [PnA] at h
    rw [h, dts]
    exact .nil
  | t :: r, vs, h => by
    rw [PnA] at h
    obtain ⟨v, us, rfl, h1, h2⟩ := h
    rw [dts]
    exact .cons (Pn.data t v h1) (PnA.data r us h2)
end
end Yq

/-! A text is read. -/
namespace Yq
open PySem PySem.Spec PyProof.Rows L2 SX Tq
mutual
theorem dt_lay : ∀ t : Tr, (dt t).canLay0 = true
  | .leaf b => by
    rw [dt]
    cases b <;> decide +kernel
  | .node b ps => by
    rw [dt]
    show (PyData.canLay0 (.str (S [oc b])) && (PyData.canLayAll0 (dts ps) && true)) = true
    rw [dts_lay ps]
    cases b <;> decide +kernel
theorem dts_lay : ∀ ps : List Tr, PyData.canLayAll0 (dts ps) = true
  | [] => rfl
  | t :: r => by
    rw [dts]
    show ((dt t).canLay0 && PyData.canLayAll0 (dts r)) = true
    rw [dt_lay t, dts_lay r]
    rfl
end
theorem dt_depth : ∀ (n : Nat) (t : Tr), sizeOf t ≤ n → wf t → (dt t).depth ≤ 2 * lv t := by
  intro n
  induction n with
  | zero =>
    intro t h
    cases t <;> simp at h
  | succ n ih =>
    intro t h w
    cases t with
    | leaf b =>
      rw [lv, dt]
      simp [PyData.depth, PyData.depthAll]
    | node b ps =>
      have w0 := w
      rw [wf] at w
      have e : ∀ qs : List Tr, (∀ t ∈ qs, t ∈ ps) → PyData.depthAll (dts qs) + 2 ≤ 2 * lv (.node b ps) := by
        intro qs
        induction qs with
        | nil =>
          intro _
          rw [dts]
          have := lv_pos _ w0
          simp only [PyData.depthAll]
          omega
        | cons t qs ihq =>
          intro hm
          have ht : sizeOf t ≤ n := by
            have := List.sizeOf_lt_of_mem (hm t (List.mem_cons_self ..))
            simp at h
            omega
          have q1 := ih t ht ((wfs_iff _).mp w.2 t (hm t (List.mem_cons_self ..)))
          have q2 := ihq (fun x hx => hm x (List.mem_cons_of_mem _ hx))
          have q3 := lv_part w.2 w.1 (hm t (List.mem_cons_self ..))
          rw [dts]
          simp only [PyData.depthAll]
          rw [lv] at q2 ⊢
          omega
      have q := e ps (fun _ h => h)
      rw [dt]
      simp only [PyData.depth, PyData.depthAll]
      omega
theorem dts_shaped {b : Bool} {ps : List Tr} (w : wf (.node b ps)) (h : lv (.node b ps) ≤ 12) : SeqAt.shaped (.tuple (dts ps)) = true := by
  have d := dt_depth _ _ (Nat.le_refl _) w
  rw [dt] at d
  simp only [PyData.depth, PyData.depthAll] at d
  unfold SeqAt.shaped
  rw [Bool.and_eq_true]
  refine ⟨dts_lay ps, decide_eq_true ?_⟩
  simp only [PyData.depth]
  omega
/-! ### signs -/
theorem in2 (c a b : Nat) : inV (.str (S [c])) [.str (S [a]), .str (S [b])] = (decide (c = a) || decide (c = b)) := by
  have e : ∀ x : Nat, (S [x] == S [c]) = decide (c = x) := fun x => by
    rw [S_beq_eq]
    by_cases h : x = c
    · simp [h]
    · have h2 : c ≠ x := fun z => h z.symm
      simp [h, h2]
  simp only [inV, eqV, List.any_cons, List.any_nil, Bool.or_false, e]
theorem sl : ("l" : Str) = S [108] := by decide
theorem ss : ("s" : Str) = S [115] := by decide
theorem so1 : ("[" : Str) = S [91] := by decide
theorem so2 : ("(" : Str) = S [40] := by decide
theorem sc1 : ("]" : Str) = S [93] := by decide
theorem sc2 : (")" : Str) = S [41] := by decide
theorem s_sp : (" " : Str) = S [32] := by decide
section
variable {P : Program} {w : World} {K : PySem.W.Frag} {mg : Str → Option Value} {base : Heap}
theorem s12 : FnScope ["text"] ["text"] (defScope (top 12)) := (⟨rfl, rfl, rfl, by decide +kernel, rfl, by decide +kernel, by decide +kernel⟩)
abbrev spLeaves : Sp := Prx (α := List Nat) (fun l => [.str (S l)]) (fun l H Q => Q (.int ((ct l : Nat) : Int)) H)
theorem c_leaves (D : Df K mg "leaves_in" (top 12)) (B : Bl w K mg) : Cal P w K mg base 1 "leaves_in" ["text"] spLeaves := by
  refine mkC D s12 (fun _ _ _ _ _ _ us hl => match us, hl with | [_], _ => rfl) (fun _ => rfl) (fun f cdv A outer s H l Q E hr k => ?_)
  obtain ⟨t1, h1⟩ := B.lies_
  obtain ⟨t2, h2⟩ := B.stands_
  refine ⟨_, pss_one (ps_ret (pe_op op_add (pe_m1 PySem.F.slot_str_count PySem.F.type_str_count mt_count (pv 0) (pe_glob (v := .str "l") (by rfl) h1 ⟨_, rfl⟩))
    (pe_m1 PySem.F.slot_str_count PySem.F.type_str_count mt_count (pv 0) (pe_glob (v := .str "s") (by rfl) h2 ⟨_, rfl⟩)))), ?_⟩
  refine ⟨_, rfl, ⟨_, rfl⟩, _, _, rfl, rfl, _, rfl, ⟨_, rfl⟩, _, _, rfl, rfl, _, _, rfl, rfl, ?_⟩
  rw [sl, ss, count_S, count_S]
  have e : ((l.count 108 : Nat) : Int) + ((l.count 115 : Nat) : Int) = ((ct l : Nat) : Int) := by unfold ct; omega
  show Q (.int (((l.count 108 : Nat) : Int) + ((l.count 115 : Nat) : Int))) H
  rw [e]
  exact k
theorem s14 : FnScope ["kind", "texts"] ["kind", "texts"] (defScope (top 14)) := (⟨rfl, rfl, rfl, by decide +kernel, rfl, by decide +kernel, by decide +kernel⟩)
theorem clo_get {d : Addr} (h1 : ∃ t, PySem.W.nsIn K d "[" = some (some (.str "]" t))) (h2 : ∃ t, PySem.W.nsIn K d "(" = some (some (.str ")" t))) (b : Bool) :
    ∃ u0, PySem.W.nsIn K d (S [oc b]) = some (some u0) ∧ RelV (.str (S [cc b])) u0 := by
  cases b with
  | true =>
    obtain ⟨t, e⟩ := h1
    refine ⟨_, e, ?_⟩
    rw [sc1]
    exact ⟨t, rfl⟩
  | false =>
    obtain ⟨t, e⟩ := h2
    refine ⟨_, e, ?_⟩
    rw [sc2]
    exact ⟨t, rfl⟩
abbrev spBr : Sp := Prx (α := Bool × Addr × List (List Nat)) (fun a => [.str (S [oc a.1]), .ref a.2.1]) (fun a H Q => H a.2.1 = some (.lst ((a.2.2.map S).map V.str)) ∧ (a.2.2.map (fun x => x.length + 1)).sum ≤ 1000 ∧ Q (.str (S (oc a.1 :: (jn a.2.2 ++ [cc a.1])))) H)
theorem c_br (D : Df K mg "bracketed" (top 14)) (B : Bl w K mg) : Cal P w K mg base 1 "bracketed" ["kind", "texts"] spBr := by
  refine mkC D s14 (fun _ _ _ _ _ _ us hl => match us, hl with | [_, _], _ => rfl) (fun _ => rfl) (fun f cdv A outer s H a Q E hr k => ?_)
  obtain ⟨b, l, ys⟩ := a
  obtain ⟨hl, hz, k⟩ := k
  have hl : H l = some (.lst ((ys.map S).map V.str)) := hl
  have hz : (ys.map (fun x => x.length + 1)).sum ≤ 1000 := hz
  obtain ⟨d, es, n, hm, KD, g1, g2⟩ := B.clo_
  obtain ⟨u0, e0, r0⟩ := clo_get g1 g2 b
  have big : 2000 ≤ sizeLine := by decide
  have big2 : (2000 : Nat) ≤ 16777216 := by decide
  refine ⟨_, pss_one (ps_ret (pe_op op_add_str (pe_op op_add_str (pv 0) (pe_join pe_str (pv 1))) (pe_ix (ix_kd KD) (pe_glob (v := .ref d) (by rfl) hm rfl) (pv 0) (fun _ _ => rfl)))), ?_⟩
  have e2 : ∀ zs : List (List Nat), (zs.map (fun x => x.length + 1)).sum = ((zs.map S).map (·.length)).sum + (zs.map S).length := by
    intro zs
    induction zs with
    | nil => rfl
    | cons x r ih =>
      simp only [List.map_cons, List.sum_cons, List.length_cons, ih, S_len]
      omega
  have e3 := e2 ys
  have jl := jn_len_le ys
  refine ⟨_, rfl, ⟨_, rfl⟩, _, rfl, _, l, ys.map S, rfl, rfl, .inl (SqL.of hl), ?_, ?_⟩
  · have : (" " : Str).length = 1 := by decide
    rw [this]
    omega
  · rw [s_sp, join_jn]
    refine ⟨_, _, rfl, rfl, ?_, _, rfl, _, _, _, rfl, rfl, e0, r0, _, _, rfl, rfl, ?_, ?_⟩
    · rw [S_len, S_len, List.length_singleton]
      omega
    · rw [S_cat, S_len, S_len, List.length_append, List.length_singleton, List.length_singleton]
      omega
    · rw [S_cat, S_cat]
      simpa using k
end
end Yq

/-! node_of. -/
namespace Yq
open PySem PySem.Spec PyProof.Rows L2 SX Tq
/-- the rows' lists, the top one first -/
def RwA (H : Hp) : List (List Tr) → List Addr → Prop
  | [], as => as = []
  | r :: rs, as => ∃ a bs vs, as = a :: bs ∧ H a = some (.lst vs) ∧ PnA H r vs ∧ RwA H rs bs
theorem RwA.put {H H' : Hp} (kt : KT H H') : ∀ {rs : List (List Tr)} {as : List Addr}, (∀ a ∈ as, ∀ vs, H a = some (.lst vs) → H' a = some (.lst vs)) → RwA H rs as → RwA H' rs as
  | [], as, _, h => h
  | r :: rs, as, hl, h => by
    obtain ⟨a, bs, vs, rfl, h1, h2, h3⟩ := h
    exact ⟨a, bs, vs, rfl, hl a (List.mem_cons_self ..) vs h1, PnA.mono kt _ _ h2, RwA.put kt (fun b hb => hl b (List.mem_cons_of_mem _ hb)) h3⟩
theorem RwA.length {H : Hp} : ∀ {rs : List (List Tr)} {as : List Addr}, RwA H rs as → as.length = rs.length
  | [], as, h => by rw [show as = [] from h]; rfl
  | r :: rs, as, h => by
    obtain ⟨a, bs, vs, rfl, _, _, h3⟩ := h
    rw [List.length_cons, List.length_cons, RwA.length h3]
structure Rws (H0 H : Hp) (m : MS) (R O : Addr) (n : Nat) (as : List Addr) : Prop where
  rows : RwA H (m.r :: m.rs) as
  atR : H R = some (.lst (as.reverse.map V.ref))
  nd : as.Nodup
  rN : R ∉ as
  oN : O ∉ as
  new : ∀ a ∈ as, H0 a = none
  atO : H O = some (.lst (m.op.reverse.map fun b => V.str (S [oc b])))
  ne : R ≠ O
  nR : H0 R = none
  nO : H0 O = none
  same : Same H0 H
  len : m.op.length = m.rs.length
  sz : ∀ q ∈ m.r :: m.rs, q.length ≤ n
  sz2 : m.rs.length ≤ n
theorem Rws.mk_new {H0 H : Hp} {m : MS} {R O : Addr} {n : Nat} {as : List Addr} {p : Addr} {o : HO} (h : Rws H0 H m R O n as) (hp : H p = none) : Rws H0 (upd H p o) m R O n as where
  rows := h.rows.put (KT.new hp) fun a ha vs e => by rw [upd_ne (ne_of_none e hp)]; exact e
  atR := by rw [upd_ne (ne_of_none h.atR hp)]; exact h.atR
  nd := h.nd
  rN := h.rN
  oN := h.oN
  new := h.new
  atO := by rw [upd_ne (ne_of_none h.atO hp)]; exact h.atO
  ne := h.ne
  nR := h.nR
  nO := h.nO
  same := fun b u e => by
    rw [upd_ne (ne_of_none (h.same b u e) hp)]
    exact h.same b u e
  len := h.len
  sz := h.sz
  sz2 := h.sz2
theorem same_put {H0 H : Hp} {p : Addr} {o : HO} (s : Same H0 H) (h : H0 p = none) : Same H0 (upd H p o) := fun b u e => by
  rw [upd_ne (ne_of_none e h)]
  exact s b u e
/-- the top row's list -/
theorem Rws.top {H0 H : Hp} {m : MS} {R O : Addr} {n : Nat} {as : List Addr} (h : Rws H0 H m R O n as) : ∃ a bs vs, as = a :: bs ∧ H a = some (.lst vs) ∧ PnA H m.r vs ∧ RwA H m.rs bs := h.rows
/-- a node is put to the top row -/
theorem Rws.push {H0 H : Hp} {r : List Tr} {rs : List (List Tr)} {op : List Bool} {w w2 : Bool} {R O a : Addr} {n : Nat} {bs : List Addr} {vs : List V} {t : Tr} {v : V} (h : Rws H0 H ⟨r, rs, op, w⟩ R O n (a :: bs)) (hv : H a = some (.lst vs)) (hp : PnA H r vs) (ht : Pn H t v) :
    Rws H0 (upd H a (.lst (vs ++ [v]))) ⟨r ++ [t], rs, op, w2⟩ R O (n + 1) (a :: bs) := by
  have kt : KT H (upd H a (.lst (vs ++ [v]))) := KT.put hv
  have nd := List.nodup_cons.mp h.nd
  have nR : R ≠ a := fun e => h.rN (by rw [e]; exact List.mem_cons_self ..)
  have nO : O ≠ a := fun e => h.oN (by rw [e]; exact List.mem_cons_self ..)
  obtain ⟨a', bs', vs', e, _, _, h3⟩ := h.rows
  cases e
  exact {
    rows := ⟨a, bs, vs ++ [v], rfl, upd_same, PnA.mono kt _ _ (hp.snoc ht), h3.put kt fun b hb us e => by
      rw [upd_ne (fun q => nd.1 (by rw [← q]; exact hb))]
      exact e⟩
    atR := by rw [upd_ne nR]; exact h.atR
    nd := h.nd
    rN := h.rN
    oN := h.oN
    new := h.new
    atO := by rw [upd_ne nO]; exact h.atO
    ne := h.ne
    nR := h.nR
    nO := h.nO
    same := same_put h.same (h.new a (List.mem_cons_self ..))
    len := h.len
    sz := fun q hq => by
      rcases List.mem_cons.mp hq with e | e
      · rw [e, List.length_append, List.length_singleton]
        exact Nat.succ_le_succ (h.sz r (List.mem_cons_self ..))
      · exact Nat.le_succ_of_le (h.sz q (List.mem_cons_of_mem _ e))
    sz2 := Nat.le_succ_of_le h.sz2 }
/-- a new row, an opened bracket -/
theorem Rws.opn {H0 H : Hp} {r : List Tr} {rs : List (List Tr)} {op : List Bool} {w w2 : Bool} {R O p : Addr} {n : Nat} {as : List Addr} {b : Bool} (h : Rws H0 H ⟨r, rs, op, w⟩ R O n as) (hp : H p = none) :
    Rws H0 (upd (upd (upd H p (.lst [])) R (.lst (as.reverse.map V.ref ++ [.ref p]))) O (.lst ((op.reverse.map fun b => V.str (S [oc b])) ++ [.str (S [oc b])]))) ⟨[], r :: rs, b :: op, w2⟩ R O (n + 1) (p :: as) := by
  have nRp : R ≠ p := ne_of_none h.atR hp
  have nOp : O ≠ p := ne_of_none h.atO hp
  have h1 := h.mk_new (o := .lst []) hp
  have k1 := KT.new (o := .lst []) hp
  have k2 : KT (upd H p (.lst [])) (upd (upd H p (.lst [])) R (.lst (as.reverse.map V.ref ++ [.ref p]))) := KT.put h1.atR
  have k3 : KT (upd (upd H p (.lst [])) R (.lst (as.reverse.map V.ref ++ [.ref p]))) (upd (upd (upd H p (.lst [])) R (.lst (as.reverse.map V.ref ++ [.ref p]))) O (.lst ((op.reverse.map fun b => V.str (S [oc b])) ++ [.str (S [oc b])]))) :=
    KT.put (xs := op.reverse.map fun b => V.str (S [oc b])) (by rw [upd_ne (Ne.symm h.ne)]; exact h1.atO)
  have pN : p ∉ as := fun hm => by
    have : ∀ {rs : List (List Tr)} {as : List Addr}, RwA H rs as → p ∈ as → False := by
      intro rs
      induction rs with
      | nil => intro as q hm; rw [show as = [] from q] at hm; cases hm
      | cons r rs ih =>
        intro as q hm
        obtain ⟨a, bs, vs, rfl, h1, _, h3⟩ := q
        rcases List.mem_cons.mp hm with e | e
        · rw [← e, hp] at h1
          cases h1
        · exact ih h3 e
    exact this h.rows hm
  have H0p : H0 p = none := by
    cases e : H0 p with
    | none => rfl
    | some u =>
      have := h.same p u e
      rw [hp] at this
      cases this
  exact {
    rows := ⟨p, as, [], rfl, by rw [upd_ne (Ne.symm nOp), upd_ne (Ne.symm nRp)]; exact upd_same, PnA.nil, h1.rows.put (k2.trans k3) fun a ha vs e => by
      rw [upd_ne (fun q => h.oN (by rw [← q]; exact ha)), upd_ne (fun q => h.rN (by rw [← q]; exact ha))]
      exact e⟩
    atR := by
      rw [upd_ne h.ne]
      refine upd_same.trans ?_
      simp
    nd := List.nodup_cons.mpr ⟨pN, h.nd⟩
    rN := fun hm => (List.mem_cons.mp hm).elim (fun e => nRp e) h.rN
    oN := fun hm => (List.mem_cons.mp hm).elim (fun e => nOp e) h.oN
    new := fun a ha => (List.mem_cons.mp ha).elim (fun e => by rw [e]; exact H0p) (h.new a)
    atO := by
      refine upd_same.trans ?_
      simp
    ne := h.ne
    nR := h.nR
    nO := h.nO
    same := same_put (same_put h1.same h.nR) h.nO
    len := by
      have := h.len
      simp only [List.length_cons] at this ⊢
      omega
    sz := fun q hq => by
      rcases List.mem_cons.mp hq with e | e
      · rw [e]; exact Nat.zero_le _
      · exact Nat.le_succ_of_le (h.sz q e)
    sz2 := by
      have := h.sz2
      simp only [List.length_cons] at this ⊢
      omega }
theorem Rws.w {H0 H : Hp} {r : List Tr} {rs : List (List Tr)} {op : List Bool} {w w2 : Bool} {R O : Addr} {n : Nat} {as : List Addr} (h : Rws H0 H ⟨r, rs, op, w⟩ R O n as) : Rws H0 H ⟨r, rs, op, w2⟩ R O (n + 1) as :=
  ⟨h.rows, h.atR, h.nd, h.rN, h.oN, h.new, h.atO, h.ne, h.nR, h.nO, h.same, h.len, fun q hq => Nat.le_succ_of_le (h.sz q hq), Nat.le_succ_of_le h.sz2⟩
/-- brackets are closed: the two lists lose their last -/
theorem Rws.cls {H0 H : Hp} {r r' : List Tr} {rs : List (List Tr)} {op : List Bool} {w w2 b : Bool} {R O a : Addr} {n : Nat} {bs : List Addr} (h : Rws H0 H ⟨r, r' :: rs, b :: op, w⟩ R O n (a :: bs)) :
    Rws H0 (upd (upd H O (.lst ((b :: op).reverse.map fun b => V.str (S [oc b])).dropLast)) R (.lst ((a :: bs).reverse.map V.ref).dropLast)) ⟨r', rs, op, w2⟩ R O n bs := by
  have k2 : KT H (upd H O (.lst ((b :: op).reverse.map fun b => V.str (S [oc b])).dropLast)) := KT.put h.atO
  have k3 : KT (upd H O (.lst ((b :: op).reverse.map fun b => V.str (S [oc b])).dropLast)) (upd (upd H O (.lst ((b :: op).reverse.map fun b => V.str (S [oc b])).dropLast)) R (.lst ((a :: bs).reverse.map V.ref).dropLast)) :=
    KT.put (xs := (a :: bs).reverse.map V.ref) (by rw [upd_ne h.ne]; exact h.atR)
  obtain ⟨a', bs', vs', e, _, _, h3⟩ := h.rows
  cases e
  exact {
    rows := h3.put (k2.trans k3) fun c hc vs e => by
      rw [upd_ne (fun q => h.rN (by rw [← q]; exact List.mem_cons_of_mem _ hc)), upd_ne (fun q => h.oN (by rw [← q]; exact List.mem_cons_of_mem _ hc))]
      exact e
    atR := by
      refine upd_same.trans ?_
      simp
    nd := (List.nodup_cons.mp h.nd).2
    rN := fun hm => h.rN (List.mem_cons_of_mem _ hm)
    oN := fun hm => h.oN (List.mem_cons_of_mem _ hm)
    new := fun c hc => h.new c (List.mem_cons_of_mem _ hc)
    atO := by
      rw [upd_ne (Ne.symm h.ne)]
      refine upd_same.trans ?_
      simp
    ne := h.ne
    nR := h.nR
    nO := h.nO
    same := same_put (same_put h.same h.nO) h.nR
    len := by
      have := h.len
      simp only [List.length_cons] at this
      show op.length = rs.length
      omega
    sz := fun q hq => h.sz q (List.mem_cons_of_mem _ hq)
    sz2 := by
      have := h.sz2
      simp only [List.length_cons] at this
      show rs.length ≤ n
      omega }
end Yq

namespace Yq
open PySem PySem.Spec PyProof.Rows L2 SX Tq
section
variable {P : Program} {w : World} {K : PySem.W.Frag} {mg : Str → Option Value} {base : Heap}
abbrev nNo : List Str := ["text", "rows", "opened", "is_wanted", "char", "node"]
theorem s13 : FnScope nNo ["text"] (defScope (top 13)) := (⟨rfl, rfl, rfl, by decide +kernel, rfl, by decide +kernel, by decide +kernel⟩)
abbrev spNode : Sp := Prx (α := Tr) (fun t => [.str (S (tx t))]) (fun t H Q => wf t ∧ lv t ≤ 12 ∧ ∀ v H', Same H H' → Pn H' t v → Q v H')
theorem dp_strs {K : PySem.W.Frag} {H : Hp} (l : List Bool) (f : Bool → Nat) : DpAll K H (l.map fun b => V.str (S [f b])) (l.map fun b => PyData.str (S [f b])) := by
  induction l with
  | nil => exact .nil
  | cons b r ih => exact .cons (.str _) ih
theorem sh_strs (l : List Bool) : SeqAt.shaped (.list (l.map fun b => PyData.str (S [oc b]))) = true := by
  have e1 : PyData.canLayAll0 (l.map fun b => PyData.str (S [oc b])) = true := by
    induction l with
    | nil => rfl
    | cons b r ih =>
      show (PyData.canLay0 (.str (S [oc b])) && PyData.canLayAll0 (r.map fun b => PyData.str (S [oc b]))) = true
      rw [ih]
      cases b <;> decide +kernel
  have e2 : PyData.depthAll (l.map fun b => PyData.str (S [oc b])) = 0 := by
    induction l with
    | nil => rfl
    | cons b r ih =>
      have q : PyData.canLayAll0 (r.map fun b => PyData.str (S [oc b])) = true := by
        have : (PyData.canLay0 (.str (S [oc b])) && PyData.canLayAll0 (r.map fun b => PyData.str (S [oc b]))) = true := e1
        exact (Bool.and_eq_true_iff.mp this).2
      simp only [List.map_cons, PyData.depthAll, PyData.depth, ih q]
      rfl
  unfold SeqAt.shaped
  rw [Bool.and_eq_true]
  refine ⟨e1, decide_eq_true ?_⟩
  simp only [PyData.depth, e2]
  decide
theorem eqv_ne {xs : List PyData} (h : xs ≠ []) : PyData.eqv (.list xs) (.list []) = false := by
  cases xs with
  | nil => exact absurd rfl h
  | cons x r => simp [PyData.eqv, PyData.eqvAll]
theorem one_eq {c : Nat} (h : V.str ⟨#[c]⟩ = V.str " ") : c = 32 := by
  rw [s_sp] at h
  injection h with h
  exact List.singleton_inj.mp (S_inj (a := [c]) (b := [32]) h)
theorem stp_f {r : List Tr} {rs : List (List Tr)} {b : Bool} {op : List Bool} {c : Nat} {m' : MS} (h : stp ⟨r, rs, b :: op, false⟩ c = some m') :
    (c = 32 ∧ m' = ⟨r, rs, b :: op, true⟩) ∨ (c ≠ 32 ∧ c = cc b ∧ 1 < r.length ∧ ∃ r' rs', rs = r' :: rs' ∧ m' = ⟨r' ++ [.node b r], rs', op, false⟩) := by
  simp only [stp, Bool.false_eq_true, false_and, if_false] at h
  by_cases q : c = 32
  · rw [if_pos q] at h
    exact .inl ⟨q, (Option.some.inj h).symm⟩
  · rw [if_neg q] at h
    by_cases q2 : c = cc b ∧ 1 < r.length
    · rw [if_pos q2] at h
      cases rs with
      | nil => cases h
      | cons r' rs' => exact .inr ⟨q, q2.1, q2.2, r', rs', rfl, (Option.some.inj h).symm⟩
    · rw [if_neg q2] at h
      cases h
theorem stp_f0 {r : List Tr} {rs : List (List Tr)} {c : Nat} {m' : MS} (h : stp ⟨r, rs, [], false⟩ c = some m') : False := by
  simp [stp] at h
theorem stp_t {r : List Tr} {rs : List (List Tr)} {op : List Bool} {c : Nat} {m' : MS} (h : stp ⟨r, rs, op, true⟩ c = some m') :
    ((c = 108 ∨ c = 115) ∧ m' = ⟨r ++ [.leaf (decide (c = 108))], rs, op, false⟩) ∨ (¬ (c = 108 ∨ c = 115) ∧ (c = 91 ∨ c = 40) ∧ m' = ⟨[], r :: rs, decide (c = 91) :: op, true⟩) := by
  rw [stp] at h
  by_cases q : c = 108 ∨ c = 115
  · rw [if_pos ⟨rfl, q⟩] at h
    exact .inl ⟨q, (Option.some.inj h).symm⟩
  · rw [if_neg (fun z => q z.2)] at h
    by_cases q2 : c = 91 ∨ c = 40
    · rw [if_pos ⟨rfl, q2⟩] at h
      exact .inr ⟨q, q2, (Option.some.inj h).symm⟩
    · rw [if_neg (fun z => q2 z.2)] at h
      cases op <;> simp at h
theorem run_some {m m2 : MS} {c : Nat} {l : List Nat} (h : Tq.run m (c :: l) = some m2) : ∃ m', stp m c = some m' ∧ Tq.run m' l = some m2 := by
  rw [Tq.run] at h
  cases e : stp m c with
  | none =>
    rw [e] at h
    cases h
  | some m' =>
    rw [e] at h
    exact ⟨m', rfl, h⟩
theorem c_node (D : Df K mg "node_of" (top 13)) (B : Bl w K mg) : Cal P w K mg base 1 "node_of" ["text"] spNode := by
  refine mkC D s13 (fun _ _ _ _ _ _ us hl => match us, hl with | [_], _ => rfl) (fun _ => rfl) (fun f cdv A outer s H t Q E hr k => ?_)
  obtain ⟨wt, l12, k⟩ := k
  obtain ⟨t1, h1⟩ := B.lies_
  obtain ⟨t2, h2⟩ := B.stands_
  obtain ⟨t3, h3⟩ := B.cols_
  obtain ⟨t4, h4⟩ := B.rows_
  obtain ⟨d, es, n, hm, KD, g1, g2⟩ := B.clo_
  have hu2 : (A.deeper (envOfC "node_of" (defScope (top 13)) s.heap.objs.size f cdv)).units + 64 < cLine := by have := hr.un; omega
  refine ⟨_, pss_cons (ps_par3 (i := 1) (j := 2) (l := 3) rfl s13.nd rfl rfl rfl (by decide) (by decide) (by decide) rfl rfl rfl (pa_cons (pe_lst (pa_cons (pe_lst pa_nil) pa_nil)) (pa_cons (pe_lst pa_nil) (pa_cons pe_bl pa_nil))) rfl)
    (pss_cons (ps_for PassesOwn.never rfl (pi_str (pv 0)) ((pg_name (i := 4) (FnScope.nd s13) rfl (Or.inl rfl)))
      (pss_one (ps_if (PW.pt (pw_and (pt_val (pv 3)) (pw_and1 (pt_cmpR op_in_seq (pv 4) (pe_tup (pa_cons (pe_glob (v := .str "l") (by rfl) h1 ⟨_, rfl⟩) (pa_cons (pe_glob (v := .str "s") (by rfl) h2 ⟨_, rfl⟩) pa_nil))) (by rfl)))))
          (pss_cons (ps_expr ((pe_bm PySem.F.plainAttrs_list PySem.F.slot_list_append PySem.F.type_list_append mt_append ((pe_ix ix_list (pv 1) (pe_un un_neg pe_int) (fun _ _ => rfl))) (pa_cons (pe_tup (pa_cons (pv 4) (pa_cons (pe_tup pa_nil) pa_nil))) pa_nil)))) (pss_one ((ps_set (i := 3) (FnScope.nd s13) rfl (Or.inl rfl) pe_bl))))
        (pss_one (ps_if (PW.pt (pw_and (pt_val (pv 3)) (pw_and1 (pt_cmpR op_in_seq (pv 4) (pe_tup (pa_cons (pe_glob (v := .str "[") (by rfl) h3 ⟨_, rfl⟩) (pa_cons (pe_glob (v := .str "(") (by rfl) h4 ⟨_, rfl⟩) pa_nil))) (by rfl)))))
          (pss_cons (ps_expr ((pe_bm PySem.F.plainAttrs_list PySem.F.slot_list_append PySem.F.type_list_append mt_append (pv 1) (pa_cons (pe_lst pa_nil) pa_nil)))) (pss_one (ps_expr ((pe_bm PySem.F.plainAttrs_list PySem.F.slot_list_append PySem.F.type_list_append mt_append (pv 2) (pa_cons (pv 4) pa_nil))))))
        (pss_one (ps_if (PW.pt (pw_or (pt_cmpR (op_eqD hu2) (pv 2) (pe_lst pa_nil) (nomark _)) (pw_or1 (pt_val (pv 3)))))
          pss_nv
        (pss_one (ps_if ((pt_cmpR op_eq (pv 4) pe_str (nomark _)))
          (pss_one ((ps_set (i := 3) (FnScope.nd s13) rfl (Or.inl rfl) pe_bl)))
        (pss_one (ps_if (PW.pt (pw_and (pt_cmpR op_eq (pv 4) (pe_ix (ix_kd KD) (pe_glob (v := .ref d) (by rfl) hm rfl) ((pe_ix ix_list (pv 2) (pe_un un_neg pe_int) (fun _ _ => rfl))) (fun _ _ => rfl)) (nomark _)) (pw_and1 ((pt_cmpR op_gt ((pe_callB call_len_seq (by rfl) (Bl.len_ B) PySem.boot_len (pa_cons ((pe_ix ix_list (pv 1) (pe_un un_neg pe_int) (fun _ _ => rfl))) pa_nil))) pe_int (nomark _))))))
          (pss_cons ((ps_set (i := 5) (FnScope.nd s13) rfl (Or.inl rfl) (pe_tup (pa_cons (pe_bm0 PySem.F.plainAttrs_list PySem.F.slot_list_pop PySem.F.type_list_pop mt_pop (pv 2)) (pa_cons (pe_callTy call_tuple_of (by rfl) B.tuple_ PyProof.Rows.boot_tuple (pa_cons (pe_bm0 PySem.F.plainAttrs_list PySem.F.slot_list_pop PySem.F.type_list_pop mt_pop (pv 1)) pa_nil)) pa_nil)))))
            (pss_one (ps_expr ((pe_bm PySem.F.plainAttrs_list PySem.F.slot_list_append PySem.F.type_list_append mt_append ((pe_ix ix_list (pv 1) (pe_un un_neg pe_int) (fun _ _ => rfl))) (pa_cons (pv 5) pa_nil))))))
          pss_nv)))))))))))
    (pss_one (ps_ret (pe_ifExp (PW.pt (pw_and (pt_cmpR (op_eqD hu2) (pv 2) (pe_lst pa_nil) (nomark _)) (pw_and1 (pt_not (pt_val (pv 3)))))) ((pe_ix ix_list ((pe_ix ix_list (pv 1) pe_int (fun _ _ => rfl))) pe_int (fun _ _ => rfl))) pe_non)))), ?_⟩
  have e0 : L2.start nNo [V.str (S (tx t))] = [some (.str (S (tx t))), none, none, none, none, none] := rfl
  rw [e0]
  refine ⟨by decide, fun a0 na => ⟨(by show 1 ≤ sizeLine; decide), fun R nRn => ⟨by decide, fun O nOn => ⟨_, _, _, rfl, ?_⟩⟩⟩⟩
  have big : 200 < sizeLine := by decide
  have len48 := len_lv t wt
  have init : Rws H (upd (upd (upd H a0 (.lst [])) R (.lst [.ref a0])) O (.lst [])) ⟨[], [], [], true⟩ R O 0 [a0] := by
    have e1 : R ≠ a0 := fun e => by rw [e, upd_same] at nRn; cases nRn
    have e2 : O ≠ R := fun e => by rw [e, upd_same] at nOn; cases nOn
    have e3 : O ≠ a0 := fun e => by
      rw [e, upd_ne (Ne.symm e1), upd_same] at nOn
      cases nOn
    rw [upd_ne e1] at nRn
    rw [upd_ne e2, upd_ne e3] at nOn
    exact {
      rows := ⟨a0, [], [], rfl, by rw [upd_ne (Ne.symm e3), upd_ne (Ne.symm e1)]; exact upd_same, PnA.nil, rfl⟩
      atR := by rw [upd_ne (Ne.symm e2)]; exact upd_same
      nd := by simp
      rN := by simpa using e1
      oN := by simpa using e3
      new := by simpa using na
      atO := upd_same
      ne := Ne.symm e2
      nR := nRn
      nO := nOn
      same := same_put (same_put (same_put (Same.refl _) na) nRn) nOn
      len := rfl
      sz := by simp
      sz2 := Nat.le_refl _ }
  refine ⟨_, rfl, _, rfl, for_it walk_str (fun i σ H1 => ∃ (m : MS) (as : List Addr) (c4 c5 : Option V), σ = [some (.str (S (tx t))), some (.ref R), some (.ref O), some (.bl m.w), c4, c5] ∧ Rws H H1 m R O i as ∧ Tq.run m ((tx t).drop i) = some ⟨[t], [], [], false⟩)
    ⟨⟨[], [], [], true⟩, [a0], none, none, rfl, init, run_all t wt⟩ (fun _ _ _ _ _ => trivial) ?_ ?_⟩
  · rintro i x σ H1 H2 hi ⟨m, as, c4, c5, rfl, W, hrun⟩ ⟨rfl, c, hc, rfl⟩
    have hi2 : i < (tx t).length := by simpa using hi
    have hc2 : (tx t)[i]? = some c := by simpa using hc
    have hd : (tx t).drop i = c :: (tx t).drop (i + 1) := by
      rw [List.drop_eq_getElem_cons hi2]
      rw [List.getElem?_eq_getElem hi2] at hc2
      rw [Option.some.inj hc2]
    rw [hd] at hrun
    obtain ⟨m', hs, hrun⟩ := run_some hrun
    obtain ⟨r, rs, op, w1⟩ := m
    have e1 : inV (.str ⟨#[c]⟩) [.str "l", .str "s"] = (decide (c = 108) || decide (c = 115)) := by
      rw [sl, ss]
      exact in2 c 108 115
    have e2 : inV (.str ⟨#[c]⟩) [.str "[", .str "("] = (decide (c = 91) || decide (c = 40)) := by
      rw [so1, so2]
      exact in2 c 91 40
    have szr : r.length ≤ i := W.sz r (List.mem_cons_self ..)
    have szs : rs.length ≤ i := W.sz2
    have szo : op.length = rs.length := W.len
    have i48 : i + 3 ≤ 48 := by omega
    cases w1 with
    | true =>
      refine ⟨_, rfl, true, rfl, iteT ⟨_, rfl, by decide, fun p np => ⟨p, _, rfl, .inr (SqT.of upd_same), rfl, rfl, _, rfl, ite2 (fun hb => ?_) (fun hb => ?_)⟩⟩⟩
      · replace hb : inV (.str ⟨#[c]⟩) [.str "l", .str "s"] = true := hb
        rw [e1] at hb
        have hb2 : c = 108 ∨ c = 115 := by simpa using hb
        rcases stp_t hs with ⟨_, rfl⟩ | ⟨z, _⟩
        case inr => exact absurd hb2 z
        have W2 := W.mk_new (o := .tup [.str "l", .str "s"]) np
        obtain ⟨a, bs, vs, rfl, hv, hp, _⟩ := W2.top
        have hR : upd H2 p (.tup [.str "l", .str "s"]) R = some (.lst (bs.reverse.map V.ref ++ [.ref a])) := by
          rw [W2.atR]
          simp
        refine ⟨_, rfl, _, rfl, R, _, -1, .ref a, rfl, rfl, SqL.of hR, atI_last _ _, .inl ⟨rfl, _, SqL.of hv⟩, _, rfl, by decide, fun e ne => ⟨(by show 2 ≤ sizeLine; decide), fun q nq => ?_⟩⟩
        have W3 := (W2.mk_new (o := .tup []) ne).mk_new (o := .tup [.str ⟨#[c]⟩, .ref e]) nq
        have neq : e ≠ q := fun z => by rw [← z, upd_same] at nq; cases nq
        obtain ⟨a', bs', vs', ee, hv3, hp3, _⟩ := W3.top
        cases ee
        have hvv : vs' = vs := by
          have z2 : upd (upd (upd H2 p (.tup [.str "l", .str "s"])) e (.tup [])) q (.tup [.str ⟨#[c]⟩, .ref e]) a = some (.lst vs) := by
            rw [upd_ne (ne_of_none (by rw [upd_ne (ne_of_none hv ne)]; exact hv) nq), upd_ne (ne_of_none hv ne)]
            exact hv
          rw [hv3] at z2
          cases z2
          rfl
        subst hvv
        have pn : Pn (upd (upd (upd H2 p (.tup [.str "l", .str "s"])) e (.tup [])) q (.tup [.str ⟨#[c]⟩, .ref e])) (.leaf (decide (c = 108))) (.ref q) := by
          rw [Pn]
          refine ⟨q, e, rfl, ?_, ?_⟩
          · refine upd_same.trans ?_
            have : lc (decide (c = 108)) = c := by
              rcases hb2 with z | z <;> rw [z] <;> rfl
            rw [this]
          · rw [upd_ne neq]
            exact upd_same
        refine ⟨a, vs', _, rfl, rfl, hv3, ?_, ?_⟩
        · have q : vs'.length = r.length := hp3.length
          omega
        · exact ⟨_, _, _, _, rfl, W3.push hv3 hp3 pn, hrun⟩
      · replace hb : ¬ inV (.str ⟨#[c]⟩) [.str "l", .str "s"] = true := hb
        rw [e1] at hb
        have hb2 : ¬ (c = 108 ∨ c = 115) := by simpa using hb
        have W2 := W.mk_new (o := .tup [.str "l", .str "s"]) np
        refine ⟨_, rfl, true, rfl, iteT ⟨_, rfl, by decide, fun p2 np2 => ⟨p2, _, rfl, .inr (SqT.of upd_same), rfl, rfl, _, rfl, ite2 (fun hc3 => ?_) (fun hc3 => ?_)⟩⟩⟩
        · replace hc3 : inV (.str ⟨#[c]⟩) [.str "[", .str "("] = true := hc3
          rw [e2] at hc3
          have hc4 : c = 91 ∨ c = 40 := by simpa using hc3
          rcases stp_t hs with ⟨z, _⟩ | ⟨_, _, rfl⟩
          case inl => exact absurd z hb2
          have W3 := W2.mk_new (o := .tup [.str "[", .str "("]) np2
          have asl : as.length = rs.length + 1 := W3.rows.length
          refine ⟨_, rfl, .inl ⟨rfl, _, SqL.of W3.atR⟩, by decide, fun p3 np3 => ?_⟩
          have W4 := W3.opn (b := decide (c = 91)) (w2 := true) np3
          have nRp : R ≠ p3 := ne_of_none W3.atR np3
          have nOp : O ≠ p3 := ne_of_none W3.atO np3
          refine ⟨R, _, _, rfl, rfl, by rw [upd_ne nRp]; exact W3.atR, ?_, ?_⟩
          · rw [List.length_map, List.length_reverse]
            omega
          have hO : upd (upd (upd (upd H2 p (.tup [.str "l", .str "s"])) p2 (.tup [.str "[", .str "("])) p3 (.lst [])) R (.lst (as.reverse.map V.ref ++ [.ref p3])) O = some (.lst (op.reverse.map fun b => V.str (S [oc b]))) := by
            rw [upd_ne (Ne.symm W3.ne), upd_ne nOp]
            exact W3.atO
          refine ⟨_, rfl, .inl ⟨rfl, _, SqL.of hO⟩, _, rfl, O, _, _, rfl, rfl, hO, ?_, ?_⟩
          · rw [List.length_map, List.length_reverse]
            omega
          have eo : (V.str ⟨#[c]⟩ : V) = .str (S [oc (decide (c = 91))]) := by
            rcases hc4 with z | z <;> rw [z] <;> rfl
          rw [eo]
          exact ⟨⟨[], r :: rs, decide (c = 91) :: op, true⟩, _, _, _, rfl, W4, hrun⟩
        · exfalso
          replace hc3 : ¬ inV (.str ⟨#[c]⟩) [.str "[", .str "("] = true := hc3
          rw [e2] at hc3
          have hc4 : ¬ (c = 91 ∨ c = 40) := by simpa using hc3
          rcases stp_t hs with ⟨z, _⟩ | ⟨_, z, _⟩
          · exact hb2 z
          · exact hc4 z
    | false =>
      refine ⟨_, rfl, false, rfl, iteF (iteF ⟨_, rfl, false, rfl, iteF (iteF ⟨_, rfl, by decide, fun p np => ?_⟩)⟩)⟩
      cases op with
      | nil => exact (stp_f0 hs).elim
      | cons b op' =>
        have W2 := W.mk_new (o := .lst []) np
        have dO : Dp K (upd H2 p (.lst [])) (.ref O) (.list ((b :: op').reverse.map fun b => PyData.str (S [oc b]))) := .lst (SqL.of W2.atO) (dp_strs (b :: op').reverse oc)
        refine ⟨_, _, dO, .lst (SqL.of upd_same) .nil, sh_strs _, rfl, _, rfl, ?_⟩
        rw [eqv_ne (by simp)]
        refine iteF ⟨_, rfl, false, rfl, iteF ⟨_, rfl, rfl, _, rfl, ite2 (fun hb => ?_) (fun hb => ?_)⟩⟩
        · have h32 : c = 32 := one_eq (of_decide_eq_true hb)
          rcases stp_f hs with ⟨_, rfl⟩ | ⟨z, _⟩
          case inr => exact absurd h32 z
          exact ⟨⟨r, rs, b :: op', true⟩, _, _, _, rfl, W2.w, hrun⟩
        · have h32 : c ≠ 32 := fun e => hb (decide_eq_true (by rw [e, s_sp]))
          rcases stp_f hs with ⟨z, _⟩ | ⟨_, hcc, hr1, r', rs', rfl, rfl⟩
          case inl => exact absurd z h32
          · skip
            obtain ⟨a, bs, vs, rfl, hv, hp, _⟩ := W2.top
            have hO : upd H2 p (.lst []) O = some (.lst ((op'.reverse.map fun b => V.str (S [oc b])) ++ [.str (S [oc b])])) := by
              rw [W2.atO]
              simp
            have hR : upd H2 p (.lst []) R = some (.lst (bs.reverse.map V.ref ++ [.ref a])) := by
              rw [W2.atR]
              simp
            obtain ⟨u0, eg, rg⟩ := clo_get g1 g2 b
            have lr : vs.length = r.length := hp.length
            refine ⟨_, rfl, _, rfl, _, rfl, O, _, -1, _, rfl, rfl, SqL.of hO, atI_last _ _, _, _, _, rfl, rfl, eg, rg, rfl, _, rfl, ?_⟩
            rw [hcc, decide_eq_true (show V.str ⟨#[cc b]⟩ = V.str (S [cc b]) from rfl)]
            refine iteT ⟨_, rfl, _, rfl, R, _, -1, _, rfl, rfl, SqL.of hR, atI_last _ _, a, _, rfl, .inl (SqL.of hv), _, _, rfl, rfl, _, rfl, ?_⟩
            rw [decide_eq_true (show ((vs.length : Nat) : Int) > 1 by omega)]
            have W3 := W2.cls (w2 := true)
            have lO : (((op'.reverse.map fun b => V.str (S [oc b])) ++ [V.str (S [oc b])]))[((op'.reverse.map fun b => V.str (S [oc b])) ++ [V.str (S [oc b])]).length - 1]? = some (V.str (S [oc b])) := by simp
            have lR : ((bs.reverse.map V.ref ++ [V.ref a]))[(bs.reverse.map V.ref ++ [V.ref a]).length - 1]? = some (V.ref a) := by simp
            refine iteT ⟨_, rfl, .inl ⟨rfl, _, SqL.of hO⟩, O, _, _, rfl, rfl, hO, lO, ?_⟩
            have hR2 : upd (upd H2 p (.lst [])) O (.lst ((op'.reverse.map fun b => V.str (S [oc b])) ++ [V.str (S [oc b])]).dropLast) R = some (.lst (bs.reverse.map V.ref ++ [.ref a])) := by
              rw [upd_ne W2.ne]
              exact hR
            have eOl : (op'.reverse.map fun b => V.str (S [oc b])) ++ [V.str (S [oc b])] = (b :: op').reverse.map fun b => V.str (S [oc b]) := by simp
            have eRl : bs.reverse.map V.ref ++ [V.ref a] = (a :: bs).reverse.map V.ref := by simp
            refine ⟨_, rfl, .inl ⟨rfl, _, SqL.of hR2⟩, R, _, _, rfl, rfl, hR2, lR, ?_⟩
            rw [eOl, eRl]
            have aO : a ≠ O := fun z => W2.oN (by rw [← z]; exact List.mem_cons_self ..)
            have aR : a ≠ R := fun z => W2.rN (by rw [← z]; exact List.mem_cons_self ..)
            have k2 : KT (upd H2 p (.lst [])) (upd (upd H2 p (.lst [])) O (.lst ((b :: op').reverse.map fun b => V.str (S [oc b])).dropLast)) := KT.put W2.atO
            have k3 : KT (upd (upd H2 p (.lst [])) O (.lst ((b :: op').reverse.map fun b => V.str (S [oc b])).dropLast)) (upd (upd (upd H2 p (.lst [])) O (.lst ((b :: op').reverse.map fun b => V.str (S [oc b])).dropLast)) R (.lst ((a :: bs).reverse.map V.ref).dropLast)) :=
              KT.put (by rw [upd_ne W2.ne]; exact hR)
            have hp3 := PnA.mono (k2.trans k3) _ _ hp
            have hv3 : upd (upd (upd H2 p (.lst [])) O (.lst ((b :: op').reverse.map fun b => V.str (S [oc b])).dropLast)) R (.lst ((a :: bs).reverse.map V.ref).dropLast) a = some (.lst vs) := by
              rw [upd_ne aR, upd_ne aO]
              exact hv
            generalize upd (upd (upd H2 p (.lst [])) O (.lst ((b :: op').reverse.map fun b => V.str (S [oc b])).dropLast)) R (.lst ((a :: bs).reverse.map V.ref).dropLast) = H4 at W3 hp3 hv3 ⊢
            refine ⟨a, _, rfl, .inl ⟨SqL.of hv3, fun l nl => ⟨(by show 2 ≤ sizeLine; decide), fun q nq => ?_⟩⟩⟩
            have W4 := (W3.mk_new (o := .tup vs) nl).mk_new (o := .tup [.str (S [oc b]), .ref l]) nq
            have nlq : l ≠ q := fun z => by rw [← z, upd_same] at nq; cases nq
            have hp4 := PnA.mono ((KT.new (o := .tup vs) nl).trans (KT.new (o := .tup [.str (S [oc b]), .ref l]) nq)) _ _ hp3
            have pn : Pn (upd (upd H4 l (.tup vs)) q (.tup [.str (S [oc b]), .ref l])) (.node b r) (.ref q) := by
              rw [Pn]
              exact ⟨q, l, vs, rfl, upd_same, by rw [upd_ne nlq]; exact upd_same, hp4⟩
            obtain ⟨a', bs', vs', rfl, hv', hp', _⟩ := W4.top
            have hR5 : upd (upd H4 l (.tup vs)) q (.tup [.str (S [oc b]), .ref l]) R = some (.lst (bs'.reverse.map V.ref ++ [.ref a'])) := by
              rw [W4.atR]
              simp
            have szr' : r'.length ≤ i := W.sz r' (List.mem_cons_of_mem _ (List.mem_cons_self ..))
            refine ⟨_, rfl, _, rfl, R, _, -1, _, rfl, rfl, SqL.of hR5, atI_last _ _, .inl ⟨rfl, _, SqL.of hv'⟩, _, rfl, a', _, _, rfl, rfl, hv', ?_, ?_⟩
            · have q : vs'.length = r'.length := hp'.length
              omega
            · exact ⟨⟨r' ++ [.node b r], rs', op', false⟩, _, _, _, rfl, W4.push hv' hp' pn, hrun⟩
  · rintro σ H1 ⟨m, as, c4, c5, rfl, W, hrun⟩
    have hz : (S (tx t)).cps.size = (tx t).length := by simp
    rw [hz, List.drop_length, Tq.run] at hrun
    cases hrun
    obtain ⟨a, bs, vs, rfl, hv, hp, hb⟩ := W.top
    rw [show bs = [] from hb] at W
    rw [PnA] at hp
    obtain ⟨v, us, rfl, hp1, hp2⟩ := hp
    rw [PnA] at hp2
    subst hp2
    refine ⟨_, rfl, by decide, fun p np => ?_⟩
    have W2 := W.mk_new (o := .lst []) np
    have dO : Dp K (upd H1 p (.lst [])) (.ref O) (.list []) := .lst (SqL.of W2.atO) .nil
    refine ⟨_, _, dO, .lst (SqL.of upd_same) .nil, rfl, rfl, _, rfl, ?_⟩
    have hR2 : upd H1 p (.lst []) R = some (.lst [.ref a]) := W2.atR
    refine iteT ⟨_, rfl, false, rfl, iteT ⟨_, rfl, R, _, 0, .ref a, rfl, rfl, SqL.of hR2, atI_nat (j := 0) rfl, a, _, 0, v, rfl, rfl, SqL.of (by rw [upd_ne (ne_of_none hv np)]; exact hv), atI_nat (j := 0) rfl, ?_⟩⟩
    exact k _ _ W2.same (Pn.mono (KT.new np) _ _ hp1)
end
end Yq

/-! The plain text. -/
namespace Yq
open PySem PySem.Spec PyProof.Rows L2 SX Tq
/-! ### a comprehension over a comprehension -/
theorem lc2_walk {J : It} {n : Nat} {G : Hp → Prop} {Y : Nat → Hp → V → Hp → Prop} (w : Walk J n G Y) {g : TG} {tt : TT} {wi1 : TI} {g1 : TG} {tt1 : TT} {te : TE} {vs vs1 : List Nat} {σ : L2.St} {H1 : Hp} {D : Addr} {Qd : Hp → Prop} (Pv : Nat → Hp → Prop) (h0 : Pv 0 (upd H1 D (.lst []))) (hG : ∀ i H, i ≤ n → Pv i H → G H)
    (hs : ∀ i x H H', i < n → Pv i H → Y i H x H' → g x (wipe σ vs) H' fun σ2 H2 => wipe σ2 vs = wipe σ vs ∧ tt σ2 H2 fun b H3 =>
      if b = true then wi1 σ2 H3 fun J1 H4 => ∃ W1 : Nat → Nat → Hp → Prop, (∃ m, W1 0 m H4) ∧ ∀ j k H, W1 j k H →
        (J1.stop j H ∧ Pv (i + 1) H) ∨ (J1.go j H ∧ ∃ Nx1 : Hp → Prop, (∀ H', Nx1 H' → ∃ k', k' < k ∧ W1 (j + 1) k' H') ∧ ∀ x H', J1.yld j H x H' → g1 x (wipe σ2 vs1) H' fun σ3 H5 => wipe σ3 vs1 = wipe σ2 vs1 ∧ tt1 σ3 H5 fun b H6 =>
          if b = true then te σ3 H6 fun y H7 => ∃ acc, H7 D = some (.lst acc) ∧ acc.length < sizeLine ∧ Nx1 (upd H7 D (.lst (acc ++ [y]))) else Nx1 H6)
      else Pv (i + 1) H3) (hd : ∀ H, Pv n H → Qd H) :
    ∃ W : Nat → Nat → Hp → Prop, (∃ m, W 0 m (upd H1 D (.lst []))) ∧ ∀ i m H, W i m H →
      (J.stop i H ∧ Qd H) ∨ (J.go i H ∧ ∃ Nx : Hp → Prop, (∀ H', Nx H' → ∃ m', m' < m ∧ W (i + 1) m' H') ∧ ∀ x H', J.yld i H x H' → g x (wipe σ vs) H' fun σ2 H2 => wipe σ2 vs = wipe σ vs ∧ tt σ2 H2 fun b H3 =>
        if b = true then wi1 σ2 H3 fun J1 H4 => ∃ W1 : Nat → Nat → Hp → Prop, (∃ m, W1 0 m H4) ∧ ∀ j k H, W1 j k H →
          (J1.stop j H ∧ Nx H) ∨ (J1.go j H ∧ ∃ Nx1 : Hp → Prop, (∀ H', Nx1 H' → ∃ k', k' < k ∧ W1 (j + 1) k' H') ∧ ∀ x H', J1.yld j H x H' → g1 x (wipe σ2 vs1) H' fun σ3 H5 => wipe σ3 vs1 = wipe σ2 vs1 ∧ tt1 σ3 H5 fun b H6 =>
            if b = true then te σ3 H6 fun y H7 => ∃ acc, H7 D = some (.lst acc) ∧ acc.length < sizeLine ∧ Nx1 (upd H7 D (.lst (acc ++ [y]))) else Nx1 H6)
        else Nx H3) := by
  refine ⟨fun i m H => m = n - i ∧ i ≤ n ∧ Pv i H, ⟨n, by simp, Nat.zero_le _, h0⟩, ?_⟩
  rintro i m H ⟨rfl, hi, p⟩
  have q := hG i H hi p
  by_cases hlt : i < n
  · exact .inr ⟨w.goes i H hlt q, Pv (i + 1), fun H' p' => ⟨n - (i + 1), by omega, rfl, hlt, p'⟩, fun x H' y => hs i x H H' hlt p (w.yields i H x H' hlt q y)⟩
  · have e : i = n := by omega
    subst e
    exact .inl ⟨w.stops H q, hd H p⟩
theorem in_walk {J : It} {n : Nat} {G : Hp → Prop} {Y : Nat → Hp → V → Hp → Prop} (w : Walk J n G Y) {g1 : TG} {tt1 : TT} {te : TE} {vs1 : List Nat} {σ2 : L2.St} {H4 : Hp} {D : Addr} {Nx : Hp → Prop} (Pv : Nat → Hp → Prop) (h0 : Pv 0 H4) (hG : ∀ i H, i ≤ n → Pv i H → G H)
    (hs : ∀ i x H H', i < n → Pv i H → Y i H x H' → g1 x (wipe σ2 vs1) H' fun σ3 H5 => wipe σ3 vs1 = wipe σ2 vs1 ∧ tt1 σ3 H5 fun b H6 =>
      if b = true then te σ3 H6 fun y H7 => ∃ acc, H7 D = some (.lst acc) ∧ acc.length < sizeLine ∧ Pv (i + 1) (upd H7 D (.lst (acc ++ [y]))) else Pv (i + 1) H6) (hd : ∀ H, Pv n H → Nx H) :
    ∃ W1 : Nat → Nat → Hp → Prop, (∃ m, W1 0 m H4) ∧ ∀ j k H, W1 j k H →
      (J.stop j H ∧ Nx H) ∨ (J.go j H ∧ ∃ Nx1 : Hp → Prop, (∀ H', Nx1 H' → ∃ k', k' < k ∧ W1 (j + 1) k' H') ∧ ∀ x H', J.yld j H x H' → g1 x (wipe σ2 vs1) H' fun σ3 H5 => wipe σ3 vs1 = wipe σ2 vs1 ∧ tt1 σ3 H5 fun b H6 =>
        if b = true then te σ3 H6 fun y H7 => ∃ acc, H7 D = some (.lst acc) ∧ acc.length < sizeLine ∧ Nx1 (upd H7 D (.lst (acc ++ [y]))) else Nx1 H6) := by
  refine ⟨fun i m H => m = n - i ∧ i ≤ n ∧ Pv i H, ⟨n, by simp, Nat.zero_le _, h0⟩, ?_⟩
  rintro i m H ⟨rfl, hi, p⟩
  have q := hG i H hi p
  by_cases hlt : i < n
  · exact .inr ⟨w.goes i H hlt q, Pv (i + 1), fun H' p' => ⟨n - (i + 1), by omega, rfl, hlt, p'⟩, fun x H' y => hs i x H H' hlt p (w.yields i H x H' hlt q y)⟩
  · have e : i = n := by omega
    subst e
    exact .inl ⟨w.stops H q, hd H p⟩
section
variable {P : Program} {w : World} {K : PySem.W.Frag} {mg : Str → Option Value} {base : Heap}
theorem s11 : FnScope ["value"] ["value"] (defScope (top 11)) := (⟨rfl, rfl, rfl, by decide +kernel, rfl, by decide +kernel, by decide +kernel⟩)
theorem c_told (D : Df K mg "told_node" (top 11)) (B : Bl w K mg) (CL : Cal P w K mg base 1 "leaves_in" ["text"] spLeaves) (CN : Cal P w K mg base 1 "node_of" ["text"] spNode) : Cal P w K mg base 2 "told_node" ["value"] spNode := by
  refine mkC D s11 (fun _ _ _ _ _ _ us hl => match us, hl with | [_], _ => rfl) (fun _ => rfl) (fun f cdv A outer s H t Q E hr k => ?_)
  obtain ⟨wt, l12, k⟩ := k
  obtain ⟨t1, h1⟩ := B.leaves_
  refine ⟨_, pss_one (ps_ret (pe_ifExp (PW.pt (pw_and (pt_val (pe_isi (v := .ty "str") (by rfl) B.isinstance_ (pv 0) (by rfl) B.str_ PyProof.Rows.boot_str rfl)) (pw_and1 (pt_cmpR op_le (pe_cl CL hr (by decide) (pa_cons (pv 0) pa_nil)) (pe_glob (v := .int 12) (by rfl) h1 ⟨_, rfl⟩) (nomark _)))))
      (pe_cl CN hr (by decide) (pa_cons (pv 0) pa_nil)) pe_non)), ?_⟩
  refine ⟨_, rfl, _, _, _, _, true, rfl, .ty _, .base (.str _), kit_ty (by decide +kernel), _, rfl, iteT ⟨_, rfl, tx t, rfl, _, _, rfl, rfl, _, rfl, ?_⟩⟩
  have e1 : decide (((ct (tx t) : Nat) : Int) ≤ 12) = true := by
    rw [ct_lv]
    exact decide_eq_true (by omega)
  rw [e1]
  exact iteT ⟨_, rfl, t, rfl, wt, l12, fun v H' s1 pn => k _ _ s1 pn⟩
theorem s10 : FnScope ["tree", "node"] ["tree"] (defScope (top 10)) := (⟨rfl, rfl, rfl, by decide +kernel, rfl, by decide +kernel, by decide +kernel⟩)
theorem c_checked (D : Df K mg "checked" (top 10)) (CT : Cal P w K mg base 2 "told_node" ["value"] spNode) : Cal P w K mg base 3 "checked" ["tree"] spNode := by
  refine mkC D s10 (fun _ _ _ _ _ _ us hl => match us, hl with | [_], _ => rfl) (fun _ => rfl) (fun f cdv A outer s H t Q E hr k => ?_)
  obtain ⟨wt, l12, k⟩ := k
  refine ⟨_, pss_cons ((ps_set (i := 1) (FnScope.nd s10) rfl (Or.inl rfl) (pe_cl CT hr (by decide) (pa_cons (pv 0) pa_nil))))
    (pss_cons (ps_if (pt_cmpR op_isN (pv 1) pe_non (nomark _)) pss_nv pss_nil)
    (pss_one (ps_ret (pv 1)))), ?_⟩
  refine ⟨_, rfl, t, rfl, wt, l12, fun v H' s1 pn => ⟨_, rfl, rfl, _, rfl, ?_⟩⟩
  have e2 : decide (v = V.non) = false := by
    cases t with
    | leaf b =>
      rw [Pn] at pn
      obtain ⟨a, e, rfl, _⟩ := pn
      rfl
    | node b ps =>
      rw [Pn] at pn
      obtain ⟨a, e, vs, rfl, _⟩ := pn
      rfl
  rw [e2]
  exact iteF ⟨_, rfl, k _ _ s1 pn⟩
end
end Yq

namespace Yq
open PySem PySem.Spec PyProof.Rows L2 SX Tq
theorem each_str {K : PySem.W.Frag} {H : Hp} : ∀ l : List (List Nat), PySem.W.EachIs (fun x b => Dp K H x (.str (S b))) ((l.map S).map V.str) l
  | [] => .nil
  | x :: r => .cons (.str _) (each_str r)
theorem each_str_inv {K : PySem.W.Frag} {H : Hp} : ∀ {ys : List V} {l : List (List Nat)}, PySem.W.EachIs (fun x b => Dp K H x (.str (S b))) ys l → ys = (l.map S).map V.str
  | _, _, .nil => rfl
  | _, _, .cons h r => by
    rw [each_str_inv r]
    cases h
    rfl
abbrev spPT (n : Nat) : Sp := Prx (α := Tr × V) (fun a => [a.2]) (fun a H Q => Pn H a.1 a.2 ∧ wf a.1 ∧ lv a.1 ≤ n ∧ ∀ H', Same H H' → Q (.str (S (pt a.1))) H')
abbrev spLT (n : Nat) : Sp := Prx (α := Bool × Tr × V) (fun a => [.str (S [oc a.1]), a.2.2]) (fun a H Q => Pn H a.2.1 a.2.2 ∧ wf a.2.1 ∧ lv a.2.1 ≤ n ∧ ∀ l H', Same H H' → H l = none → H' l = some (.lst (((ls a.2.1 a.1).map S).map V.str)) → Q (.ref l) H')
abbrev spLE (n : Nat) : Sp := Prx (α := Bool × List Tr × V) (fun a => [.str (S [oc a.1]), a.2.2]) (fun a H Q => Pn H (.node a.1 a.2.1) a.2.2 ∧ wf (.node a.1 a.2.1) ∧ lv (.node a.1 a.2.1) ≤ n ∧ ∀ l H', Same H H' → H l = none → H' l = some (.lst (((lss a.2.1 a.1).map S).map V.str)) → Q (.ref l) H')
section
variable {P : Program} {w : World} {K : PySem.W.Frag} {mg : Str → Option Value} {base : Heap}
theorem s15 : FnScope ["node"] ["node"] (defScope (top 15)) := (⟨rfl, rfl, rfl, by decide +kernel, rfl, by decide +kernel, by decide +kernel⟩)
theorem c_PT {n : Nat} (hn : n ≤ 12) (D : Df K mg "plain_text" (top 15)) (B : Bl w K mg) (CB : Cal P w K mg base 1 "bracketed" ["kind", "texts"] spBr) {j : Nat} (hj : 1 ≤ j) (CE : Cal P w K mg base j "loose_texts" ["kind", "node"] (spLE n)) : Cal P w K mg base (j + 1) "plain_text" ["node"] (spPT n) := by
  refine mkC D s15 (fun _ _ _ _ _ _ us hl => match us, hl with | [_], _ => rfl) (fun _ => rfl) (fun f cdv A outer s H a Q E hr k => ?_)
  obtain ⟨t, v⟩ := a
  obtain ⟨pn, wt, ln, k⟩ := k
  have pn : Pn H t v := pn
  have wt : wf t := wt
  have ln : lv t ≤ n := ln
  have hu2 : (A.deeper (envOfC "plain_text" (defScope (top 15)) s.heap.objs.size f cdv)).units + 64 < cLine := by have := hr.un; omega
  have hu3 : (A.deeper (envOfC "plain_text" (defScope (top 15)) s.heap.objs.size f cdv)).units + 12 < cLine := by have := hr.un; omega
  refine ⟨_, pss_cons (ps_if (pt_cmpR (op_eqD hu2) ((pe_ix ix_tup (pv 0) pe_int (fun _ _ => rfl))) (pe_tup pa_nil) (nomark _)) (pss_one (ps_ret ((pe_ix ix_tup (pv 0) pe_int (fun _ _ => rfl))))) pss_nil)
    (pss_one (ps_ret (pe_cl CB hr hj (pa_cons ((pe_ix ix_tup (pv 0) pe_int (fun _ _ => rfl))) (pa_cons (pe_callB (cr_srt (β := List Nat) (enc := fun b => .str (S b)) hu3 (fun b c => by simp [PySem.W.alike]) (fun bs => PySem.W.Sortable.others (enc := fun b : List Nat => PyData.str (S b)) fun b => ⟨by simp, by simp⟩) (fun b => by simp [PyData.depth])) (by rfl) B.sorted_ (by decide +kernel)
        (pa_cons (pe_cl CE hr (Nat.le_refl _) (pa_cons ((pe_ix ix_tup (pv 0) pe_int (fun _ _ => rfl))) (pa_cons (pv 0) pa_nil))) pa_nil)) pa_nil))))), ?_⟩
  cases t with
  | leaf b =>
    rw [Pn] at pn
    obtain ⟨p, e, rfl, h1, h2⟩ := pn
    refine ⟨_, rfl, p, _, 1, _, rfl, rfl, SqT.of h1, atI_nat (j := 1) rfl, by decide, fun q nq => ?_⟩
    have k1 := KT.new (o := .tup []) nq
    refine ⟨_, _, .tup (SqT.of (k1 _ _ h2)) .nil, .tup (SqT.of upd_same) .nil, rfl, rfl, _, rfl, ?_⟩
    refine iteT ⟨_, rfl, p, _, 0, _, rfl, rfl, SqT.of (k1 _ _ h1), atI_nat (j := 0) rfl, ?_⟩
    have := k _ (same_new (o := .tup []) nq)
    rw [pt] at this
    exact this
  | node b ps =>
    have pn0 := pn
    rw [Pn] at pn
    obtain ⟨p, e, vs, rfl, h1, h2, h3⟩ := pn
    refine ⟨_, rfl, p, _, 1, _, rfl, rfl, SqT.of h1, atI_nat (j := 1) rfl, by decide, fun q nq => ?_⟩
    have k1 := KT.new (o := .tup []) nq
    have s1 := same_new (o := .tup []) nq
    refine ⟨_, _, .tup (SqT.of (k1 _ _ h2)) (PnA.data ps vs (PnA.mono k1 _ _ h3)), .tup (SqT.of upd_same) .nil, dts_shaped wt (by omega), rfl, _, rfl, ?_⟩
    have ne : PyData.eqv (.tuple (dts ps)) (.tuple []) = false := by
      cases ps with
      | nil =>
        rw [wf] at wt
        exact absurd wt.1 (by simp)
      | cons x r => simp [dts, PyData.eqv, PyData.eqvAll]
    rw [ne]
    refine iteF ⟨_, rfl, p, _, 0, _, rfl, rfl, SqT.of (k1 _ _ h1), atI_nat (j := 0) rfl, _, rfl, p, _, 0, _, rfl, rfl, SqT.of (k1 _ _ h1), atI_nat (j := 0) rfl, _, rfl, (b, ps, .ref p), rfl, Pn.mono k1 _ _ pn0, wt, ln, fun l H' s2 nl hl => ?_⟩
    refine ⟨l, _, lss ps b, rfl, SqL.of hl, each_str _, fun ys p2 he np2 => ?_⟩
    rw [dle_str] at he
    have ey := each_str_inv he
    subst ey
    refine ⟨(b, p2, srt (lss ps b)), rfl, upd_same, ?_, ?_⟩
    · show ((srt (lss ps b)).map (fun x => x.length + 1)).sum ≤ 1000
      rw [sum_perm (srt_perm _)]
      have := ls_sum (.node b ps) wt b
      rw [ls_same] at this
      omega
    · have := k _ (Same.trans (s1.trans s2) (same_new (o := .lst (((srt (lss ps b)).map S).map V.str)) np2))
      rw [pt] at this
      exact this
abbrev nLo : List Str := ["kind", "node", "part", "text"]
theorem s16 : FnScope nLo ["kind", "node"] (defScope (top 16)) := (⟨rfl, rfl, rfl, by decide +kernel, rfl, by decide +kernel, by decide +kernel⟩)
/-- the comprehension of loose_texts -/
abbrev teLo (K : PySem.W.Frag) (n : Nat) : TE := tLc2 (iTup K (tOp (rIxT K) (tVar 1) (tC (.int 1)))) (gName 2) tYes (iList K (tCall (spLT n) [] L2.E0 (tCons (tVar 0) (tCons (tVar 2) tNil)))) (gName 3) tYes (tVar 3) [2, 3] [3]
theorem rd_lo {n : Nat} (hn : n ≤ 12) {b : Bool} {ps : List Tr} {v : V} {c2 c3 : Option V} {H0 H : Hp} {Q : VK} (s0 : Same H0 H) (pn : Pn H (.node b ps) v) (wt : wf (.node b ps)) (ln : lv (.node b ps) ≤ n + 1)
    (k : ∀ l H', Same H0 H' → H0 l = none → H' l = some (.lst (((lss ps b).map S).map V.str)) → Q (.ref l) H') : teLo K n [some (.str (S [oc b])), some v, c2, c3] H Q := by
  rw [Pn] at pn
  obtain ⟨p, e, vs, rfl, h1, h2, h3⟩ := pn
  rw [wf] at wt
  rw [lv] at ln
  have lp := h3.length
  have big : 1000 < sizeLine := by decide
  refine ⟨_, rfl, p, _, 1, _, rfl, rfl, SqT.of h1, atI_nat (j := 1) rfl, e, rfl, ⟨_, SqT.of h2⟩, fun D hD => lc2_walk (walk_tup (xs := vs)) (fun i H' => Same H0 H' ∧ Same H (upd H' D (.lst [])) ∧ H' D = some (.lst (((lss (ps.take i) b).map S).map V.str))) ?_ ?_ ?_ ?_⟩
  · have hD0 : H0 D = none := by
      cases z : H0 D with
      | none => rfl
      | some u =>
        have := s0 D u z
        rw [hD] at this
        cases this
    refine ⟨s0.trans (same_new hD), ?_, ?_⟩
    · rw [upd_upd]
      exact same_new hD
    · refine upd_same.trans ?_
      rw [List.take_zero, lss]
      rfl
  · rintro i H' _ ⟨_, s2, _⟩
    have q := s2 _ _ h2
    rw [upd_ne (ne_of_none h2 hD)] at q
    exact SqT.of q
  · rintro i x H' H'' hi ⟨s1, s2, hDD⟩ ⟨rfl, hx⟩
    obtain ⟨t, ht, pt1⟩ := h3.at hx
    have tm : t ∈ ps := List.mem_of_getElem? ht
    have wft := (wfs_iff _).mp wt.2 t tm
    have lt := lv_part wt.2 wt.1 tm
    have kt : KT H H'' := fun a xs z => by
      have q := s2 _ _ z
      rw [upd_ne (ne_of_none z hD)] at q
      exact q
    have hD0 : H0 D = none := by
      cases z : H0 D with
      | none => rfl
      | some u =>
        have := s0 D u z
        rw [hD] at this
        cases this
    refine ⟨rfl, _, rfl, _, rfl, (b, t, x), rfl, Pn.mono kt _ _ pt1, wft, by show lv t ≤ n; omega, fun l H3 s3 nl hl => ⟨l, rfl, ⟨_, SqL.of hl⟩, ?_⟩⟩
    have hD3 := s3 _ _ hDD
    have lD : l ≠ D := fun z => by
      rw [z, hDD] at nl
      cases nl
    have le1 := lss_len b (ps.take i) ((wfs_iff _).mpr fun u hu => (wfs_iff _).mp wt.2 u (List.mem_of_mem_take hu))
    have le2 := ls_len t wft b
    have le3 : lvs (ps.take i) ≤ lvs ps := by
      have q := lvs_app (ps.take i) (ps.drop i)
      rw [List.take_append_drop] at q
      omega
    refine in_walk (walk_list (xs := ((ls t b).map S).map V.str)) (fun j H' => Same H0 H' ∧ Same H (upd H' D (.lst [])) ∧ H' l = some (.lst (((ls t b).map S).map V.str)) ∧ H' D = some (.lst (((lss (ps.take i) b).map S).map V.str ++ (((ls t b).map S).map V.str).take j))) ?_ ?_ ?_ ?_
    · refine ⟨s1.trans s3, fun a o z => ?_, hl, ?_⟩
      · have q := s2 _ _ z
        rw [upd_ne (ne_of_none z hD)] at q ⊢
        exact s3 _ _ q
      · rw [List.take_zero, List.append_nil]
        exact hD3
    · rintro j H' _ ⟨_, _, hl2, _⟩
      exact SqL.of hl2
    · rintro j y H4 H5 hj ⟨s4, s5, hl4, hD4⟩ ⟨rfl, hy⟩
      refine ⟨rfl, _, rfl, _, hD4, ?_, same_put s4 hD0, ?_, ?_, ?_⟩
      · rw [List.length_append, List.length_take, List.length_map, List.length_map, List.length_map, List.length_map]
        omega
      · rw [upd_upd]
        exact s5
      · rw [upd_ne lD]
        exact hl4
      · refine upd_same.trans ?_
        rw [List.append_assoc, List.take_succ, hy]
        rfl
    · rintro H4 ⟨s4, s5, _, hD4⟩
      refine ⟨s4, s5, ?_⟩
      rw [hD4, List.take_length, lss_take b ht, List.map_append, List.map_append]
  · rintro H' ⟨s1, s2, hDD⟩
    have hD0 : H0 D = none := by
      cases z : H0 D with
      | none => rfl
      | some u =>
        have := s0 D u z
        rw [hD] at this
        cases this
    rw [lp, List.take_length] at hDD
    exact k D H' s1 hD0 hDD
theorem ne_kind {b k : Bool} : decide (V.str (S [oc b]) = V.str (S [oc k])) = decide (b = k) := by cases b <;> cases k <;> decide
theorem ne_leaf {b k : Bool} : decide (V.str (S [lc b]) = V.str (S [oc k])) = false := by cases b <;> cases k <;> decide
theorem c_LE {n : Nat} (hn : n ≤ 12) (D : Df K mg "loose_texts" (top 16)) (B : Bl w K mg) {j : Nat} (CL : Cal P w K mg base j "loose_texts" ["kind", "node"] (spLT n)) : Cal P w K mg base (j + 1) "loose_texts" ["kind", "node"] (spLE (n + 1)) := by
  refine mkC D s16 (fun _ _ _ _ _ _ us hl => match us, hl with | [_, _], _ => rfl) (fun _ => rfl) (fun f cdv A outer s H a Q E hr k => ?_)
  obtain ⟨b, ps, v⟩ := a
  obtain ⟨pn, wt, ln, k⟩ := k
  have pn : Pn H (.node b ps) v := pn
  have pn0 := pn
  refine ⟨_, pss_cons (ps_if ((pt_cmpR op_ne ((pe_ix ix_tup (pv 1) pe_int (fun _ _ => rfl))) (pv 0) (nomark _))) pss_nv pss_nil) (pss_one (ps_ret ((pe_lc2 (wi1 := iList K (tCall (spLT n) [] L2.E0 (tCons (tVar 0) (tCons (tVar 2) tNil)))) (te := tVar 3) (own := [("part", 2), ("text", 3)]) (vs1 := [3]) (g := gName 2) (g1 := gName 3) (tt := tYes) (tt1 := tYes) rfl s16.nd (pi_tup ((pe_ix ix_tup (pv 1) pe_int (fun _ _ => rfl)))) (blkOk_by (N := nLo) (sc := defScope (top 16)) (by decide +kernel)) (by decide) (fun _ _ _ _ _ => (pg_name (i := 2) (FnScope.nd s16) rfl (Or.inl rfl))) (fun _ _ _ _ _ => pts_nil)
    (fun _ _ _ _ _ => pi_list (pe_cl CL hr (Nat.le_refl _) (pa_cons (pv 0) (pa_cons (pv 2) pa_nil)))) (fun _ _ _ _ _ => (pg_name (i := 3) (FnScope.nd s16) rfl (Or.inl rfl))) (fun _ _ _ _ _ => pts_nil) (fun _ _ _ _ _ => pv 3))))), ?_⟩
  rw [Pn] at pn
  obtain ⟨p, e, vs, rfl, h1, h2, h3⟩ := pn
  refine ⟨_, rfl, p, _, 0, _, rfl, rfl, SqT.of h1, atI_nat (j := 0) rfl, _, rfl, rfl, _, rfl, ?_⟩
  rw [decide_eq_true rfl]
  refine iteF ?_
  exact rd_lo hn (Same.refl _) pn0 wt ln k
theorem c_LT {n : Nat} (hn : n ≤ 12) (D : Df K mg "loose_texts" (top 16)) (B : Bl w K mg) {j i : Nat} (CL : Cal P w K mg base j "loose_texts" ["kind", "node"] (spLT n)) (hji : j ≤ i) (CP : Cal P w K mg base i "plain_text" ["node"] (spPT (n + 1))) : Cal P w K mg base (i + 1) "loose_texts" ["kind", "node"] (spLT (n + 1)) := by
  refine mkC D s16 (fun _ _ _ _ _ _ us hl => match us, hl with | [_, _], _ => rfl) (fun _ => rfl) (fun f cdv A outer s H a Q E hr k => ?_)
  obtain ⟨b, t, v⟩ := a
  obtain ⟨pn, wt, ln, k⟩ := k
  have pn : Pn H t v := pn
  have pn0 := pn
  refine ⟨_, pss_cons (ps_if ((pt_cmpR op_ne ((pe_ix ix_tup (pv 1) pe_int (fun _ _ => rfl))) (pv 0) (nomark _))) (pss_one (ps_ret (pe_lst (pa_cons (pe_cl CP hr (Nat.le_refl _) (pa_cons (pv 1) pa_nil)) pa_nil)))) pss_nil) (pss_one (ps_ret ((pe_lc2 (wi1 := iList K (tCall (spLT n) [] L2.E0 (tCons (tVar 0) (tCons (tVar 2) tNil)))) (te := tVar 3) (own := [("part", 2), ("text", 3)]) (vs1 := [3]) (g := gName 2) (g1 := gName 3) (tt := tYes) (tt1 := tYes) rfl s16.nd (pi_tup ((pe_ix ix_tup (pv 1) pe_int (fun _ _ => rfl)))) (blkOk_by (N := nLo) (sc := defScope (top 16)) (by decide +kernel)) (by decide) (fun _ _ _ _ _ => (pg_name (i := 2) (FnScope.nd s16) rfl (Or.inl rfl))) (fun _ _ _ _ _ => pts_nil)
    (fun _ _ _ _ _ => pi_list (pe_cl CL hr hji (pa_cons (pv 0) (pa_cons (pv 2) pa_nil)))) (fun _ _ _ _ _ => (pg_name (i := 3) (FnScope.nd s16) rfl (Or.inl rfl))) (fun _ _ _ _ _ => pts_nil) (fun _ _ _ _ _ => pv 3))))), ?_⟩
  have other : ∀ (c2 c3 : Option V), kd t ≠ some b → tRet (tLst (tCons (tCall (spPT (n + 1)) [] L2.E0 (tCons (tVar 1) tNil)) tNil)) { nx := fun _ H' => Q .non H', rt := Q } [some (.str (S [oc b])), some v, c2, c3] H := by
    intro c2 c3 hk
    refine ⟨_, rfl, (t, v), rfl, pn0, wt, ln, fun H' s1 => ⟨(by show 1 ≤ sizeLine; decide), fun l nl => ?_⟩⟩
    refine k l _ (s1.trans (same_new nl)) ?_ ?_
    · cases z : H l with
      | none => rfl
      | some u =>
        have := s1 l u z
        rw [nl] at this
        cases this
    · refine upd_same.trans ?_
      show _ = some (HO.lst (((ls t b).map S).map V.str))
      rw [ls_other hk]
      rfl
  cases t with
  | leaf c =>
    rw [Pn] at pn
    obtain ⟨p, e, rfl, h1, h2⟩ := pn
    refine ⟨_, rfl, p, _, 0, _, rfl, rfl, SqT.of h1, atI_nat (j := 0) rfl, _, rfl, by cases b <;> cases c <;> rfl, _, rfl, ?_⟩
    rw [ne_leaf]
    exact iteT (other none none nofun)
  | node c ps =>
    rw [Pn] at pn
    obtain ⟨p, e, vs, rfl, h1, h2, h3⟩ := pn
    refine ⟨_, rfl, p, _, 0, _, rfl, rfl, SqT.of h1, atI_nat (j := 0) rfl, _, rfl, by cases b <;> cases c <;> rfl, _, rfl, ?_⟩
    rw [ne_kind]
    by_cases z : c = b
    · subst z
      rw [decide_eq_true rfl]
      refine iteF ?_
      have k2 : ∀ l H', Same H H' → H l = none → H' l = some (.lst (((lss ps c).map S).map V.str)) → Q (.ref l) H' := fun l H' a b h => k l H' a b (by
        show H' l = some (HO.lst (((ls (.node c ps) c).map S).map V.str))
        rw [ls_same]
        exact h)
      exact rd_lo hn (Same.refl _) pn0 wt ln k2
    · rw [decide_eq_false z]
      exact iteT (other none none (fun q => z (Option.some.inj q)))
end
end Yq

namespace Yq
open PySem PySem.Spec PyProof.Rows L2 SX Tq
section
variable {P : Program} {w : World} {K : PySem.W.Frag} {mg : Str → Option Value} {base : Heap}
theorem c_LT0 (D : Df K mg "loose_texts" (top 16)) : Cal P w K mg base 1 "loose_texts" ["kind", "node"] (spLT 0) := by
  refine mkC D s16 (fun _ _ _ _ _ _ us hl => match us, hl with | [_, _], _ => rfl) (fun _ => rfl) (fun f cdv A outer s H a Q E hr k => ?_)
  obtain ⟨b, t, v⟩ := a
  obtain ⟨pn, wt, ln, k⟩ := k
  have h1 := lv_pos t wt
  have h2 : lv t ≤ 0 := ln
  omega
theorem all_LT (D : Df K mg "loose_texts" (top 16)) (D2 : Df K mg "plain_text" (top 15)) (B : Bl w K mg) (CB : Cal P w K mg base 1 "bracketed" ["kind", "texts"] spBr) : ∀ n, n ≤ 12 → Cal P w K mg base (3 * n + 1) "loose_texts" ["kind", "node"] (spLT n)
  | 0, _ => c_LT0 D
  | n + 1, h => by
    have CL := all_LT D D2 B CB n (by omega)
    have CE := c_LE (by omega) D B CL
    have CP := c_PT h D2 B CB (j := 3 * n + 1 + 1) (by omega) CE
    exact c_LT (by omega) D B CL (by omega) CP
theorem c_plain36 (D : Df K mg "loose_texts" (top 16)) (D2 : Df K mg "plain_text" (top 15)) (B : Bl w K mg) (CB : Cal P w K mg base 1 "bracketed" ["kind", "texts"] spBr) : Cal P w K mg base 36 "plain_text" ["node"] (spPT 12) :=
  c_PT (Nat.le_refl _) D2 B CB (j := 35) (by omega) (c_LE (by omega) D B (all_LT D D2 B CB 11 (by omega)))
theorem s18 : FnScope ["tree"] ["tree"] (defScope (top 18)) := (⟨rfl, rfl, rfl, by decide +kernel, rfl, by decide +kernel, by decide +kernel⟩)
abbrev spPanes : Sp := Prx (α := Tr) (fun t => [.str (S (tx t))]) (fun t H Q => wf t ∧ lv t ≤ 12 ∧ ∀ H', Same H H' → Q (.int ((lv t : Nat) : Int)) H')
theorem c_panes (D : Df K mg "panes_of" (top 18)) (CC : Cal P w K mg base 3 "checked" ["tree"] spNode) (CL : Cal P w K mg base 1 "leaves_in" ["text"] spLeaves) : Cal P w K mg base 4 "panes_of" ["tree"] spPanes := by
  refine mkC D s18 (fun _ _ _ _ _ _ us hl => match us, hl with | [_], _ => rfl) (fun _ => rfl) (fun f cdv A outer s H t Q E hr k => ?_)
  obtain ⟨wt, l12, k⟩ := k
  refine ⟨_, pss_cons (ps_expr (pe_cl CC hr (by decide) (pa_cons (pv 0) pa_nil))) (pss_one (ps_ret (pe_cl CL hr (by decide) (pa_cons (pv 0) pa_nil)))), ?_⟩
  refine ⟨_, rfl, t, rfl, wt, l12, fun v H' s1 pn => ⟨_, rfl, tx t, rfl, ?_⟩⟩
  show Q (.int ((ct (tx t) : Nat) : Int)) H'
  rw [ct_lv]
  exact k _ s1
theorem s19 : FnScope ["tree"] ["tree"] (defScope (top 19)) := (⟨rfl, rfl, rfl, by decide +kernel, rfl, by decide +kernel, by decide +kernel⟩)
abbrev spPlain : Sp := Prx (α := Tr) (fun t => [.str (S (tx t))]) (fun t H Q => wf t ∧ lv t ≤ 12 ∧ ∀ H', Same H H' → Q (.str (S (pt t))) H')
theorem c_plain (D : Df K mg "plain" (top 19)) (CC : Cal P w K mg base 3 "checked" ["tree"] spNode) (CP : Cal P w K mg base 36 "plain_text" ["node"] (spPT 12)) : Cal P w K mg base 37 "plain" ["tree"] spPlain := by
  refine mkC D s19 (fun _ _ _ _ _ _ us hl => match us, hl with | [_], _ => rfl) (fun _ => rfl) (fun f cdv A outer s H t Q E hr k => ?_)
  obtain ⟨wt, l12, k⟩ := k
  refine ⟨_, pss_one (ps_ret (pe_cl CP hr (by decide) (pa_cons (pe_cl CC hr (by decide) (pa_cons (pv 0) pa_nil)) pa_nil))), ?_⟩
  exact ⟨_, rfl, t, rfl, wt, l12, fun v H' s1 pn => ⟨(t, v), rfl, pn, wt, l12, fun H2 s2 => k _ (s1.trans s2)⟩⟩
/-! ### what the law draws -/
abbrev nWe : List Str := ["_law_script", "_law_k", "_law_cell", "_law_mixed_here", "_law_each"]
theorem s21 : FnScope nWe ["_law_script", "_law_k"] (defScope (top 21)) := (⟨rfl, rfl, rfl, by decide +kernel, rfl, by decide +kernel, by decide +kernel⟩)
abbrev spWell (K : PySem.W.Frag) : Sp := Prx (α := Addr × List Int × Nat) (fun a => [.ref a.1, .int (a.2.2 : Int)]) (fun a H Q => SqL K H a.1 (a.2.1.map V.int) ∧ a.2.1.length ≤ 63 ∧ ∀ p H', Same H H' → H p = none → RkI H' p → Q (.ref p) H')
theorem c_well (D : Df K mg "_law_well" (top 21)) (B : Bl w K mg) : Cal P w K mg base 1 "_law_well" ["_law_script", "_law_k"] (spWell K) := by
  refine mkC D s21 (fun _ _ _ _ _ _ us hl => match us, hl with | [_, _], _ => rfl) (fun _ => rfl) (fun f cdv A outer s H a Q E hr k => ?_)
  obtain ⟨a, ns, j⟩ := a
  obtain ⟨hS, hlen, k⟩ := k
  have hS : SqL K H a (ns.map V.int) := hS
  have hlen : ns.length ≤ 63 := hlen
  refine ⟨_, pss_cons ((ps_set (i := 2) (FnScope.nd s21) rfl (Or.inl rfl) (pe_ifExp ((pt_cmpR op_lt (pv 1) ((pe_callB call_len_seq (by rfl) (Bl.len_ B) PySem.boot_len (pa_cons (pv 0) pa_nil))) (nomark _))) (pe_callTy call_int1 (by rfl) B.int_ PyProof.Rows.boot_int (pa_cons ((pe_ix ix_list (pv 0) (pv 1) (fun _ _ => rfl))) pa_nil)) (pe_op op_add (pe_op op_mul pe_int (pv 1)) pe_int))))
    (pss_cons ((ps_set (i := 3) (FnScope.nd s21) rfl (Or.inl rfl) (pe_op op_add pe_int (pe_op op_mul pe_int (pv 1)))))
    (pss_cons (ps_for PassesOwn.never rfl (pi_list (pe_op op_cat (pe_slice sl_list (pv 0) po_none (po_some pe_int)) (pe_lst (pa_cons (pv 2) pa_nil)))) ((pg_name (i := 4) (FnScope.nd s21) rfl (Or.inl rfl)))
      (pss_one ((ps_set (i := 3) (FnScope.nd s21) rfl (Or.inl rfl) (pe_op op_mod (pe_callTy call_int1 (by rfl) B.int_ PyProof.Rows.boot_int (pa_cons (pe_op op_add (pe_op op_mul (pv 3) pe_int) (pe_callTy call_int1 (by rfl) B.int_ PyProof.Rows.boot_int (pa_cons (pv 4) pa_nil))) pa_nil)) pe_int)))))
    (pss_one (ps_ret (pe_lst (pa_cons (pe_ifExp (PW.pt (pw_or ((pt_cmpR op_lt (pv 2) pe_int (nomark _))) (pw_or1 (pt_cmpR op_ge (pv 2) (pe_op op_pow pe_int pe_int) (nomark _))))) (pe_callB call_abs (by rfl) B.abs_ PyProof.Rows.boot_abs (pa_cons (pv 2) pa_nil)) pe_int) (pa_cons (pv 3) (pa_cons pe_int pa_nil)))))))), ?_⟩
  have e0 : L2.start nWe [V.ref a, V.int (j : Int)] = [some (.ref a), some (.int (j : Int)), none, none, none] := rfl
  rw [e0]
  have five : ∀ cell : Int, ∃ ms : List Int, cutV (ns.map V.int) none (some 5) ++ [V.int cell] = ms.map V.int ∧ ms.length ≤ 64 := by
    intro cell
    refine ⟨(ns.drop (HT.sIx (ns.map V.int).length 0 none)).take (HT.sIx (ns.map V.int).length (ns.map V.int).length (some 5) - HT.sIx (ns.map V.int).length 0 none) ++ [cell], ?_, ?_⟩
    · unfold cutV
      rw [List.map_append, List.map_take, List.map_drop]
      rfl
    · rw [List.length_append, List.length_take, List.length_drop, List.length_singleton]
      omega
  have big : 1000 < sizeLine := by decide
  have c5 : (cutV (ns.map V.int) none (some 5)).length ≤ 63 := by
    have := cutV_length (ns.map V.int) none (some 5)
    rw [List.length_map] at this
    omega
  refine ⟨_, rfl, _, rfl, a, _, rfl, .inl hS, _, _, rfl, rfl, _, rfl, ite2 (fun hb => ?a) (fun hb => ?b)⟩
  case' a =>
    have hj : j < ns.length := by
      have q := of_decide_eq_true hb
      rw [List.length_map] at q
      omega
    have hx : (ns.map V.int)[j]? = some (.int ns[j]) := by rw [List.getElem?_map, List.getElem?_eq_getElem hj]; rfl
    refine ⟨_, rfl, _, rfl, a, _, _, .int ns[j], rfl, rfl, hS, atI_nat hx, .inl ⟨_, rfl, ?_⟩⟩
    generalize ns[j] = cell
  case' b =>
    refine ⟨_, rfl, _, _, rfl, rfl, .inl ⟨by decide, by decide⟩, _, _, rfl, rfl, ?_⟩
    dsimp only
    generalize 7127 * (j : Int) + 53 = cell
  all_goals
    refine ⟨_, rfl, _, _, rfl, rfl, .inl ⟨by decide, by decide⟩, _, _, rfl, rfl, ?_⟩
    obtain ⟨ms, ems, lms⟩ := five cell
    refine ⟨_, rfl, _, rfl, a, _, rfl, hS, fun l nl => ⟨_, rfl, (by show 1 ≤ sizeLine; decide), fun l2 nl2 => ?_⟩⟩
    have nl12 : l ≠ l2 := fun z => by rw [← z, upd_same] at nl2; cases nl2
    refine ⟨l, l2, _, _, rfl, rfl, by rw [upd_ne nl12]; exact upd_same, upd_same, by rw [List.length_singleton]; omega, fun l3 nl3 => ⟨l3, rfl, ?_⟩⟩
    rw [ems]
    have s3 : Same H (upd (upd (upd H l (.lst (cutV (ns.map V.int) none (some 5)))) l2 (.lst [.int cell])) l3 (.lst (ms.map V.int))) := ((same_new nl).trans (same_new nl2)).trans (same_new nl3)
    refine ⟨⟨_, SqL.of upd_same⟩, for_list (xs := ms.map V.int) (fun i σ H' => H' = upd (upd (upd H l (.lst (cutV (ns.map V.int) none (some 5)))) l2 (.lst [.int cell])) l3 (.lst (ms.map V.int)) ∧ ∃ m z, σ = [some (.ref a), some (.int (j : Int)), some (.int cell), some (.int m), z])
      ⟨rfl, _, _, rfl⟩ (fun i σ H' _ q => by rw [q.1]; exact SqL.of upd_same) ?_ ?_⟩
    · rintro i x σ H' hx ⟨rfl, m, z, rfl⟩
      rw [List.getElem?_map] at hx
      obtain ⟨y, _, rfl⟩ := Option.map_eq_some_iff.mp hx
      refine ⟨_, rfl, _, _, rfl, rfl, .inr ⟨by decide, by decide⟩, _, rfl, .inl ⟨_, rfl, _, _, rfl, rfl, .inl ⟨_, rfl, _, _, rfl, rfl, (by show (0 : Int) < 2147483249; decide), rfl, _, _, rfl⟩⟩⟩
    · rintro σ H' ⟨rfl, m, z, rfl⟩
      refine ⟨_, rfl, _, _, rfl, rfl, _, rfl, ite2 (fun hb => ?_) (fun hb => ?_)⟩
      · refine ite2 (fun _ => ?_) (fun q => absurd rfl q)
        refine ⟨_, rfl, _, rfl, _, rfl, (by show 3 ≤ sizeLine; decide), fun p np => ?_⟩
        refine k p _ (s3.trans (same_new np)) ?_ ⟨_, _, _, upd_same⟩
        cases z : H p with
        | none => rfl
        | some u =>
          have := s3 p u z
          rw [np] at this
          cases this
      · refine ⟨_, rfl, 10, 18, rfl, rfl, ⟨by decide, by decide, by decide⟩, _, _, rfl, rfl, _, rfl, ite2 (fun hb => ?_) (fun hb => ?_)⟩
        · refine ⟨_, rfl, _, rfl, _, rfl, (by show 3 ≤ sizeLine; decide), fun p np => ?_⟩
          refine k p _ (s3.trans (same_new np)) ?_ ⟨_, _, _, upd_same⟩
          cases z : H p with
          | none => rfl
          | some u =>
            have := s3 p u z
            rw [np] at this
            cases this
        · refine ⟨_, rfl, (by show 3 ≤ sizeLine; decide), fun p np => ?_⟩
          refine k p _ (s3.trans (same_new np)) ?_ ⟨_, _, _, upd_same⟩
          cases z : H p with
          | none => rfl
          | some u =>
            have := s3 p u z
            rw [np] at this
            cases this
end
end Yq

namespace Yq
open PySem PySem.Spec PyProof.Rows L2 SX Tq
section
variable {P : Program} {w : World} {K : PySem.W.Frag} {mg : Str → Option Value} {base : Heap}
abbrev nDi : List Str := ["_law_well_here", "_law_many", "_law_old", "_law_digit"]
theorem s22 : FnScope nDi ["_law_well_here", "_law_many"] (defScope (top 22)) := (⟨rfl, rfl, rfl, by decide +kernel, rfl, by decide +kernel, by decide +kernel⟩)
abbrev spDip : Sp := Prx (α := Addr × Int) (fun a => [.ref a.1, .int a.2]) (fun a H Q => RkI H a.1 ∧ 1 ≤ a.2 ∧ a.2 ≤ 1000 ∧ ∀ n H', SameX a.1 H H' → RkI H' a.1 → 0 ≤ n → n < a.2 → Q (.int n) H')
theorem c_dip (D : Df K mg "_law_dip" (top 22)) (B : Bl w K mg) : Cal P w K mg base 1 "_law_dip" ["_law_well_here", "_law_many"] spDip := by
  refine mkC D s22 (fun _ _ _ _ _ _ us hl => match us, hl with | [_, _], _ => rfl) (fun _ => rfl) (fun f cdv A outer s H a Q E hr k => ?_)
  obtain ⟨r, m⟩ := a
  obtain ⟨⟨a, b, c, hR⟩, m1, m2, k⟩ := k
  have m1 : 1 ≤ m := m1
  have m2 : m ≤ 1000 := m2
  have hR0 : H r = some (.lst [.int a, .int b, .int c]) := hR
  refine ⟨_, pss_cons (ps_asg (pe_op op_add ((pe_ix ix_list (pv 0) pe_int (fun _ _ => rfl))) pe_int) (pg_sub (pv 0) pe_int set_list (fun _ => rfl)))
    (pss_cons ((ps_set (i := 2) (FnScope.nd s22) rfl (Or.inl rfl) (pe_callTy call_int1 (by rfl) B.int_ PyProof.Rows.boot_int (pa_cons ((pe_ix ix_list (pv 0) pe_int (fun _ _ => rfl))) pa_nil))))
    (pss_cons (ps_asg (pe_op op_mod (pe_callTy call_int1 (by rfl) B.int_ PyProof.Rows.boot_int (pa_cons (pe_op op_add (pe_op op_add
          (pe_op op_mul (pv 2) (pe_op op_add (pe_op op_mod (pe_callTy call_int1 (by rfl) B.int_ PyProof.Rows.boot_int (pa_cons (pv 2) pa_nil)) pe_int) pe_int))
          (pe_op op_mul pe_int ((pe_ix ix_list (pv 0) pe_int (fun _ _ => rfl))))) pe_int) pa_nil)) pe_int) (pg_sub (pv 0) pe_int set_list (fun _ => rfl)))
    (pss_cons (ps_if ((pt_cmpR op_gt ((pe_ix ix_list (pv 0) pe_int (fun _ _ => rfl))) pe_int (nomark _)))
      (pss_cons (ps_asg (pe_callB call_divmodW (by rfl) B.divmod_ PyProof.Rows.boot_divmod (pa_cons ((pe_ix ix_list (pv 0) pe_int (fun _ _ => rfl))) (pa_cons (pv 1) pa_nil)))
          (pg_tup rfl (pgs_cons (pg_sub (pv 0) pe_int set_list (fun _ => rfl)) (pgs_cons ((pg_name (i := 3) (FnScope.nd s22) rfl (Or.inl rfl))) pgs_nil))))
        (pss_one (ps_ret (pv 3)))) pss_nil)
    (pss_one (ps_ret (pe_op op_mod (pe_callTy call_int1 (by rfl) B.int_ PyProof.Rows.boot_int (pa_cons (pe_op op_fdiv ((pe_ix ix_list (pv 0) pe_int (fun _ _ => rfl))) pe_int) pa_nil)) (pv 1))))))), ?_⟩
  have e0 : L2.start nDi [V.ref r, V.int m] = [some (.ref r), some (.int m), none, none] := rfl
  rw [e0]
  refine ⟨_, rfl, r, _, 2, .int c, rfl, rfl, SqL.of hR0, atI_nat (j := 2) rfl, _, _, rfl, rfl, ?_⟩
  refine ⟨_, rfl, r, [.int a, .int b, .int c], 2, 2, rfl, rfl, hR0, rfl, ?_⟩
  refine ⟨_, rfl, r, _, 1, .int b, rfl, rfl, SqL.of upd_same, atI_nat (j := 1) rfl, .inl ⟨_, rfl, ?_⟩⟩
  refine ⟨_, rfl, _, rfl, .inl ⟨_, rfl, ?_⟩⟩
  refine ⟨_, _, rfl, rfl, (by show (0 : Int) < 17011; decide), _, _, rfl, rfl, _, _, rfl, rfl, .inr ⟨by omega, by omega⟩, ?_⟩
  refine ⟨_, rfl, r, _, 2, .int (c + 1), rfl, rfl, SqL.of upd_same, atI_nat (j := 2) rfl, _, _, rfl, rfl, .inl ⟨by decide, by decide⟩, ?_⟩
  refine ⟨_, _, rfl, rfl, _, _, rfl, rfl, .inl ⟨_, rfl, ?_⟩⟩
  refine ⟨_, _, rfl, rfl, (by show (0 : Int) < 2147483249; decide), ?_⟩
  refine ⟨_, rfl, r, [.int a, .int b, .int (c + 1)], 1, 1, rfl, rfl, upd_same, rfl, ?_⟩
  refine ⟨_, rfl, r, _, 0, .int a, rfl, rfl, SqL.of upd_same, atI_nat (j := 0) rfl, _, _, rfl, rfl, _, rfl, ?_⟩
  rw [upd_upd]
  refine ite2 (fun hb => ?_) (fun hb => ?_)
  · refine ⟨_, rfl, r, _, 0, .int a, rfl, rfl, SqL.of upd_same, atI_nat (j := 0) rfl, _, rfl, _, _, rfl, ⟨by omega, PyProof.noPylong_of_log2 (Nat.lt_of_lt_of_le (PySem.Flt.log2_lt_of (show 0 < 150 by decide) (show m.natAbs < 2 ^ 150 from Nat.lt_of_le_of_lt (show m.natAbs ≤ 1000 by omega) (by decide))) (by decide))⟩, fun p hp => ?_⟩
    have nrp : r ≠ p := fun e => by rw [← e, upd_same] at hp; cases hp
    refine ⟨p, _, rfl, SqT.of upd_same, rfl, _, _, rfl, ?_⟩
    refine ⟨_, rfl, r, _, 0, 0, rfl, rfl, (by rw [upd_ne nrp]; exact upd_same), rfl, _, _, rfl, rfl, ?_⟩
    refine ⟨_, rfl, ?_⟩
    refine k (a % m) _ (fun b o n e => ?_) ⟨_, _, _, upd_same⟩ (Int.emod_nonneg _ (by omega)) (Int.emod_lt_of_pos _ (by omega))
    rw [upd_ne n, upd_ne (fun z => by rw [← z, upd_ne n, e] at hp; cases hp), upd_ne n]
    exact e
  · refine ⟨_, rfl, r, _, 1, _, rfl, rfl, SqL.of upd_same, atI_nat (j := 1) rfl, ?_⟩
    refine ⟨_, _, rfl, rfl, ⟨by decide, by decide⟩, .inl ⟨_, rfl, ?_⟩⟩
    refine ⟨_, rfl, _, _, rfl, rfl, (by show (0 : Int) < m; omega), ?_⟩
    exact k _ _ SameX.put ⟨_, _, _, upd_same⟩ (Int.emod_nonneg _ (by omega)) (Int.emod_lt_of_pos _ (by omega))
theorem s23 : FnScope ["_law_well_here", "_law_things"] ["_law_well_here", "_law_things"] (defScope (top 23)) := (⟨rfl, rfl, rfl, by decide +kernel, rfl, by decide +kernel, by decide +kernel⟩)
abbrev spOf : Sp := Prx (α := Addr × Addr × List V) (fun a => [.ref a.1, .ref a.2.1]) (fun a H Q => RkI H a.1 ∧ a.2.1 ≠ a.1 ∧ H a.2.1 = some (.lst a.2.2) ∧ 1 ≤ a.2.2.length ∧ a.2.2.length ≤ 1000 ∧ ∀ v H', SameX a.1 H H' → RkI H' a.1 → v ∈ a.2.2 → Q v H')
theorem c_of (D : Df K mg "_law_of" (top 23)) (B : Bl w K mg) (CD : Cal P w K mg base 1 "_law_dip" ["_law_well_here", "_law_many"] spDip) : Cal P w K mg base 2 "_law_of" ["_law_well_here", "_law_things"] spOf := by
  refine mkC D s23 (fun _ _ _ _ _ _ us hl => match us, hl with | [_, _], _ => rfl) (fun _ => rfl) (fun f cdv A outer s H a Q E hr k => ?_)
  obtain ⟨r, l, vs⟩ := a
  obtain ⟨hR, nlr, hl, h1, h2, k⟩ := k
  have hl : H l = some (.lst vs) := hl
  have nlr : l ≠ r := nlr
  have h1 : 1 ≤ vs.length := h1
  have h2 : vs.length ≤ 1000 := h2
  refine ⟨_, pss_one (ps_ret ((pe_ix ix_list (pv 1) (pe_cl CD hr (by decide) (pa_cons (pv 0) (pa_cons ((pe_callB call_len_seq (by rfl) (Bl.len_ B) PySem.boot_len (pa_cons (pv 1) pa_nil))) pa_nil))) (fun _ _ => rfl)))), ?_⟩
  refine ⟨_, rfl, _, rfl, _, rfl, l, _, rfl, .inl (SqL.of hl), (r, ((vs.length : Nat) : Int)), rfl, hR, (by show 1 ≤ ((vs.length : Nat) : Int); omega), (by show ((vs.length : Nat) : Int) ≤ 1000; omega), fun n H' s1 hR' n0 n1 => ?_⟩
  have hn : n.toNat < vs.length := by
    have : n < (vs.length : Int) := n1
    omega
  have en : n = ((n.toNat : Nat) : Int) := by omega
  rw [en]
  exact ⟨l, vs, _, vs[n.toNat], rfl, rfl, SqL.of (s1 l _ nlr hl), atI_nat (List.getElem?_eq_getElem hn), k _ _ s1 hR' (List.getElem_mem _)⟩
end
end Yq

namespace Yq
open PySem PySem.Spec PyProof.Rows L2 SX Tq
theorem none_of {r : Addr} {H H' : Hp} (hR : RkI H' r) (s : SameX r H H') {a : Addr} (h : H' a = none) : H a = none := by
  by_cases e : a = r
  · obtain ⟨x, y, z, q⟩ := hR
    rw [e, q] at h
    cases h
  · cases z : H a with
    | none => rfl
    | some u =>
      have := s a u e z
      rw [h] at this
      cases this
theorem none_same {H H' : Hp} (s : Same H H') {a : Addr} (h : H' a = none) : H a = none := by
  cases z : H a with
  | none => rfl
  | some u =>
    have := s a u z
    rw [h] at this
    cases this
section
variable {P : Program} {w : World} {K : PySem.W.Frag} {mg : Str → Option Value} {base : Heap}
def nI (ss : List Nat) : List V := ss.map fun n : Nat => V.int (n : Int)
theorem dp_nats {K : PySem.W.Frag} {H : Hp} (l : List Nat) : DpAll K H (nI l) (l.map fun n : Nat => PyData.int (n : Int)) := by
  induction l with
  | nil => exact .nil
  | cons b r ih => exact .cons (.int _) ih
theorem sh_nats (l : List Nat) : SeqAt.shaped (.list (l.map fun n : Nat => PyData.int (n : Int))) = true := by
  have e1 : PyData.canLayAll0 (l.map fun n : Nat => PyData.int (n : Int)) = true := by
    induction l with
    | nil => rfl
    | cons b r ih =>
      show (PyData.canLay0 (.int (b : Int)) && PyData.canLayAll0 (r.map fun n : Nat => PyData.int (n : Int))) = true
      rw [ih]
      first | done | rfl
  have e2 : ∀ l : List Nat, PyData.depthAll (l.map fun n : Nat => PyData.int (n : Int)) = 0 := by
    intro l
    induction l with
    | nil => rfl
    | cons b r ih =>
      simp only [List.map_cons, PyData.depthAll, PyData.depth, ih]
      rfl
  unfold SeqAt.shaped
  rw [Bool.and_eq_true]
  refine ⟨e1, decide_eq_true ?_⟩
  simp only [PyData.depth, e2]
  decide
abbrev nSi : List Str := ["_law_well_here", "_law_many", "_law_found", "_law_left", "_law_turn", "_law_take"]
theorem s24 : FnScope nSi ["_law_well_here", "_law_many"] (defScope (top 24)) := (⟨rfl, rfl, rfl, by decide +kernel, rfl, by decide +kernel, by decide +kernel⟩)
abbrev spSi : Sp := Prx (α := Addr × Nat) (fun a => [.ref a.1, .int (a.2 : Int)]) (fun a H Q => RkI H a.1 ∧ 2 ≤ a.2 ∧ a.2 ≤ 64 ∧ ∀ ss l H', SameX a.1 H H' → RkI H' a.1 → H l = none → H' l = some (.lst (nI ss)) → (∀ s ∈ ss, 1 ≤ s ∧ s < a.2) → ss.sum = a.2 → 2 ≤ ss.length → Q (.ref l) H')
structure SiI (H H' : Hp) (r fl : Addr) (m i L : Nat) (ss : List Nat) : Prop where
  s : SameX r H H'
  R : RkI H' r
  nw : H fl = none
  ne : fl ≠ r
  at_ : H' fl = some (.lst (nI ss))
  pos : ∀ s ∈ ss, 1 ≤ s ∧ s < m
  sum : ss.sum + L = m
  lt : ss ≠ [] → L < m
  dn : L + i ≤ m
  len : ss.length ≤ i
theorem len_two {ss : List Nat} {m : Nat} (hm : 2 ≤ m) (h : ∀ s ∈ ss, 1 ≤ s ∧ s < m) (e : ss.sum = m) : 2 ≤ ss.length := by
  match ss, h, e with
  | [], _, e => simp at e; omega
  | [x], h, e =>
    have := h x (by simp)
    simp at e
    omega
  | _ :: _ :: _, _, _ => simp
theorem c_si (D : Df K mg "_law_sizes" (top 24)) (B : Bl w K mg) (CD : Cal P w K mg base 1 "_law_dip" ["_law_well_here", "_law_many"] spDip) : Cal P w K mg base 2 "_law_sizes" ["_law_well_here", "_law_many"] spSi := by
  refine mkC D s24 (fun _ _ _ _ _ _ us hl => match us, hl with | [_, _], _ => rfl) (fun _ => rfl) (fun f cdv A outer s H a Q E hr k => ?_)
  obtain ⟨r, m⟩ := a
  obtain ⟨hR, m2, m64, k⟩ := k
  have hR : RkI H r := hR
  have m2 : 2 ≤ m := m2
  have m64 : m ≤ 64 := m64
  have big : 1000 < sizeLine := by decide
  have hu2 : (A.deeper (envOfC "_law_sizes" (defScope (top 24)) s.heap.objs.size f cdv)).units + 64 < cLine := by have := hr.un; omega
  refine ⟨_, pss_cons (ps_par (i := 2) (j := 3) rfl s24.nd rfl rfl (by decide) rfl rfl (pa_cons (pe_lst pa_nil) (pa_cons (pv 1) pa_nil)) rfl)
    (pss_cons (ps_for PassesOwn.never rfl (pi_range1 (by rfl) B.range_ (pa_cons (pv 1) pa_nil)) ((pg_name (i := 4) (FnScope.nd s24) rfl (Or.inl rfl)))
      (pss_one (ps_if ((pt_cmpR op_gt (pv 3) pe_int (nomark _)))
        (pss_cons ((ps_set (i := 5) (FnScope.nd s24) rfl (Or.inl rfl) (pe_op op_add pe_int (pe_cl CD hr (by decide) (pa_cons (pv 0) (pa_cons (pe_op op_sub (pv 3) (pe_callTy call_int1 (by rfl) B.int_ PyProof.Rows.boot_int (pa_cons (pe_cmpR (op_eqD hu2) (pv 2) (pe_lst pa_nil) (nomark _)) pa_nil))) pa_nil))))))
          (pss_one (ps_par (i := 2) (j := 3) rfl s24.nd rfl rfl (by decide) rfl rfl (pa_cons (pe_op op_cat (pv 2) (pe_lst (pa_cons (pv 5) pa_nil))) (pa_cons (pe_op op_sub (pv 3) (pv 5)) pa_nil)) rfl))) pss_nil)))
    (pss_one (ps_ret (pv 2)))), ?_⟩
  have e0 : L2.start nSi [V.ref r, V.int (m : Int)] = [some (.ref r), some (.int (m : Int)), none, none, none, none] := rfl
  rw [e0]
  refine ⟨by decide, fun l0 n0 => ⟨_, rfl, _, _, rfl, ?_⟩⟩
  have nr0 : l0 ≠ r := fun z => by
    obtain ⟨x, y, zz, q⟩ := hR
    rw [z, q] at n0
    cases n0
  refine ⟨_, rfl, _, rfl, by omega, by omega, for_range (fun i σ H' => ∃ fl L ss z4 z5, σ = [some (.ref r), some (.int (m : Int)), some (.ref fl), some (.int ((L : Nat) : Int)), z4, z5] ∧ SiI H H' r fl m i L ss)
    ⟨l0, m, [], none, none, rfl, ⟨(SameX.of (same_new n0)), hR.putN (Ne.symm nr0), n0, nr0, upd_same, (by simp), (by simp), (fun z => absurd rfl z), (by omega), Nat.le_refl _⟩⟩ ?_ ?_⟩
  · rintro i σ H' hi ⟨fl, L, ss, z4, z5, rfl, I⟩
    refine ⟨_, rfl, _, _, rfl, rfl, _, rfl, ite2 (fun hb => ?_) (fun hb => ?_)⟩
    · have hL : 0 < L := by
        have q := of_decide_eq_true hb
        omega
      refine ⟨_, rfl, _, rfl, _, rfl, by decide, fun p np => ?_⟩
      have s1 := same_new (o := .lst []) np
      have npr : p ≠ r := fun z => by
        obtain ⟨x, y, zz, q⟩ := I.R
        rw [z, q] at np
        cases np
      have hfl := s1 _ _ I.at_
      refine ⟨_, _, .lst (SqL.of hfl) (dp_nats ss), .lst (SqL.of upd_same) .nil, sh_nats ss, rfl, .inr ⟨_, rfl, _, _, rfl, rfl, ?_⟩⟩
      obtain ⟨q, hq1, hq2, hqe⟩ : ∃ q : Nat, 1 ≤ q ∧ (q < L ∨ (q = L ∧ L < m)) ∧ (fun i j => V.int (i - j)) ((L : Nat) : Int) (if PyData.eqv (.list (ss.map fun n : Nat => PyData.int (n : Int))) (.list []) = true then 1 else 0) = V.int ((q : Nat) : Int) := by
        by_cases e : ss = []
        · subst e
          have hLm : L = m := by
            have := I.sum
            simp at this
            exact this
          refine ⟨L - 1, by omega, .inl (by omega), ?_⟩
          show V.int (((L : Nat) : Int) - (if PyData.eqv (.list []) (.list []) = true then 1 else 0)) = _
          rw [if_pos (by rfl)]
          exact congrArg V.int (by omega)
        · refine ⟨L, by omega, .inr ⟨rfl, I.lt e⟩, ?_⟩
          rw [eqv_ne (by simpa using e)]
          show V.int (((L : Nat) : Int) - (if false = true then 1 else 0)) = _
          rw [if_neg (by decide)]
          exact congrArg V.int (by omega)
      rw [hqe]
      have iqm := I.dn
      refine ⟨(r, ((q : Nat) : Int)), rfl, I.R.putN (Ne.symm npr), (by show 1 ≤ ((q : Nat) : Int); omega), (by show ((q : Nat) : Int) ≤ 1000; omega), fun n H2 s2 R2 g0 g1 => ?_⟩
      have g1 : n < ((q : Nat) : Int) := g1
      refine ⟨_, _, rfl, rfl, ?_⟩
      have hfl2 := s2 _ _ I.ne hfl
      obtain ⟨tk, etk⟩ : ∃ tk : Nat, (1 : Int) + n = ((tk : Nat) : Int) := ⟨(1 + n).toNat, by omega⟩
      refine ⟨_, rfl, _, rfl, (by show 1 ≤ sizeLine; decide), fun l2 nl2 => ?_⟩
      have nfl2 : fl ≠ l2 := ne_of_none hfl2 nl2
      have lq := I.len
      refine ⟨fl, l2, _, _, rfl, rfl, by rw [upd_ne nfl2]; exact hfl2, upd_same, by show (nI ss).length + 1 ≤ sizeLine; rw [nI, List.length_map]; omega, fun l3 nl3 => ⟨_, rfl, _, rfl, _, _, rfl, rfl, _, _, rfl, ?_⟩⟩
      have nl3' : H2 l3 = none := none_same (same_new nl2) nl3
      have r3 : l3 ≠ r := fun z => by
        obtain ⟨x, y, zz, q⟩ := R2
        rw [z, q] at nl3'
        cases nl3'
      have r2 : l2 ≠ r := fun z => by
        obtain ⟨x, y, zz, q⟩ := R2
        rw [z, q] at nl2
        cases nl2
      have sx : SameX r H H2 := (I.s.trans (SameX.of s1)).trans s2
      refine ⟨l3, L - tk, ss ++ [tk], some (.int (0 + (i : Int))), some (.int (1 + n)), ?_, ⟨(sx.trans (SameX.of (same_new nl2))).trans (SameX.of (same_new nl3)), (R2.putN (Ne.symm r2)).putN (Ne.symm r3), none_of R2 sx nl3', r3, ?_, ?_, ?_, ?_, ?_, ?_⟩⟩
      · show [some (V.ref r), some (V.int ((m : Nat) : Int)), some (V.ref l3), some (V.int (((L : Nat) : Int) - (1 + n))), some (V.int (0 + (i : Int))), some (V.int (1 + n))] = _
        have e5 : ((L : Nat) : Int) - (1 + n) = ((L - tk : Nat) : Int) := by omega
        rw [e5]
      · refine upd_same.trans ?_
        show some (HO.lst (nI ss ++ [V.int (1 + n)])) = _
        rw [etk]
        simp [nI]
      · intro x hx
        rcases List.mem_append.mp hx with hx | hx
        · exact I.pos x hx
        · rw [List.mem_singleton.mp hx]
          omega
      · have := I.sum
        rw [List.sum_append]
        simp
        omega
      · intro _
        have := I.sum
        omega
      · have := I.dn
        omega
      · have := I.len
        rw [List.length_append, List.length_singleton]
        omega
    · have hL : L = 0 := by
        have q : ¬ ((L : Nat) : Int) > 0 := fun z => hb (decide_eq_true z)
        omega
      refine ⟨fl, L, ss, _, _, rfl, ⟨I.s, I.R, I.nw, I.ne, I.at_, I.pos, I.sum, I.lt, by omega, Nat.le_succ_of_le I.len⟩⟩
  · rintro σ H' ⟨fl, L, ss, z4, z5, rfl, I⟩
    have hL : L = 0 := by
      have := I.dn
      omega
    have sm : ss.sum = m := by
      have := I.sum
      omega
    exact ⟨_, rfl, k ss fl H' I.s I.R I.nw I.at_ I.pos sm (len_two m2 I.pos sm)⟩
end
end Yq

namespace Yq
open PySem PySem.Spec PyProof.Rows L2 SX Tq
section
variable {P : Program} {w : World} {K : PySem.W.Frag} {mg : Str → Option Value} {base : Heap}
theorem s25 : FnScope ["_law_well_here", "_law_many", "_law_size"] ["_law_well_here", "_law_many"] (defScope (top 25)) := (⟨rfl, rfl, rfl, by decide +kernel, rfl, by decide +kernel, by decide +kernel⟩)
abbrev spGr (n : Nat) : Sp := Prx (α := Addr × Nat) (fun a => [.ref a.1, .int (a.2 : Int)]) (fun a H Q => RkI H a.1 ∧ 1 ≤ a.2 ∧ a.2 ≤ n ∧ ∀ t v H', SameX a.1 H H' → RkI H' a.1 → Lw (fun a => H a = none) H' t v → wf t → lv t = a.2 → Q v H')
theorem c_gr0 (D : Df K mg "_law_grown" (top 25)) : Cal P w K mg base 2 "_law_grown" ["_law_well_here", "_law_many"] (spGr 0) := by
  refine mkC (k := 1) D s25 (fun _ _ _ _ _ _ us hl => match us, hl with | [_, _], _ => rfl) (fun _ => rfl) (fun f cdv A outer s H a Q E hr k => ?_)
  obtain ⟨r, m⟩ := a
  obtain ⟨_, h1, h2, _⟩ := k
  have h1 : 1 ≤ m := h1
  have h2 : m ≤ 0 := h2
  omega
theorem c_gr {n j : Nat} (hn : n ≤ 20) (hj : 2 ≤ j) (D : Df K mg "_law_grown" (top 25)) (B : Bl w K mg) (CO : Cal P w K mg base 2 "_law_of" ["_law_well_here", "_law_things"] spOf) (CS : Cal P w K mg base 2 "_law_sizes" ["_law_well_here", "_law_many"] spSi)
    (CG : Cal P w K mg base j "_law_grown" ["_law_well_here", "_law_many"] (spGr n)) : Cal P w K mg base (j + 1) "_law_grown" ["_law_well_here", "_law_many"] (spGr (n + 1)) := by
  refine mkC D s25 (fun _ _ _ _ _ _ us hl => match us, hl with | [_, _], _ => rfl) (fun _ => rfl) (fun f cdv A outer s H a Q E hr k => ?_)
  obtain ⟨r, m⟩ := a
  obtain ⟨hR, m1, mn, k⟩ := k
  have hR : RkI H r := hR
  have m1 : 1 ≤ m := m1
  have mn : m ≤ n + 1 := mn
  have big : 1000 < sizeLine := by decide
  refine ⟨_, pss_cons (ps_if ((pt_cmpR op_eq (pv 1) pe_int (nomark _))) (pss_one (ps_ret (pe_cl CO hr hj (pa_cons (pv 0) (pa_cons (pe_lst (pa_cons pe_str (pa_cons pe_str pa_nil))) pa_nil))))) pss_nil)
    (pss_one (ps_ret (pe_tup (pa_cons (pe_cl CO hr hj (pa_cons (pv 0) (pa_cons (pe_lst (pa_cons pe_str (pa_cons pe_str pa_nil))) pa_nil))) (pa_cons
      (pe_lc (own := [("_law_size", 2)]) (g := gName 2) (tt := tYes) (te := tCall (spGr n) [] L2.E0 (tCons (tVar 0) (tCons (tVar 2) tNil))) rfl s25.nd (pi_list (pe_cl CS hr hj (pa_cons (pv 0) (pa_cons (pv 1) pa_nil))))
        (blkOk_by (N := ["_law_well_here", "_law_many", "_law_size"]) (sc := defScope (top 25)) (by decide +kernel)) (fun _ _ _ _ _ => (pg_name (i := 2) (FnScope.nd s25) rfl (Or.inl rfl))) (fun _ _ _ _ _ => pts_nil)
        (fun _ _ _ _ _ => pe_cl CG hr (Nat.le_refl _) (pa_cons (pv 0) (pa_cons (pv 2) pa_nil)))) pa_nil))))), ?_⟩
  refine ⟨_, rfl, rfl, _, rfl, ?_⟩
  rw [dec_int]
  have ne : ∀ {p : Addr}, H p = none → p ≠ r := fun {p} hp z => by
    obtain ⟨x, y, zz, q⟩ := hR
    rw [z, q] at hp
    cases hp
  refine ite2 (fun hb => ?_) (fun hb => ?_)
  · have hm : m = 1 := by
      have q : ((m : Nat) : Int) = 1 := by simpa using hb
      omega
    subst hm
    refine ⟨_, rfl, (by show 2 ≤ sizeLine; decide), fun l nl => ⟨(r, l, _), rfl, hR.putN (Ne.symm (ne nl)), ne nl, upd_same, (by show 1 ≤ 2; decide), (by show 2 ≤ 1000; decide), fun v H' s1 R1 hv => ?_⟩⟩
    have sx := (SameX.of (same_new (o := .lst [.str "l", .str "s"]) nl)).trans s1
    have : ∃ b : Bool, v = .str (S [lc b]) := by
      have hv : v ∈ [V.str "l", V.str "s"] := hv
      rcases List.mem_cons.mp hv with e | e
      · exact ⟨true, by rw [e, sl]; rfl⟩
      · exact ⟨false, by rw [List.mem_singleton.mp e, ss]; rfl⟩
    obtain ⟨b, rfl⟩ := this
    exact k (.leaf b) _ H' sx R1 (by rw [Lw]) (by rw [wf]; trivial) (by rw [lv])
  · have hm : 2 ≤ m := by
      have q : ¬ ((m : Nat) : Int) = 1 := by simpa using hb
      omega
    refine ⟨_, rfl, (by show 2 ≤ sizeLine; decide), fun l nl => ⟨(r, l, _), rfl, hR.putN (Ne.symm (ne nl)), ne nl, upd_same, (by show 1 ≤ 2; decide), (by show 2 ≤ 1000; decide), fun v H1 s1 R1 hv => ?_⟩⟩
    have sx1 := (SameX.of (same_new (o := .lst [.str "[", .str "("]) nl)).trans s1
    have : ∃ b : Bool, v = .str (S [oc b]) := by
      have hv : v ∈ [V.str "[", V.str "("] := hv
      rcases List.mem_cons.mp hv with e | e
      · exact ⟨true, by rw [e, so1]; rfl⟩
      · exact ⟨false, by rw [List.mem_singleton.mp e, so2]; rfl⟩
    obtain ⟨b, rfl⟩ := this
    refine ⟨_, rfl, _, rfl, (r, m), rfl, R1, hm, by show m ≤ 64; omega, fun ss l2 H2 s2 R2 nl2 hl2 pos sum two => ⟨l2, rfl, ⟨_, SqL.of hl2⟩, fun D hD => ?_⟩⟩
    have pos : ∀ s ∈ ss, 1 ≤ s ∧ s < m := pos
    have sum : ss.sum = m := sum
    have sx2 := sx1.trans s2
    have rD : D ≠ r := fun z => by
      obtain ⟨x, y, zz, q⟩ := R2
      rw [z, q] at hD
      cases hD
    have rl2 : l2 ≠ r := fun z => by
      obtain ⟨x, y, zz, q⟩ := R1
      rw [z, q] at nl2
      cases nl2
    have lD : l2 ≠ D := ne_of_none hl2 hD
    have nD : H D = none := none_of R2 sx2 hD
    have nL : H l2 = none := none_of R1 sx1 nl2
    have lss : ss.length ≤ m := by
      have : ∀ l : List Nat, (∀ s ∈ l, 1 ≤ s) → l.length ≤ l.sum := by
        intro l
        induction l with
        | nil => intro _; exact Nat.le_refl _
        | cons a r ih =>
          intro h
          have h1 := h a (List.mem_cons_self ..)
          have h2 := ih fun x hx => h x (List.mem_cons_of_mem _ hx)
          rw [List.length_cons, List.sum_cons]
          omega
      have := this ss fun s hs => (pos s hs).1
      omega
    refine lc_list (xs := nI ss) (fun i H' => SameX r H H' ∧ RkI H' r ∧ H' l2 = some (.lst (nI ss)) ∧ ∃ ts vs, H' D = some (.lst vs) ∧ LwA (fun a => H a = none ∧ a ≠ D) H' ts vs ∧ wfs ts ∧ ts.length = i ∧ lvs ts = (ss.take i).sum) ?_ ?_ ?_ ?_
    · refine ⟨sx2.trans (SameX.of (same_new hD)), R2.putN (Ne.symm rD), by rw [upd_ne lD]; exact hl2, [], [], upd_same, LwA.nil, trivial, rfl, rfl⟩
    · rintro i H' _ ⟨_, _, h, _⟩
      exact SqL.of h
    · rintro i x H' hx ⟨s3, R3, hl3, ts, vs, hvs, hA, wts, lts, sts⟩
      have hx2 : ∃ q, ss[i]? = some q ∧ x = V.int (q : Int) := by
        rw [nI, List.getElem?_map] at hx
        obtain ⟨q, hq, e⟩ := Option.map_eq_some_iff.mp hx
        exact ⟨q, hq, e.symm⟩
      obtain ⟨q, hq, rfl⟩ := hx2
      have hqm := pos q (List.mem_of_getElem? hq)
      have hi : i < ss.length := by
        rw [List.getElem?_eq_some_iff] at hq
        exact hq.1
      refine ⟨rfl, _, rfl, _, rfl, (r, q), rfl, R3, hqm.1, by show q ≤ n; omega, fun t v H4 s4 R4 hL wt lt => ?_⟩
      have hD4 := s4 _ _ rD hvs
      have lvl : vs.length = i := by rw [hA.length]; exact lts
      refine ⟨vs, hD4, by omega, (s3.trans s4).putN nD, R4.putN (Ne.symm rD), by rw [upd_ne lD]; exact s4 _ _ rl2 hl3, ts ++ [t], vs ++ [v], upd_same, ?_, ?_, ?_, ?_⟩
      · have a1 : LwA (fun a => H a = none ∧ a ≠ D) H4 ts vs := hA.sameX R3 s4
        have a2 : Lw (fun a => H a = none ∧ a ≠ D) H4 t v := Lw.mono (fun a o f e => ⟨⟨none_of R3 s3 f, fun z => by rw [z, hvs] at f; cases f⟩, e⟩) t v hL
        have a3 := a1.app (LwA.one a2)
        exact LwA.mono (fun a o f e => ⟨f, by rw [upd_ne f.2]; exact e⟩) _ _ a3
      · exact (wfs_iff _).mpr fun x hx => (List.mem_append.mp hx).elim (fun h => (wfs_iff _).mp wts x h) (fun h => by rw [List.mem_singleton.mp h]; exact wt)
      · rw [List.length_append, List.length_singleton, lts]
      · rw [lvs_app, sts, List.take_succ, hq]
        have : lvs [t] = q := by
          have lt : lv t = q := lt
          rw [lvs, lvs, lt]
          rfl
        rw [this, List.sum_append]
        simp
    · rintro H3 ⟨s3, R3, hl3, ts, vs, hvs, hA, wts, lts, sts⟩
      refine ⟨(by show 2 ≤ sizeLine; decide), fun p np => ?_⟩
      have rp : p ≠ r := fun z => by
        obtain ⟨x, y, zz, q⟩ := R3
        rw [z, q] at np
        cases np
      have nP : H p = none := none_of R3 s3 np
      have Dp0 : D ≠ p := ne_of_none hvs np
      have ln : (nI ss).length = ss.length := by rw [nI, List.length_map]
      rw [ln] at lts sts
      rw [List.take_length] at sts
      refine k (.node b ts) (.ref p) _ (s3.trans (SameX.of (same_new np))) (R3.putN (Ne.symm rp)) ?_ ?_ ?_
      · rw [Lw]
        refine ⟨p, D, vs, rfl, nP, nD, upd_same, by rw [upd_ne Dp0]; exact hvs, ?_⟩
        exact LwA.mono (fun a o f e => ⟨f.1, by rw [upd_ne (ne_of_none e np)]; exact e⟩) _ _ hA
      · rw [wf]
        exact ⟨by rw [lts]; exact two, wts⟩
      · show lv (.node b ts) = m
        rw [lv, sts, sum]
end
end Yq

namespace Yq
open PySem PySem.Spec PyProof.Rows L2 SX Tq
abbrev LwT (H : Hp) (t : Tr) (v : V) : Prop := Lw (fun _ => True) H t v
theorem clo_disp (b : Bool) : valV (mergeK [] [((Sum.inr "[" : Key), V.str "]"), ((Sum.inr "(" : Key), V.str ")")]) (Sum.inr (S [oc b])) = some (.str (S [cc b])) := by
  cases b <;> decide +kernel
theorem txs_at {ps : List Tr} {i : Nat} {t : Tr} (h : ps[i]? = some t) : (txs ps).take (i + 1) = (txs ps).take i ++ [tx t] := by
  rw [List.take_succ, txs_map, List.getElem?_map, h]
  rfl
section
variable {P : Program} {w : World} {K : PySem.W.Frag} {mg : Str → Option Value} {base : Heap}
theorem s26 : FnScope ["_law_node", "_law_part"] ["_law_node"] (defScope (top 26)) := (⟨rfl, rfl, rfl, by decide +kernel, rfl, by decide +kernel, by decide +kernel⟩)
abbrev spSd (n : Nat) : Sp := Prx (α := Tr × V) (fun a => [a.2]) (fun a H Q => LwT H a.1 a.2 ∧ wf a.1 ∧ lv a.1 ≤ n ∧ ∀ H', Same H H' → Q (.str (S (tx a.1))) H')
theorem c_sd {n j : Nat} (hn : n ≤ 20) (D : Df K mg "_law_said" (top 26)) (B : Bl w K mg) (CS : 0 < n → Cal P w K mg base j "_law_said" ["_law_node"] (spSd (n - 1))) : Cal P w K mg base (j + 1) "_law_said" ["_law_node"] (spSd n) := by
  refine mkC D s26 (fun _ _ _ _ _ _ us hl => match us, hl with | [_], _ => rfl) (fun _ => rfl) (fun f cdv A outer s H a Q E hr k => ?_)
  obtain ⟨t, v⟩ := a
  obtain ⟨pn, wt, ln, k⟩ := k
  have pn : LwT H t v := pn
  have wt : wf t := wt
  have ln : lv t ≤ n := ln
  have CS := CS (by have := lv_pos t wt; omega)
  have hu1 : (A.deeper (envOfC "_law_said" (defScope (top 26)) s.heap.objs.size f cdv)).units + 1 < cLine := by have := hr.un; omega
  have big : 1000 < sizeLine := by decide
  have big2 : (1000 : Nat) ≤ 16777216 := by decide
  refine ⟨_, pss_cons (ps_if (pt_val (pe_isi (v := .ty "str") (by rfl) B.isinstance_ (pv 0) (by rfl) B.str_ PyProof.Rows.boot_str rfl)) (pss_one (ps_ret (pv 0))) pss_nil)
    (pss_one (ps_ret (pe_op op_add_str (pe_op op_add_str ((pe_ix ix_tup (pv 0) pe_int (fun _ _ => rfl))) (pe_join pe_str
        (pe_lc (own := [("_law_part", 1)]) (g := gName 1) (tt := tYes) (te := tCall (spSd (n - 1)) [] L2.E0 (tCons (tVar 1) tNil)) rfl s26.nd (pi_list ((pe_ix ix_tup (pv 0) pe_int (fun _ _ => rfl))))
          (blkOk_by (N := ["_law_node", "_law_part"]) (sc := defScope (top 26)) (by decide +kernel)) (fun _ _ _ _ _ => (pg_name (i := 1) (FnScope.nd s26) rfl (Or.inl rfl))) (fun _ _ _ _ _ => pts_nil)
          (fun _ _ _ _ _ => pe_cl CS hr (Nat.le_refl _) (pa_cons (pv 1) pa_nil)))))
      (pe_dget hu1 (pe_disp (pps_cons pe_str pe_str (pps_cons pe_str pe_str pps_nil)) rfl rfl (by decide) (by decide)) ((pe_ix ix_tup (pv 0) pe_int (fun _ _ => rfl))) (fun _ _ => rfl))))), ?_⟩
  cases t with
  | leaf b =>
    rw [LwT, Lw] at pn
    subst pn
    refine ⟨_, rfl, _, _, _, _, true, rfl, .ty _, .base (.str _), kit_ty (by decide +kernel), _, rfl, iteT ⟨_, rfl, ?_⟩⟩
    have := k H (Same.refl _)
    rw [tx] at this
    exact this
  | node b ps =>
    have l1 := len_lv _ wt
    rw [LwT, Lw] at pn
    obtain ⟨p, l, vs, rfl, _, _, h1, h2, h3⟩ := pn
    rw [wf] at wt
    rw [lv] at ln
    refine ⟨_, rfl, _, _, _, _, false, rfl, .ty _, .base (.tup h1), kit_ty (by decide +kernel), _, rfl, iteF ?_⟩
    refine ⟨_, rfl, p, _, 0, _, rfl, rfl, SqT.of h1, atI_nat (j := 0) rfl, ⟨_, rfl⟩, _, rfl, p, _, 1, _, rfl, rfl, SqT.of h1, atI_nat (j := 1) rfl, l, rfl, ⟨_, SqL.of h2⟩, fun D hD => ?_⟩
    have fin : ∀ H', Same H H' → H' D = some (.lst (((txs ps).map S).map V.str)) → ∃ a p, ∃ ys : List Str, V.str " " = .str a ∧ [V.ref D] = [.ref p] ∧ (SqL K H' p (ys.map V.str) ∨ SqT K H' p (ys.map V.str)) ∧ (ys.map (·.length)).sum + ys.length * a.length ≤ 16777216 ∧ Txt.join a ys = S (jn (txs ps)) := by
      intro H' s1 hd
      refine ⟨_, D, (txs ps).map S, rfl, rfl, .inl (SqL.of hd), ?_, by rw [s_sp, join_jn]⟩
      have e2 : ∀ zs : List (List Nat), ((zs.map S).map (·.length)).sum + (zs.map S).length = (zs.map (fun x => x.length + 1)).sum := by
        intro zs
        induction zs with
        | nil => rfl
        | cons x r ih =>
          simp only [List.map_cons, List.sum_cons, List.length_cons, ← ih, S_len]
          omega
      have e3 := e2 (txs ps)
      have e4 : (" " : Str).length = 1 := by decide
      have jl := jn_len (txs ps)
      rw [tx, List.length_cons, List.length_append, List.length_singleton, lv] at l1
      rw [e4]
      rcases jl with jl | jl
      · omega
      · rw [jl]
        show 0 ≤ _
        exact Nat.zero_le _
    refine lc_it (walk_list (xs := vs)) (fun i H' => Same H H' ∧ H' D = some (.lst ((((txs ps).take i).map S).map V.str))) ?_ ?_ ?_ ?_
    · exact ⟨same_new hD, upd_same⟩
    · rintro i H' _ ⟨s1, _⟩
      exact SqL.of (s1 _ _ h2)
    · rintro i x H' _ hi ⟨s1, hd⟩ ⟨rfl, hx⟩
      obtain ⟨t, ht, lt⟩ := h3.at hx
      have tm : t ∈ ps := List.mem_of_getElem? ht
      have q3 := lv_part wt.2 wt.1 tm
      refine ⟨rfl, _, rfl, (t, x), rfl, Lw.same s1 lt, (wfs_iff _).mp wt.2 t tm, by show lv t ≤ n - 1; omega, fun H2 s2 => ⟨_, s2 _ _ hd, ?_, same_put (s1.trans s2) hD, ?_⟩⟩
      · have lg := lvs_ge ps wt.2
        have : (txs ps).length = ps.length := by rw [txs_map, List.length_map]
        rw [List.length_map, List.length_map, List.length_take]
        omega
      · refine upd_same.trans ?_
        rw [txs_at ht]
        simp
    · rintro H' ⟨s1, hd⟩
      have e : vs.length = (txs ps).length := by rw [h3.length, txs_map, List.length_map]
      rw [e, List.take_length] at hd
      obtain ⟨a, p', ys, ea, ep, hq, hz, ej⟩ := fin H' s1 hd
      refine ⟨a, p', ys, ea, ep, hq, hz, ?_⟩
      rw [ej]
      refine ⟨_, _, rfl, rfl, ?_, fun dd ndd => ⟨upd_same, [((Sum.inr "[" : Key), V.str "]"), ((Sum.inr "(" : Key), V.str ")")], rfl, (by decide), ?_⟩⟩
      · rw [S_len, S_len, List.length_singleton]
        rw [tx, List.length_cons, List.length_append, List.length_singleton, lv] at l1
        omega
      · have s3 : Same H (upd (upd H' dd (.dK [])) dd (.dK (mergeK [] [((Sum.inr "[" : Key), V.str "]"), ((Sum.inr "(" : Key), V.str ")")]))) := by
          rw [upd_upd]
          exact s1.trans (same_new ndd)
        have dg : DGet (upd (upd H' dd (.dK [])) dd (.dK (mergeK [] [((Sum.inr "[" : Key), V.str "]"), ((Sum.inr "(" : Key), V.str ")")]))) dd (.str (S [oc b])) (some (.str (S [cc b]))) := by
          have q := DGet.k (k := (Sum.inr (S [oc b]) : Key)) (upd_same (H := upd H' dd (.dK [])) (a := dd) (o := .dK (mergeK [] [((Sum.inr "[" : Key), V.str "]"), ((Sum.inr "(" : Key), V.str ")")])))
          rw [clo_disp] at q
          exact q
        refine ⟨_, rfl, p, _, 0, _, rfl, rfl, SqT.of (s3 _ _ h1), atI_nat (j := 0) rfl, dd, _, rfl, dg, _, _, rfl, rfl, ?_, ?_⟩
        · rw [S_cat, S_len, S_len, List.length_append, List.length_singleton, List.length_singleton]
          rw [tx, List.length_cons, List.length_append, List.length_singleton, lv] at l1
          omega
        · rw [S_cat, S_cat]
          have := k _ s3
          rw [tx] at this
          simpa using this
theorem all_sd (D : Df K mg "_law_said" (top 26)) (B : Bl w K mg) : ∀ n, n ≤ 20 → Cal P w K mg base (n + 1) "_law_said" ["_law_node"] (spSd n)
  | 0, h => c_sd (j := 0) h D B (fun z => absurd z (by omega))
  | n + 1, h => c_sd h D B (fun _ => all_sd D B n (by omega))
abbrev nLe : List Str := ["_law_node", "_law_found", "_law_part"]
theorem s27 : FnScope nLe ["_law_node"] (defScope (top 27)) := (⟨rfl, rfl, rfl, by decide +kernel, rfl, by decide +kernel, by decide +kernel⟩)
abbrev spLe (n : Nat) : Sp := Prx (α := Tr × V) (fun a => [a.2]) (fun a H Q => LwT H a.1 a.2 ∧ wf a.1 ∧ lv a.1 ≤ n ∧ ∀ l vs H', Same H H' → H' l = some (.lst vs) → vs.length = lv a.1 → Q (.ref l) H')
theorem c_le {n j : Nat} (hn : n ≤ 20) (D : Df K mg "_law_letters" (top 27)) (B : Bl w K mg) (CS : 0 < n → Cal P w K mg base j "_law_letters" ["_law_node"] (spLe (n - 1))) : Cal P w K mg base (j + 1) "_law_letters" ["_law_node"] (spLe n) := by
  refine mkC D s27 (fun _ _ _ _ _ _ us hl => match us, hl with | [_], _ => rfl) (fun _ => rfl) (fun f cdv A outer s H a Q E hr k => ?_)
  obtain ⟨t, v⟩ := a
  obtain ⟨pn, wt, ln, k⟩ := k
  have pn : LwT H t v := pn
  have wt : wf t := wt
  have ln : lv t ≤ n := ln
  have CS := CS (by have := lv_pos t wt; omega)
  have big : 1000 < sizeLine := by decide
  refine ⟨_, pss_cons (ps_if (pt_val (pe_isi (v := .ty "str") (by rfl) B.isinstance_ (pv 0) (by rfl) B.str_ PyProof.Rows.boot_str rfl)) (pss_one (ps_ret (pe_lst (pa_cons (pv 0) pa_nil)))) pss_nil)
    (pss_cons ((ps_set (i := 1) (FnScope.nd s27) rfl (Or.inl rfl) (pe_lst pa_nil)))
    (pss_cons (ps_for PassesOwn.never rfl (pi_list ((pe_ix ix_tup (pv 0) pe_int (fun _ _ => rfl)))) ((pg_name (i := 2) (FnScope.nd s27) rfl (Or.inl rfl))) (pss_one ((ps_set (i := 1) (FnScope.nd s27) rfl (Or.inl rfl) (pe_op op_cat (pv 1) (pe_cl CS hr (Nat.le_refl _) (pa_cons (pv 2) pa_nil)))))))
    (pss_one (ps_ret (pv 1))))), ?_⟩
  cases t with
  | leaf b =>
    rw [LwT, Lw] at pn
    subst pn
    refine ⟨_, rfl, _, _, _, _, true, rfl, .ty _, .base (.str _), kit_ty (by decide +kernel), _, rfl, iteT ⟨_, rfl, (by show 1 ≤ sizeLine; decide), fun l nl => ?_⟩⟩
    exact k l _ _ (same_new nl) upd_same (by show 1 = lv (.leaf b); rw [lv])
  | node b ps =>
    rw [LwT, Lw] at pn
    obtain ⟨p, l, vs, rfl, _, _, h1, h2, h3⟩ := pn
    rw [wf] at wt
    rw [lv] at ln
    refine ⟨_, rfl, _, _, _, _, false, rfl, .ty _, .base (.tup h1), kit_ty (by decide +kernel), _, rfl, iteF ?_⟩
    refine ⟨by decide, fun l0 nl0 => ?_⟩
    have s0 := same_new (o := .lst []) nl0
    refine ⟨_, rfl, p, _, 1, _, rfl, rfl, SqT.of (s0 _ _ h1), atI_nat (j := 1) rfl, l, rfl, ⟨_, SqL.of (s0 _ _ h2)⟩, for_list (xs := vs) (fun i σ H' => ∃ lf us z2, σ = [some (.ref p), some (.ref lf), z2] ∧ Same H H' ∧ H' lf = some (.lst us) ∧ us.length = lvs (ps.take i))
      ⟨l0, [], none, rfl, s0, upd_same, rfl⟩ ?_ ?_ ?_⟩
    · rintro i σ H' _ ⟨lf, us, z2, rfl, s1, _⟩
      exact SqL.of (s1 _ _ h2)
    · rintro i x σ H' hx ⟨lf, us, z2, rfl, s1, hf, hl⟩
      obtain ⟨t, ht, lt⟩ := h3.at hx
      have tm : t ∈ ps := List.mem_of_getElem? ht
      have q3 := lv_part wt.2 wt.1 tm
      refine ⟨_, rfl, _, rfl, (t, x), rfl, Lw.same s1 lt, (wfs_iff _).mp wt.2 t tm, by show lv t ≤ n - 1; omega, fun l2 ws H2 s2 h4 h5 => ?_⟩
      have h5 : ws.length = lv t := h5
      have le3 : lvs (ps.take i) ≤ lvs ps := by
        have q := lvs_app (ps.take i) (ps.drop i)
        rw [List.take_append_drop] at q
        omega
      refine ⟨lf, l2, us, ws, rfl, rfl, s2 _ _ hf, h4, by omega, fun l3 nl3 => ?_⟩
      refine ⟨l3, us ++ ws, _, rfl, (s1.trans s2).trans (same_new nl3), upd_same, ?_⟩
      rw [List.length_append, hl, h5, List.take_succ, ht, lvs_app]
      show _ = _ + lvs [t]
      rw [lvs, lvs]
      rfl
    · rintro σ H' ⟨lf, us, z2, rfl, s1, hf, hl⟩
      rw [h3.length, List.take_length] at hl
      exact ⟨_, rfl, k lf us H' s1 hf (by show us.length = lv (.node b ps); rw [lv]; exact hl)⟩
theorem all_le (D : Df K mg "_law_letters" (top 27)) (B : Bl w K mg) : ∀ n, n ≤ 20 → Cal P w K mg base (n + 1) "_law_letters" ["_law_node"] (spLe n)
  | 0, h => c_le (j := 0) h D B (fun z => absurd z (by omega))
  | n + 1, h => c_le h D B (fun _ => all_le D B n (by omega))
end
end Yq

/-! flat. -/
namespace Yq
open PySem PySem.Spec PyProof.Rows L2 SX Tq
theorem sqt {K : PySem.W.Frag} {H H' : Hp} {a : Addr} {xs : List V} (e : Same H H') (h : SqT K H a xs) : SqT K H' a xs := by
  rcases h with (h | ⟨o, h⟩) | h
  · exact .inl (.inl (e _ _ h))
  · exact .inl (.inr ⟨o, e _ _ h⟩)
  · exact .inr h
/-- a list of pairs of a text and an index -/
def PrA (H : Hp) : List V → List (List Nat × Nat) → Prop := PySem.W.EachIs (fun x b => ∃ t, x = V.ref t ∧ H t = some (.tup [.str (S b.1), .int ((b.2 : Nat) : Int)]))
theorem PrA.kt {H H' : Hp} {xs : List V} {bs : List (List Nat × Nat)} (k : KT H H') (h : PrA H xs bs) : PrA H' xs bs := PySem.W.EachIs.mono (fun _ _ ⟨t, e, q⟩ => ⟨t, e, k _ _ q⟩) h
theorem each_snoc {α β : Type} {R : α → β → Prop} : ∀ {as : List α} {bs : List β} {a : α} {b : β}, PySem.W.EachIs R as bs → R a b → PySem.W.EachIs R (as ++ [a]) (bs ++ [b])
  | _, _, _, _, .nil, h => .cons h .nil
  | _, _, _, _, .cons x r, h => .cons x (each_snoc r h)
theorem PrA.dp {K : PySem.W.Frag} {H : Hp} {xs : List V} {bs : List (List Nat × Nat)} (h : PrA H xs bs) : PySem.W.EachIs (fun x b => Dp K H x (encP b)) xs bs :=
  PySem.W.EachIs.mono (fun _ _ ⟨t, e, q⟩ => by rw [e]; exact .tup (SqT.of q) (.cons (.str _) (.cons (.int _) .nil))) h
/-- pairs as they are read -/
def PrR (K : PySem.W.Frag) (H : Hp) : List V → List (List Nat × Nat) → Prop := PySem.W.EachIs (fun x b => ∃ t, x = V.ref t ∧ SqT K H t [.str (S b.1), .int ((b.2 : Nat) : Int)])
theorem PrR.of {K : PySem.W.Frag} {H : Hp} {xs : List V} {bs : List (List Nat × Nat)} (h : PySem.W.EachIs (fun x b => Dp K H x (encP b)) xs bs) : PrR K H xs bs := by
  refine PySem.W.EachIs.mono (fun x b d => ?_) h
  have d : Dp K H x (.tuple [.str (S b.1), .int ((b.2 : Nat) : Int)]) := d
  cases d with
  | tup h1 h2 =>
    cases h2 with
    | cons a r =>
      cases r with
      | cons c r =>
        cases r
        cases a
        cases c
        exact ⟨_, rfl, h1⟩
theorem PrR.at {K : PySem.W.Frag} {H : Hp} : ∀ {xs : List V} {bs : List (List Nat × Nat)} {i : Nat} {x : V}, PrR K H xs bs → xs[i]? = some x → ∃ b, bs[i]? = some b ∧ ∃ t, x = V.ref t ∧ SqT K H t [.str (S b.1), .int ((b.2 : Nat) : Int)]
  | _, _, i, x, .nil, e => by cases e
  | _, _, 0, x, .cons h r, e => by
    cases e
    exact ⟨_, rfl, h⟩
  | _, _, i + 1, x, .cons h r, e => PrR.at (i := i) r e
/-- what is sorted -/
def bsOf (qs : List Tr) (n : Nat) : List (List Nat × Nat) := (List.range n).map fun k => (tx (qs.getD k (.leaf true)), k)
theorem bsOf_succ (qs : List Tr) (n : Nat) : bsOf qs (n + 1) = bsOf qs n ++ [(tx (qs.getD n (.leaf true)), n)] := by
  unfold bsOf
  rw [List.range_succ, List.map_append]
  rfl
theorem range_getD (qs : List Tr) : (List.range qs.length).map (fun k => qs.getD k (.leaf true)) = qs := by
  apply List.ext_getElem
  · simp
  · intro i h1 h2
    simp [List.getD, h2]
def srtP (l : List (List Nat × Nat)) : List (List Nat × Nat) := l.mergeSort (PySem.W.dataLe false encP)
theorem srtP_fst {qs : List Tr} {b : List Nat × Nat} (h : b ∈ srtP (bsOf qs qs.length)) : b.1 = tx (qs.getD b.2 (.leaf true)) ∧ b.2 < qs.length := by
  have h2 := (List.mergeSort_perm _ _).mem_iff.mp h
  unfold bsOf at h2
  obtain ⟨k, hk, rfl⟩ := List.mem_map.mp h2
  exact ⟨rfl, List.mem_range.mp hk⟩
def outOf (qs : List Tr) : List Tr := (srtP (bsOf qs qs.length)).map fun b => qs.getD b.2 (.leaf true)
theorem outOf_perm (qs : List Tr) : (outOf qs).Perm qs := by
  have h := (List.mergeSort_perm (bsOf qs qs.length) (PySem.W.dataLe false encP)).map fun b : List Nat × Nat => qs.getD b.2 (.leaf true)
  refine h.trans ?_
  unfold bsOf
  rw [List.map_map]
  have e : ((fun b : List Nat × Nat => qs.getD b.2 (.leaf true)) ∘ fun k => (tx (qs.getD k (.leaf true)), k)) = fun k => qs.getD k (.leaf true) := rfl
  rw [e, range_getD]
theorem outOf_sorted (qs : List Tr) : (txs (outOf qs)).Pairwise (fun x y => le x y = true) := by
  have h := dle_sorted (bsOf qs qs.length)
  have e : txs (outOf qs) = (srtP (bsOf qs qs.length)).map Prod.fst := by
    rw [txs_map]
    unfold outOf
    rw [List.map_map]
    refine List.map_congr_left fun b hb => ?_
    exact (srtP_fst hb).1.symm
  rw [e]
  exact h
theorem srtP_len (qs : List Tr) : (srtP (bsOf qs qs.length)).length = qs.length := by
  unfold srtP bsOf
  simp
section
variable {P : Program} {w : World} {K : PySem.W.Frag} {mg : Str → Option Value} {base : Heap}
abbrev nFl : List Str := ["_law_node", "_law_parts", "_law_part", "_law_fresh", "_law_spots", "_law_k", "_law_said_here"]
theorem s28 : FnScope nFl ["_law_node"] (defScope (top 28)) := (⟨rfl, rfl, rfl, by decide +kernel, rfl, by decide +kernel, by decide +kernel⟩)
abbrev spFl (n : Nat) : Sp := Prx (α := Tr × V) (fun a => [a.2]) (fun a H Q => LwT H a.1 a.2 ∧ wf a.1 ∧ lv a.1 ≤ n ∧ ∀ f v H', Same H H' → LwT H' f v → Sim f a.1 → wf f → pl f → Q v H')
structure FlI (H H' : Hp) (b : Bool) (ps : List Tr) (i : Nat) (lp : Addr) (qs : List Tr) (us : List V) : Prop where
  s : Same H H'
  at_ : H' lp = some (.lst us)
  A : LwA (fun _ => True) H' qs us
  p : (lss qs b).Perm (lss (ps.take i) b)
  l : lvs qs = lvs (ps.take i)
  wf : wfs qs
  pl : pls qs b
  n : i ≤ qs.length
theorem lv_take {ps : List Tr} {i : Nat} : lvs (ps.take i) ≤ lvs ps := by
  have q := lvs_app (ps.take i) (ps.drop i)
  rw [List.take_append_drop] at q
  omega
theorem lv_snoc {ps : List Tr} {i : Nat} {t : Tr} (ht : ps[i]? = some t) : lvs (ps.take (i + 1)) = lvs (ps.take i) + lv t := by
  rw [List.take_succ, ht, lvs_app]
  show _ = _
  have : lvs [t] = lv t := by
    rw [lvs, lvs]
    rfl
  rw [← this]
  rfl
theorem c_fl {n j : Nat} (hn : n ≤ 12) (hj : 13 ≤ j) (D : Df K mg "_law_flat" (top 28)) (B : Bl w K mg) (CD : Cal P w K mg base 13 "_law_said" ["_law_node"] (spSd 12)) (CS : 0 < n → Cal P w K mg base j "_law_flat" ["_law_node"] (spFl (n - 1))) : Cal P w K mg base (j + 1) "_law_flat" ["_law_node"] (spFl n) := by
  refine mkC D s28 (fun _ _ _ _ _ _ us hl => match us, hl with | [_], _ => rfl) (fun _ => rfl) (fun f cdv A outer s H a Q E hr k => ?_)
  obtain ⟨t, v⟩ := a
  obtain ⟨pn, wt, ln, k⟩ := k
  have pn : LwT H t v := pn
  have wt : wf t := wt
  have ln : lv t ≤ n := ln
  have CS := CS (by have := lv_pos t wt; omega)
  have big : 1000 < sizeLine := by decide
  have hu3 : (A.deeper (envOfC "_law_flat" (defScope (top 28)) s.heap.objs.size f cdv)).units + 12 < cLine := by have := hr.un; omega
  refine ⟨_, pss_cons (ps_if (pt_val (pe_isi (v := .ty "str") (by rfl) B.isinstance_ (pv 0) (by rfl) B.str_ PyProof.Rows.boot_str rfl)) (pss_one (ps_ret (pv 0))) pss_nil)
    (pss_cons ((ps_set (i := 1) (FnScope.nd s28) rfl (Or.inr rfl) (pe_lst pa_nil)))
    (pss_cons (ps_for PassesOwn.never rfl (pi_list ((pe_ix ix_tup (pv 0) pe_int (fun _ _ => rfl)))) ((pg_name (i := 2) (FnScope.nd s28) rfl (Or.inl rfl)))
      (pss_cons ((ps_set (i := 3) (FnScope.nd s28) rfl (Or.inl rfl) (pe_cl CS hr (Nat.le_refl _) (pa_cons (pv 2) pa_nil))))
      (pss_one (ps_if (PW.pt (pw_and (pt_not (pt_val (pe_isi (v := .ty "str") (by rfl) B.isinstance_ (pv 3) (by rfl) B.str_ PyProof.Rows.boot_str rfl))) (pw_and1 ((pt_cmpR op_eq ((pe_ix ix_tup (pv 3) pe_int (fun _ _ => rfl))) ((pe_ix ix_tup (pv 0) pe_int (fun _ _ => rfl))) (nomark _))))))
        (pss_one ((ps_set (i := 1) (FnScope.nd s28) rfl (Or.inr rfl) (pe_op op_cat (pv 1) ((pe_ix ix_tup (pv 3) pe_int (fun _ _ => rfl)))))))
        (pss_one ((ps_set (i := 1) (FnScope.nd s28) rfl (Or.inr rfl) (pe_op op_cat (pv 1) (pe_lst (pa_cons (pv 3) pa_nil))))))))))
    (pss_cons ((ps_set (i := 4) (FnScope.nd s28) rfl (Or.inl rfl) (pe_callB (cr_srt (β := List Nat × Nat) (enc := encP) hu3 (fun b c => by simp [PySem.W.alike, PySem.W.alikeAll, encP]) (fun bs => PySem.W.Sortable.tuples (enc := encP) fun b => ⟨_, _, rfl⟩) (fun b => by simp [PyData.depth, PyData.depthAll, encP])) (by rfl) B.sorted_ (by decide +kernel)
        (pa_cons (pe_lc (own := [("_law_k", 5)]) (g := gName 5) (tt := tYes) (te := tTup (tCons (tCall (spSd 12) [] L2.E0 (tCons (tOp (rIxL K) (tVar 1) (tVar 5)) tNil)) (tCons (tVar 5) tNil))) rfl s28.nd (pi_range1 (by rfl) B.range_ (pa_cons ((pe_callB call_len_seq (by rfl) (Bl.len_ B) PySem.boot_len (pa_cons (pv 1) pa_nil))) pa_nil))
          (blkOk_by (N := nFl) (sc := defScope (top 28)) (by decide +kernel)) (fun _ _ _ _ _ => (pg_name (i := 5) (FnScope.nd s28) rfl (Or.inl rfl))) (fun _ _ _ _ _ => pts_nil)
          (fun _ _ _ _ _ => pe_tup (pa_cons (pe_cl CD hr hj (pa_cons ((pe_ix ix_list (pv 1) (pv 5) (fun _ _ => rfl))) pa_nil)) (pa_cons (pv 5) pa_nil)))) pa_nil))))
    (pss_one (ps_ret (pe_tup (pa_cons ((pe_ix ix_tup (pv 0) pe_int (fun _ _ => rfl))) (pa_cons
        (pe_lc (own := [("_law_said_here", 6), ("_law_k", 5)]) (g := gTup K 2 (gCons (gName 6) (gCons (gName 5) gNil))) (tt := tYes) (te := tOp (rIxL K) (tVar 1) (tVar 5)) rfl s28.nd (pi_list (pv 4))
          (blkOk_by (N := nFl) (sc := defScope (top 28)) (by decide +kernel)) (fun _ _ _ _ _ => pg_tup rfl (pgs_cons ((pg_name (i := 6) (FnScope.nd s28) rfl (Or.inl rfl))) (pgs_cons ((pg_name (i := 5) (FnScope.nd s28) rfl (Or.inl rfl))) pgs_nil))) (fun _ _ _ _ _ => pts_nil)
          (fun _ _ _ _ _ => (pe_ix ix_list (pv 1) (pv 5) (fun _ _ => rfl)))) pa_nil)))))))), ?_⟩
  cases t with
  | leaf b =>
    have pn0 := pn
    rw [LwT, Lw] at pn
    subst pn
    refine ⟨_, rfl, _, _, _, _, true, rfl, .ty _, .base (.str _), kit_ty (by decide +kernel), _, rfl, iteT ⟨_, rfl, ?_⟩⟩
    exact k _ _ H (Same.refl _) pn0 (Sim.refl _) wt (by rw [pl]; trivial)
  | node b ps =>
    rw [LwT, Lw] at pn
    obtain ⟨p, l, vs, rfl, _, _, h1, h2, h3⟩ := pn
    have wt0 := wt
    have ln0 := ln
    rw [wf] at wt
    rw [lv] at ln
    refine ⟨_, rfl, _, _, _, _, false, rfl, .ty _, .base (.tup h1), kit_ty (by decide +kernel), _, rfl, iteF ?_⟩
    refine ⟨by decide, fun l0 nl0 => ?_⟩
    have s0 := same_new (o := .lst []) nl0
    refine ⟨_, rfl, p, _, 1, _, rfl, rfl, SqT.of (s0 _ _ h1), atI_nat (j := 1) rfl, l, rfl, ⟨_, SqL.of (s0 _ _ h2)⟩, for_list (xs := vs) (fun i σ H' => ∃ lp qs us z2 z3, σ = [some (.ref p), some (.ref lp), z2, z3, none, none, none] ∧ FlI H H' b ps i lp qs us)
      ⟨l0, [], [], none, none, rfl, ⟨s0, upd_same, LwA.nil, .refl _, rfl, trivial, trivial, Nat.le_refl _⟩⟩ ?_ ?_ ?_⟩
    · rintro i σ H' _ ⟨lp, qs, us, z2, z3, rfl, I⟩
      exact SqL.of (I.s _ _ h2)
    · rintro i x σ H' hx ⟨lp, qs, us, z2, z3, rfl, I⟩
      obtain ⟨t, ht, lt⟩ := h3.at hx
      have tm : t ∈ ps := List.mem_of_getElem? ht
      have q3 := lv_part wt.2 wt.1 tm
      have lvt : lvs (ps.take i) ≤ lvs ps := lv_take
      have Il := I.l
      have ul : us.length = qs.length := I.A.length
      have ql := lvs_ge qs I.wf
      refine ⟨_, rfl, (t, x), rfl, Lw.same I.s lt, (wfs_iff _).mp wt.2 t tm, by show lv t ≤ n - 1; omega, fun fr v2 H2 s2 lf sm wfr plr => ?_⟩
      have sm : Sim fr t := sm
      have at2 := s2 _ _ I.at_
      have A2 : LwA (fun _ => True) H2 qs us := I.A.same s2
      have other : kd fr ≠ some b → ∀ (z2' : Option V), tAsg (tOp rCat (tVar 1) (tLst (tCons (tVar 3) tNil))) (gName 1)
          { nx := fun σ H' => ∃ lp qs us z2 z3, σ = [some (.ref p), some (.ref lp), z2, z3, none, none, none] ∧ FlI H H' b ps (i + 1) lp qs us, rt := Q } [some (.ref p), some (.ref lp), z2', some v2, none, none, none] H2 := by
        intro hk z2'
        refine ⟨_, rfl, _, rfl, (by show 1 ≤ sizeLine; decide), fun l2 nl2 => ⟨lp, l2, us, [v2], rfl, rfl, by rw [upd_ne (ne_of_none at2 nl2)]; exact at2, upd_same, by rw [List.length_singleton]; omega, fun l3 nl3 => ?_⟩⟩
        have s3 := (same_new (o := .lst [v2]) nl2).trans (same_new (o := .lst (us ++ [v2])) nl3)
        refine ⟨l3, qs ++ [fr], us ++ [v2], _, _, rfl, ⟨(I.s.trans s2).trans s3, upd_same, (A2.app (LwA.one lf)).same s3, ?_, ?_, ?_, ?_, ?_⟩⟩
        · rw [lss_app, lss_take b ht]
          have e : lss [fr] b = ls fr b := by rw [lss, lss, List.append_nil]
          rw [e]
          exact I.p.append (sm.ls b)
        · rw [lv_snoc ht, lvs_app, Il]
          have e : lvs [fr] = lv fr := by rw [lvs, lvs]; rfl
          rw [e, sm.lv]
        · exact (wfs_iff _).mpr fun y hy => (List.mem_append.mp hy).elim (fun h => (wfs_iff _).mp I.wf y h) (fun h => by rw [List.mem_singleton.mp h]; exact wfr)
        · exact (pls_iff b _).mpr fun y hy => (List.mem_append.mp hy).elim (fun h => (pls_iff b _).mp I.pl y h) (fun h => by rw [List.mem_singleton.mp h]; exact ⟨plr, hk⟩)
        · have := I.n
          rw [List.length_append, List.length_singleton]
          omega
      cases fr with
      | leaf c =>
        have lf0 := lf
        rw [LwT, Lw] at lf
        subst lf
        refine ⟨_, rfl, _, _, _, _, true, rfl, .ty _, .base (.str _), kit_ty (by decide +kernel), _, rfl, iteF (iteF ?_)⟩
        exact other nofun _
      | node c qs' =>
        have lf0 := lf
        rw [LwT, Lw] at lf
        obtain ⟨p2, l2, vs2, rfl, _, _, f1, f2, f3⟩ := lf
        have wfr0 := wfr
        rw [wf] at wfr
        refine ⟨_, rfl, _, _, _, _, false, rfl, .ty _, .base (.tup f1), kit_ty (by decide +kernel), _, rfl, iteT ?_⟩
        refine ⟨_, rfl, p2, _, 0, _, rfl, rfl, SqT.of f1, atI_nat (j := 0) rfl, _, rfl, p, _, 0, _, rfl, rfl, SqT.of (s2 _ _ (I.s _ _ h1)), atI_nat (j := 0) rfl, by cases b <;> cases c <;> rfl, _, rfl, ?_⟩
        rw [ne_kind]
        by_cases z : c = b
        · subst z
          rw [decide_eq_true rfl]
          have ll : vs2.length = qs'.length := f3.length
          have q1 := lvs_ge qs' wfr.2
          have q2 : lvs qs' = lv t := by
            have := sm.lv
            rw [lv] at this
            exact this
          refine iteT ⟨_, rfl, _, rfl, p2, _, 1, _, rfl, rfl, SqT.of f1, atI_nat (j := 1) rfl, lp, l2, us, vs2, rfl, rfl, at2, f2, by omega, fun l3 nl3 => ?_⟩
          have s3 := same_new (o := .lst (us ++ vs2)) nl3
          rw [pl] at plr
          refine ⟨l3, qs ++ qs', us ++ vs2, _, _, rfl, ⟨(I.s.trans s2).trans s3, upd_same, (A2.app f3).same s3, ?_, ?_, ?_, ?_, ?_⟩⟩
          · rw [lss_app, lss_take c ht]
            have e := sm.ls c
            rw [ls_same] at e
            exact I.p.append e
          · rw [lv_snoc ht, lvs_app, Il, q2]
          · exact (wfs_iff _).mpr fun y hy => (List.mem_append.mp hy).elim (fun h => (wfs_iff _).mp I.wf y h) (fun h => (wfs_iff _).mp wfr.2 y h)
          · exact (pls_iff c _).mpr fun y hy => (List.mem_append.mp hy).elim (fun h => (pls_iff c _).mp I.pl y h) (fun h => (pls_iff c _).mp plr.1 y h)
          · have := I.n
            have := wfr.1
            rw [List.length_append]
            omega
        · rw [decide_eq_false z]
          exact iteF (other (fun q => z (Option.some.inj q)) _)
    · rintro σ H' ⟨lp, qs, us, z2, z3, rfl, I⟩
      have lps : vs.length = ps.length := h3.length
      have pt := I.p
      have plv := I.l
      have pn := I.n
      rw [lps, List.take_length] at pt plv
      rw [lps] at pn
      have ul : us.length = qs.length := I.A.length
      have q12 := lvs_ge qs I.wf
      refine ⟨_, rfl, lp, _, rfl, .inl (SqL.of I.at_), _, rfl, by omega, by omega, fun D hD => ?_⟩
      refine lc_it (walk_range (lo := 0) (n := us.length)) (fun i H2 => Same H' H2 ∧ ∃ ds, H2 D = some (.lst ds) ∧ PrA H2 ds (bsOf qs i) ∧ ds.length = i) ?_ (fun _ _ _ _ => trivial) ?_ ?_
      · exact ⟨same_new hD, [], upd_same, .nil, rfl⟩
      · rintro i x H2 _ hi ⟨s2, ds, hds, pr, dl⟩ ⟨rfl, rfl⟩
        have hu : us[i]? = some us[i] := List.getElem?_eq_getElem hi
        obtain ⟨t, ht, lt⟩ := I.A.at hu
        have tm : t ∈ qs := List.mem_of_getElem? ht
        have wft := (wfs_iff _).mp I.wf t tm
        have lvt : lv t ≤ lvs qs := by
          obtain ⟨a, c, e⟩ := List.append_of_mem tm
          rw [e, lvs_app, lvs]
          omega
        have hgd : qs.getD i (.leaf true) = t := by
          rw [List.getD, ht]
          rfl
        refine ⟨rfl, _, rfl, _, rfl, lp, us, _, us[i], rfl, rfl, SqL.of (s2 _ _ I.at_), (by rw [Int.zero_add]; exact atI_nat hu), (t, us[i]), rfl, Lw.same s2 lt, wft, by show lv t ≤ 12; omega, fun H3 s3 => ⟨_, rfl, (by show 2 ≤ sizeLine; decide), fun tp ntp => ?_⟩⟩
        have hd3 := s3 _ _ hds
        have nDt : D ≠ tp := ne_of_none hd3 ntp
        have s4 := same_new (o := .tup [.str (S (tx t)), .int (0 + (i : Int))]) ntp
        have hd4 : upd H3 tp (.tup [.str (S (tx t)), .int (0 + (i : Int))]) D = some (.lst ds) := s4 _ _ hd3
        refine ⟨ds, hd4, by omega, same_put ((s2.trans s3).trans s4) hD, ds ++ [.ref tp], upd_same, ?_, by rw [List.length_append, List.length_singleton, dl]⟩
        rw [bsOf_succ, hgd]
        refine each_snoc (pr.kt ((KT.of (s3.trans s4)).trans (KT.put hd4))) ⟨tp, rfl, ?_⟩
        rw [upd_ne (Ne.symm nDt)]
        refine upd_same.trans ?_
        show some (HO.tup [V.str (S (tx t)), V.int (0 + (i : Int))]) = some (HO.tup [V.str (S (tx t)), V.int (i : Int)])
        rw [Int.zero_add]
      · rintro H2 ⟨s2, ds, hds, pr, dl⟩
        rw [ul] at pr
        refine ⟨D, ds, bsOf qs qs.length, rfl, SqL.of hds, pr.dp, fun ys p2 he np2 => ?_⟩
        have he := PrR.of he
        have s3 := same_new (o := .lst ys) np2
        have sAll := (I.s.trans s2).trans s3
        have yl : ys.length = qs.length := by
          have q := PySem.W.EachIs.length he
          have q2 := srtP_len qs
          unfold srtP at q2
          omega
        refine ⟨_, rfl, p, _, 0, _, rfl, rfl, SqT.of (sAll _ _ h1), atI_nat (j := 0) rfl, _, rfl, p2, rfl, ⟨_, SqL.of upd_same⟩, fun D2 hD2 => ?_⟩
        refine lc_it (walk_list (xs := ys)) (fun i H4 => Same (upd H2 p2 (.lst ys)) H4 ∧ ∃ ws, H4 D2 = some (.lst ws) ∧ LwA (fun _ => True) H' (((srtP (bsOf qs qs.length)).take i).map fun c => qs.getD c.2 (.leaf true)) ws ∧ ws.length = i) ?_ ?_ ?_ ?_
        · exact ⟨same_new hD2, [], upd_same, LwA.nil, rfl⟩
        · rintro i H4 _ ⟨s4, _⟩
          exact SqL.of (s4 _ _ upd_same)
        · rintro i x H4 _ hi ⟨s4, ws, hws, wA, wl⟩ ⟨rfl, hx⟩
          obtain ⟨c, hc, t2, rfl, ht2⟩ := PrR.at he hx
          have hc2 : (srtP (bsOf qs qs.length))[i]? = some c := hc
          have cm := srtP_fst (List.mem_of_getElem? hc2)
          have hu : us[c.2]? = some (us[c.2]'(by omega)) := List.getElem?_eq_getElem (by omega)
          obtain ⟨t, ht, lt⟩ := I.A.at hu
          have hgd : qs.getD c.2 (.leaf true) = t := by
            rw [List.getD, ht]
            rfl
          have s25 := (s2.trans s3).trans s4
          refine ⟨t2, _, rfl, sqt (s3.trans s4) ht2, rfl, _, _, rfl, _, _, rfl, rfl, rfl, _, rfl, _, rfl, lp, us, _, _, rfl, rfl, SqL.of (s25 _ _ I.at_), atI_nat hu, ws, hws, by omega, same_put s4 hD2, ws ++ [us[c.2]'(by omega)], upd_same, ?_, by rw [List.length_append, List.length_singleton, wl]⟩
          rw [List.take_succ, hc2, List.map_append]
          refine wA.app ?_
          show LwA _ _ [qs.getD c.2 (.leaf true)] _
          rw [hgd]
          exact LwA.one lt
        · rintro H4 ⟨s4, ws, hws, wA, wl⟩
          have tl : (srtP (bsOf qs qs.length)).take ys.length = srtP (bsOf qs qs.length) := by
            rw [yl]
            exact List.take_of_length_le (by rw [srtP_len]; exact Nat.le_refl _)
          rw [tl] at wA
          refine ⟨(by show 2 ≤ sizeLine; decide), fun q nq => ?_⟩
          have nq2 : D2 ≠ q := ne_of_none hws nq
          have s5 := same_new (o := .tup [.str (S [oc b]), .ref D2]) nq
          obtain ⟨r1, r2, r3⟩ := flat_end plv pt I.wf I.pl (by have := wt.1; omega) (outOf_perm qs) (outOf_sorted qs)
          refine k (.node b (outOf qs)) (.ref q) _ ((sAll.trans s4).trans s5) ?_ r1 r2 r3
          rw [LwT, Lw]
          exact ⟨q, D2, ws, rfl, trivial, trivial, upd_same, s5 _ _ hws, wA.same (((s2.trans s3).trans s4).trans s5)⟩
end
end Yq

/-! mixed. -/
namespace Yq
open PySem PySem.Spec PyProof.Rows L2 SX Tq
theorem cut_to {xs : List V} {k : Nat} (h : k ≤ xs.length) : cutV xs none (some (k : Int)) = xs.take k := by
  unfold cutV
  rw [HT.sIx_none, HT.sIx_nat]
  simp [Nat.min_eq_left h]
theorem cut_from {xs : List V} {k : Nat} (h : k ≤ xs.length) : cutV xs (some (k : Int)) none = xs.drop k := by
  unfold cutV
  rw [HT.sIx_none, HT.sIx_nat, Nat.min_eq_left h]
  rw [List.take_of_length_le (by rw [List.length_drop]; exact Nat.le_refl _)]
theorem cut_mid {xs : List V} {k m : Nat} (h : k ≤ m) (h2 : m ≤ xs.length) : cutV xs (some (k : Int)) (some (m : Int)) = (xs.drop k).take (m - k) := by
  unfold cutV
  rw [HT.sIx_nat, HT.sIx_nat, Nat.min_eq_left h2, Nat.min_eq_left (Nat.le_trans h h2)]
/-- the tree with two parts in brackets more -/
theorem mix_sim {b : Bool} {qs : List Tr} {k : Nat} (h : k + 2 ≤ qs.length) (w : wfs qs) :
    lvs (qs.take k ++ [Tr.node b ((qs.drop k).take 2)] ++ qs.drop (k + 2)) = lvs qs ∧ lss (qs.take k ++ [Tr.node b ((qs.drop k).take 2)] ++ qs.drop (k + 2)) b = lss qs b ∧
      wfs (qs.take k ++ [Tr.node b ((qs.drop k).take 2)] ++ qs.drop (k + 2)) ∧ (qs.take k ++ [Tr.node b ((qs.drop k).take 2)] ++ qs.drop (k + 2)).length + 1 = qs.length := by
  have e : qs = qs.take k ++ ((qs.drop k).take 2 ++ qs.drop (k + 2)) := by
    have e2 : qs.drop (k + 2) = (qs.drop k).drop 2 := by rw [List.drop_drop]
    rw [e2, List.take_append_drop, List.take_append_drop]
  have l2 : ((qs.drop k).take 2).length = 2 := by
    rw [List.length_take, List.length_drop]
    omega
  refine ⟨?_, ?_, ?_, ?_⟩
  · conv => rhs; rw [e]
    rw [lvs_app, lvs_app, lvs_app, lvs_app]
    have : lvs [Tr.node b ((qs.drop k).take 2)] = lvs ((qs.drop k).take 2) := by rw [lvs, lvs, lv]; rfl
    omega
  · conv => rhs; rw [e]
    rw [lss_app, lss_app, lss_app, lss_app]
    have : lss [Tr.node b ((qs.drop k).take 2)] b = lss ((qs.drop k).take 2) b := by rw [lss, lss, List.append_nil, ls_same]
    rw [this, List.append_assoc]
  · have wq := (wfs_iff _).mp w
    refine (wfs_iff _).mpr fun t ht => ?_
    rcases List.mem_append.mp ht with ht | ht
    · rcases List.mem_append.mp ht with ht | ht
      · exact wq t (List.mem_of_mem_take ht)
      · rw [List.mem_singleton.mp ht, wf]
        exact ⟨by omega, (wfs_iff _).mpr fun u hu => wq u (List.mem_of_mem_drop (List.mem_of_mem_take hu))⟩
    · exact wq t (List.mem_of_mem_drop ht)
  · rw [List.length_append, List.length_append, List.length_take, List.length_drop, List.length_singleton]
    omega
section
variable {P : Program} {w : World} {K : PySem.W.Frag} {mg : Str → Option Value} {base : Heap}
abbrev nMx : List Str := ["_law_well_here", "_law_node", "_law_parts", "_law_part", "_law_at", "_law_to"]
theorem s29 : FnScope nMx ["_law_well_here", "_law_node"] (defScope (top 29)) := (⟨rfl, rfl, rfl, by decide +kernel, rfl, by decide +kernel, by decide +kernel⟩)
abbrev spMx (n : Nat) : Sp := Prx (α := Addr × Tr × V) (fun a => [.ref a.1, a.2.2]) (fun a H Q => RkI H a.1 ∧ LwT H a.2.1 a.2.2 ∧ wf a.2.1 ∧ lv a.2.1 ≤ n ∧ ∀ m v H', SameX a.1 H H' → RkI H' a.1 → Lw (fun c => H c = none) H' m v → Sim m a.2.1 → wf m → Q v H')
structure MxI (H H' : Hp) (r : Addr) (b : Bool) (ps : List Tr) (i : Nat) (lp : Addr) (qs : List Tr) (us : List V) : Prop where
  s : SameX r H H'
  R : RkI H' r
  ne : lp ≠ r
  nw : H lp = none
  at_ : H' lp = some (.lst us)
  A : LwA (fun c => H c = none ∧ c ≠ lp) H' qs us
  p : (lss qs b).Perm (lss (ps.take i) b)
  l : lvs qs = lvs (ps.take i)
  wf : wfs qs
  n : qs.length = i
theorem rk_new {H : Hp} {r p : Addr} (h : RkI H r) (hp : H p = none) : p ≠ r := fun z => by
  obtain ⟨x, y, zz, q⟩ := h
  rw [z, q] at hp
  cases hp
theorem c_mx {n j : Nat} (hn : n ≤ 12) (hj : 1 ≤ j) (D : Df K mg "_law_mixed" (top 29)) (B : Bl w K mg) (CD : Cal P w K mg base 1 "_law_dip" ["_law_well_here", "_law_many"] spDip) (CM : 0 < n → Cal P w K mg base j "_law_mixed" ["_law_well_here", "_law_node"] (spMx (n - 1))) : Cal P w K mg base (j + 1) "_law_mixed" ["_law_well_here", "_law_node"] (spMx n) := by
  refine mkC D s29 (fun _ _ _ _ _ _ us hl => match us, hl with | [_, _], _ => rfl) (fun _ => rfl) (fun f cdv A outer s H a Q E hr k => ?_)
  obtain ⟨r, t, v⟩ := a
  obtain ⟨hR, pn, wt, ln, k⟩ := k
  have hR : RkI H r := hR
  have pn : LwT H t v := pn
  have wt : wf t := wt
  have ln : lv t ≤ n := ln
  have CM := CM (by have := lv_pos t wt; omega)
  have big : 1000 < sizeLine := by decide
  refine ⟨_, pss_cons (ps_if (pt_val (pe_isi (v := .ty "str") (by rfl) B.isinstance_ (pv 1) (by rfl) B.str_ PyProof.Rows.boot_str rfl)) (pss_one (ps_ret (pv 1))) pss_nil)
    (pss_cons ((ps_set (i := 2) (FnScope.nd s29) rfl (Or.inl rfl) (pe_lst pa_nil)))
    (pss_cons (ps_for PassesOwn.never rfl (pi_list ((pe_ix ix_tup (pv 1) pe_int (fun _ _ => rfl)))) ((pg_name (i := 3) (FnScope.nd s29) rfl (Or.inl rfl)))
      (pss_one (ps_expr (pe_bm PySem.F.plainAttrs_list PySem.F.slot_list_insert PySem.F.type_list_insert mt_insert (pv 2)
        (pa_cons (pe_cl CD hr hj (pa_cons (pv 0) (pa_cons (pe_op op_add ((pe_callB call_len_seq (by rfl) (Bl.len_ B) PySem.boot_len (pa_cons (pv 2) pa_nil))) pe_int) pa_nil))) (pa_cons (pe_cl CM hr (Nat.le_refl _) (pa_cons (pv 0) (pa_cons (pv 3) pa_nil))) pa_nil))))))
    (pss_cons ((ps_set (i := 4) (FnScope.nd s29) rfl (Or.inl rfl) (pe_cl CD hr hj (pa_cons (pv 0) (pa_cons ((pe_callB call_len_seq (by rfl) (Bl.len_ B) PySem.boot_len (pa_cons (pv 2) pa_nil))) pa_nil)))))
    (pss_cons (ps_if (PW.pt (pw_and ((pt_cmpR op_gt ((pe_callB call_len_seq (by rfl) (Bl.len_ B) PySem.boot_len (pa_cons (pv 2) pa_nil))) pe_int (nomark _))) (pw_and1 ((pt_cmpR op_eq (pe_cl CD hr hj (pa_cons (pv 0) (pa_cons pe_int pa_nil))) pe_int (nomark _))))))
        (pss_cons ((ps_set (i := 5) (FnScope.nd s29) rfl (Or.inl rfl) (pe_callB (call_min2 rfl) (by rfl) B.min_ PyProof.Rows.boot_min (pa_cons ((pe_callB call_len_seq (by rfl) (Bl.len_ B) PySem.boot_len (pa_cons (pv 2) pa_nil))) (pa_cons (pe_op op_add (pv 4) pe_int) pa_nil)))))
          (pss_one (ps_if ((pt_cmpR op_eq (pe_op op_sub (pv 5) (pv 4)) pe_int (nomark _)))
            (pss_one ((ps_set (i := 2) (FnScope.nd s29) rfl (Or.inl rfl) (pe_op op_cat (pe_op op_cat (pe_slice sl_list (pv 2) po_none (po_some (pv 4))) (pe_lst (pa_cons (pe_tup (pa_cons ((pe_ix ix_tup (pv 1) pe_int (fun _ _ => rfl))) (pa_cons (pe_slice sl_list (pv 2) (po_some (pv 4)) (po_some (pv 5))) pa_nil))) pa_nil))) (pe_slice sl_list (pv 2) (po_some (pv 5)) po_none))))) pss_nil))) pss_nil)
    (pss_one (ps_ret (pe_tup (pa_cons ((pe_ix ix_tup (pv 1) pe_int (fun _ _ => rfl))) (pa_cons (pv 2) pa_nil))))))))), ?_⟩
  cases t with
  | leaf b =>
    rw [LwT, Lw] at pn
    subst pn
    refine ⟨_, rfl, _, _, _, _, true, rfl, .ty _, .base (.str _), kit_ty (by decide +kernel), _, rfl, iteT ⟨_, rfl, ?_⟩⟩
    exact k (.leaf b) _ H (SameX.of (Same.refl _)) hR (by rw [Lw]) (Sim.refl _) wt
  | node b ps =>
    rw [LwT, Lw] at pn
    obtain ⟨p, l, vs, rfl, _, _, h1, h2, h3⟩ := pn
    have wt0 := wt
    rw [wf] at wt
    rw [lv] at ln
    have pr : p ≠ r := fun z => by
      obtain ⟨x, y, zz, q⟩ := hR
      rw [z, q] at h1
      cases h1
    have lr : l ≠ r := fun z => by
      obtain ⟨x, y, zz, q⟩ := hR
      rw [z, q] at h2
      cases h2
      exact lwA_int h3
    have fin : ∀ (z3 z4 z5 : Option V) (lp : Addr) (qs : List Tr) (us : List V) (H' : Hp), SameX r H H' → RkI H' r → H lp = none → H' lp = some (.lst us) → LwA (fun c => H c = none) H' qs us → Sim (.node b qs) (.node b ps) → wf (.node b qs) →
        tRet (tTup (tCons (tOp (rIxT K) (tVar 1) (tC (.int 0))) (tCons (tVar 2) tNil))) { nx := fun _ H' => Q .non H', rt := Q } [some (.ref r), some (.ref p), some (.ref lp), z3, z4, z5] H' := by
      intro z3 z4 z5 lp qs us H' s1 R1 nlp hlp lA sm wq
      refine ⟨_, rfl, p, _, 0, _, rfl, rfl, SqT.of (s1 _ _ pr h1), atI_nat (j := 0) rfl, _, rfl, (by show 2 ≤ sizeLine; decide), fun q nq => ?_⟩
      have s2 := same_new (o := .tup [.str (S [oc b]), .ref lp]) nq
      refine k (.node b qs) (.ref q) _ (s1.trans (SameX.of s2)) (R1.same s2) ?_ sm wq
      rw [Lw]
      exact ⟨q, lp, us, rfl, none_of R1 s1 nq, nlp, upd_same, s2 _ _ hlp, lA.same s2⟩
    refine ⟨_, rfl, _, _, _, _, false, rfl, .ty _, .base (.tup h1), kit_ty (by decide +kernel), _, rfl, iteF ?_⟩
    refine ⟨by decide, fun l0 nl0 => ?_⟩
    have s0 := same_new (o := .lst []) nl0
    have r0 := rk_new hR nl0
    refine ⟨_, rfl, p, _, 1, _, rfl, rfl, SqT.of (s0 _ _ h1), atI_nat (j := 1) rfl, l, rfl, ⟨_, SqL.of (s0 _ _ h2)⟩, for_list (xs := vs) (fun i σ H' => ∃ lp qs us z3, σ = [some (.ref r), some (.ref p), some (.ref lp), z3, none, none] ∧ MxI H H' r b ps i lp qs us)
      ⟨l0, [], [], none, rfl, ⟨SameX.of s0, hR.same s0, r0, nl0, upd_same, LwA.nil, .refl _, rfl, trivial, rfl⟩⟩ ?_ ?_ ?_⟩
    · rintro i σ H' _ ⟨lp, qs, us, z3, rfl, I⟩
      exact SqL.of (I.s _ _ lr h2)
    · rintro i x σ H' hx ⟨lp, qs, us, z3, rfl, I⟩
      obtain ⟨t, ht, lt⟩ := h3.at hx
      have tm : t ∈ ps := List.mem_of_getElem? ht
      have q3 := lv_part wt.2 wt.1 tm
      have wft := (wfs_iff _).mp wt.2 t tm
      have lvt : lvs (ps.take i) ≤ lvs ps := lv_take
      have Il := I.l
      have ul : us.length = qs.length := I.A.length
      have ql := lvs_ge qs I.wf
      refine ⟨_, rfl, .inl ⟨rfl, _, SqL.of I.at_⟩, _, rfl, _, rfl, lp, _, rfl, .inl (SqL.of I.at_), _, _, rfl, rfl, (r, ((us.length : Nat) : Int) + 1), rfl, I.R, (by show 1 ≤ ((us.length : Nat) : Int) + 1; omega), (by show ((us.length : Nat) : Int) + 1 ≤ 1000; omega), fun z H2 s2 R2 z0 z1 => ?_⟩
      have z1 : z < ((us.length : Nat) : Int) + 1 := z1
      have sx2 := I.s.trans s2
      have at2 := s2 _ _ I.ne I.at_
      refine ⟨_, rfl, _, rfl, (r, t, x), rfl, R2, Lw.sameX hR sx2 lt, wft, by show lv t ≤ n - 1; omega, fun m v2 H3 s3 R3 lm sm wm => ?_⟩
      have sm : Sim m t := sm
      have at3 := s3 _ _ I.ne at2
      refine ⟨lp, us, z, v2, rfl, rfl, at3, by omega, z0, by omega, ?_⟩
      have A3 : LwA (fun c => H c = none ∧ c ≠ lp) H3 qs us := (I.A.sameX I.R s2).sameX R2 s3
      have m3 : Lw (fun c => H c = none ∧ c ≠ lp) H3 m v2 := Lw.mono (fun a o fa e => ⟨⟨none_of R2 sx2 fa, fun zz => by rw [zz, at2] at fa; cases fa⟩, e⟩) m v2 lm
      have A4 := ((A3.take z.toNat).app (LwA.one m3)).app (A3.drop z.toNat)
      have A5 : LwA (fun c => H c = none ∧ c ≠ lp) (upd H3 lp (.lst (us.take z.toNat ++ [v2] ++ us.drop z.toNat))) (qs.take z.toNat ++ [m] ++ qs.drop z.toNat) (us.take z.toNat ++ [v2] ++ us.drop z.toNat) :=
        LwA.mono (fun a o fa e => ⟨fa, by rw [upd_ne fa.2]; exact e⟩) _ _ A4
      have pm : (qs.take z.toNat ++ [m] ++ qs.drop z.toNat).Perm (qs ++ [m]) := by
        have e := List.take_append_drop z.toNat qs
        have h : (qs.take z.toNat ++ ([m] ++ qs.drop z.toNat)).Perm (qs.take z.toNat ++ (qs.drop z.toNat ++ [m])) := List.perm_append_comm.append_left _
        rw [List.append_assoc]
        refine h.trans ?_
        rw [← List.append_assoc, e]
      have em : lss [m] b = ls m b := by rw [lss, lss, List.append_nil]
      have el : lvs [m] = lv m := by rw [lvs, lvs]; rfl
      refine ⟨lp, _, _, _, rfl, ⟨(sx2.trans s3).putN I.nw, R3.putN (Ne.symm I.ne), I.ne, I.nw, upd_same, A5, ?_, ?_, ?_, ?_⟩⟩
      · refine (lss_perm b pm).trans ?_
        rw [lss_app, lss_take b ht, em]
        exact I.p.append (sm.ls b)
      · rw [lvs_perm pm, lvs_app, lv_snoc ht, Il, el, sm.lv]
      · exact (wfs_iff _).mpr fun y hy => (List.mem_append.mp (pm.mem_iff.mp hy)).elim (fun h => (wfs_iff _).mp I.wf y h) (fun h => by rw [List.mem_singleton.mp h]; exact wm)
      · rw [pm.length_eq, List.length_append, List.length_singleton, I.n]
    · rintro σ H' ⟨lp, qs, us, z3, rfl, I⟩
      have lps : vs.length = ps.length := h3.length
      have pp := I.p
      have plv := I.l
      have pnn := I.n
      rw [lps, List.take_length] at pp plv
      rw [lps] at pnn
      have ul : us.length = qs.length := I.A.length
      have q12 := lvs_ge qs I.wf
      have two : 2 ≤ qs.length := by rw [pnn]; exact wt.1
      refine ⟨_, rfl, _, rfl, lp, _, rfl, .inl (SqL.of I.at_), (r, ((us.length : Nat) : Int)), rfl, I.R, (by show 1 ≤ ((us.length : Nat) : Int); omega), (by show ((us.length : Nat) : Int) ≤ 1000; omega), fun z H2 s2 R2 z0 z1 => ?_⟩
      have z1 : z < ((us.length : Nat) : Int) := z1
      have sx2 := I.s.trans s2
      have at2 := s2 _ _ I.ne I.at_
      have A2 : LwA (fun c => H c = none ∧ c ≠ lp) H2 qs us := I.A.sameX I.R s2
      have wq : wf (.node b qs) := by rw [wf]; exact ⟨two, I.wf⟩
      have sm : Sim (.node b qs) (.node b ps) := Sim.nd plv pp
      have A2' : ∀ {H3 : Hp}, SameX r H2 H3 → LwA (fun c => H c = none) H3 qs us := fun {H3} s3 => LwA.mono (fun a o fa e => ⟨fa.1, e⟩) _ _ (A2.sameX R2 s3)
      refine ⟨_, rfl, lp, _, rfl, .inl (SqL.of at2), _, _, rfl, rfl, _, rfl, ite2 (fun hb => ?_) (fun hb => ?_)⟩
      · refine ⟨_, rfl, (r, 2), rfl, R2, (by show (1 : Int) ≤ 2; decide), (by show (2 : Int) ≤ 1000; decide), fun z' H3 s3 R3 _ _ => ⟨rfl, _, rfl, ite2 (fun hb2 => ?_) (fun hb2 => ?_)⟩⟩
        · obtain ⟨kk, rfl⟩ : ∃ kk : Nat, z = (kk : Int) := ⟨z.toNat, by omega⟩
          have at3 := s3 _ _ I.ne at2
          have big2 : 2 < us.length := by
            have q := of_decide_eq_true hb
            omega
          refine ⟨_, rfl, lp, _, rfl, .inl (SqL.of at3), _, rfl, _, _, rfl, rfl, _, _, rfl, ?_⟩
          obtain ⟨T, hT⟩ : ∃ T : Int, T = (if (kk : Int) + 2 < ((us.length : Nat) : Int) then (kk : Int) + 2 else ((us.length : Nat) : Int)) := ⟨_, rfl⟩
          rw [← hT]
          refine ⟨_, rfl, _, rfl, _, _, rfl, rfl, rfl, _, rfl, ?_⟩
          rw [dec_int]
          refine ite2 (fun hb3 => ?_) (fun hb3 => ?_)
          · have hT2 : T - (kk : Int) = 2 := by simpa using hb3
            have hk : kk + 2 ≤ us.length := by
              by_cases q : (kk : Int) + 2 < ((us.length : Nat) : Int)
              · omega
              · rw [if_neg q] at hT
                omega
            have eT : T = ((kk + 2 : Nat) : Int) := by omega
            subst eT
            obtain ⟨ml, mp, mw, mn⟩ := mix_sim (b := b) (k := kk) (qs := qs) (by omega) I.wf
            have sx3 := sx2.trans s3
            refine ⟨_, rfl, _, rfl, _, rfl, lp, _, rfl, SqL.of at3, fun l1 n1 => ?_⟩
            rw [cut_to (by omega)]
            have t1 := same_new (o := .lst (us.take kk)) n1
            refine ⟨_, rfl, p, _, 0, _, rfl, rfl, SqT.of (t1 _ _ (sx3 _ _ pr h1)), atI_nat (j := 0) rfl, _, rfl, _, rfl, _, rfl, _, rfl, _, rfl, lp, _, rfl, SqL.of (t1 _ _ at3), fun l2 n2 => ?_⟩
            rw [cut_mid (by omega) (by omega)]
            have e22 : kk + 2 - kk = 2 := by omega
            rw [e22]
            have t2 := same_new (o := .lst ((us.drop kk).take 2)) n2
            refine ⟨(by show 2 ≤ sizeLine; decide), fun q n3 => ⟨(by show 1 ≤ sizeLine; decide), fun l3 n4 => ?_⟩⟩
            have t3 := same_new (o := .tup [.str (S [oc b]), .ref l2]) n3
            have t4 := same_new (o := .lst [.ref q]) n4
            have lu1 : (us.take kk).length ≤ us.length := by rw [List.length_take]; omega
            have lu2 : (us.drop (kk + 2)).length ≤ us.length := by rw [List.length_drop]; omega
            refine ⟨l1, l3, _, _, rfl, rfl, t4 _ _ (t3 _ _ (t2 _ _ upd_same)), upd_same, by rw [List.length_singleton]; omega, fun l4 n5 => ?_⟩
            have t5 := same_new (o := .lst (us.take kk ++ [.ref q])) n5
            have t15 := (((t1.trans t2).trans t3).trans t4).trans t5
            refine ⟨_, rfl, _, rfl, _, rfl, lp, _, rfl, SqL.of (t15 _ _ at3), fun l5 n6 => ?_⟩
            rw [cut_from (by omega)]
            have t6 := same_new (o := .lst (us.drop (kk + 2))) n6
            refine ⟨l4, l5, _, _, rfl, rfl, t6 _ _ upd_same, upd_same, by rw [List.length_append, List.length_singleton]; omega, fun l6 n7 => ?_⟩
            have t7 := same_new (o := .lst (us.take kk ++ [.ref q] ++ us.drop (kk + 2))) n7
            have t67 := t6.trans t7
            have t17 := t15.trans t67
            have R7 := R3.same t17
            have sx7 := sx3.trans (SameX.of t17)
            have f6 : H l6 = none := by
              refine none_of (R3.same (t15.trans t6)) (sx3.trans (SameX.of (t15.trans t6))) n7
            have fq : H q = none := none_of (R3.same (t1.trans t2)) (sx3.trans (SameX.of (t1.trans t2))) n3
            have f2 : H l2 = none := none_of (R3.same t1) (sx3.trans (SameX.of t1)) n2
            have A7 := (A2' s3).same t17
            refine fin _ _ _ l6 _ _ _ sx7 R7 f6 upd_same ((A7.take kk).app (LwA.one ?_) |>.app (A7.drop (kk + 2))) (Sim.nd (ml.trans plv) (by rw [mp]; exact pp)) ?_
            · rw [Lw]
              exact ⟨q, l2, _, rfl, fq, f2, t67 _ _ (t5 _ _ (t4 _ _ upd_same)), t67 _ _ (t5 _ _ (t4 _ _ (t3 _ _ upd_same))), (A7.drop kk).take 2⟩
            · rw [wf]
              exact ⟨by omega, mw⟩
          · exact fin _ _ _ lp qs us H3 (sx2.trans s3) R3 I.nw at3 (A2' s3) sm wq
        · exact fin _ _ _ lp qs us H3 (sx2.trans s3) R3 I.nw (s3 _ _ I.ne at2) (A2' s3) sm wq
      · exact iteF (fin _ _ _ lp qs us H2 sx2 R2 I.nw at2 (A2' (SameX.of (Same.refl _))) sm wq)
end
end Yq

/-! A call by keyword alone; all levels. -/
namespace Yq
open PySem PySem.Spec PyProof.Rows L2 SX Tq
/-- a def that is called by its one keyword -/
structure CalK (P : Program) (w : World) (K : PySem.W.Frag) (mg : Str → Option Value) (base : Heap) (k : Nat) (x y : Str) (sp : Sp) : Prop where
  ex : ∃ f fd, FnOk P w K mg base L2.CX0 k f fd [y] sp ∧ KBinds K fd [y] [y] (fun us ws => us ++ ws) (fun vs zs => vs ++ zs) ∧ mg x = some (.ref f) ∧ PySem.W.keepIn K (.ref f) = true
section
variable {X : Cx} {k j : Nat} {ps ks : List Str} {sp : Sp} {x y : Str} {p pos : Pos} {kws : List Keyword} {tk : TA}
theorem pe_callK0 {f : Addr} {fd : FuncData} {CX : CXT} {E : XK} {g : List Value → List Value → List Value} {gV : List V → List V → List V} (F : FnOk X.prog X.w X.K X.mg X.base CX k f fd ps sp) (hr : Room k X.A) (hg : Gl X x) (hm : X.mg x = some (.ref f)) (hk : PySem.W.keepIn X.K (.ref f) = true) (hb : KBinds X.K fd ps ks g gV) (hx : Passes CX X E)
    (hkw : PK X kws tk) (hall : (backToKw pos (keywordEach kws X.env)).all (·.1.isSome) = true := by rfl) (hks : (backToKw pos (keywordEach kws X.env)).filterMap (·.1) = ks := by rfl)
    (hdb : (x == ("__debug__" : Str)) = false := by decide)
    (hpl : ((backTo pos (starEach [] X.env)).any (·.1) || (backToKw pos (keywordEach kws X.env)).any (·.1.isNone)) = false := by rfl) :
    PE X (.Call (.Name x p) [] kws pos) (fun σ H Q => tk σ H fun zs H2 => sp (gV [] zs) H2 Q E) := by
  refine ⟨fun pins s σ H Q I h => ?_⟩
  refine wpAny_Call_Name_kw (ld_glob I hg hm ?_ hdb)
  refine PySem.W.callWith_KW0 (h₀ := X.base) I.ok.mod.kin hk hall (thn (hkw.run pos pins s σ H _ I h) fun ws s2 ⟨zs, H2, I2, rz, q2⟩ => ⟨I2.kIn, ?_⟩) hpl
  rw [hks]
  exact run_fnk (us := []) (vs := []) F hr hb hx I2 .nil rz q2
theorem pe_ck (C : CalK X.prog X.w X.K X.mg X.base k x y sp) (hr : Room j X.A) (hkj : k ≤ j) (hkw : PK X kws tk) (hg : Gl X x := by rfl)
    (hall : (backToKw pos (keywordEach kws X.env)).all (·.1.isSome) = true := by rfl) (hks : (backToKw pos (keywordEach kws X.env)).filterMap (·.1) = [y] := by rfl)
    (hdb : (x == ("__debug__" : Str)) = false := by decide)
    (hpl : ((backTo pos (starEach [] X.env)).any (·.1) || (backToKw pos (keywordEach kws X.env)).any (·.1.isNone)) = false := by rfl) :
    PE X (.Call (.Name x p) [] kws pos) (fun σ H Q => tk σ H fun zs H2 => sp ([] ++ zs) H2 Q L2.E0) := by
  obtain ⟨f, fd, F, b, m, kp⟩ := C.ex
  exact pe_callK0 F (hr.mono hkj) hg m kp b L2.pass0 hkw hall hks hdb hpl
theorem mkK {P : Program} {w : World} {K : PySem.W.Frag} {mg : Str → Option Value} {base : Heap} {α : Type} {args : α → List V} {ask : α → Hp → VK → Prop} {N : List Str} {x y : Str} {st : Stmt} {k : Nat}
    (D : Df K mg x st) (S : FnScope N [y] (defScope st))
    (hb : ∀ (kV doc pm : Value) (an : Option Addr) (cdv ct u : Value), bindArgs (PySem.W.fnOf x x (defArgs st) (defBody st) (defScope st) .none kV doc pm an cdv ct) ⟨[u], []⟩ = pure [(y, u)])
    (hb2 : ∀ (kV doc pm : Value) (an : Option Addr) (cdv ct u : Value), bindArgs (PySem.W.fnOf x x (defArgs st) (defBody st) (defScope st) .none kV doc pm an cdv ct) ⟨[], [(y, u)]⟩ = pure [(y, u)])
    (hl : ∀ a : α, (args a).length = 1)
    (h : ∀ (f : Addr) (cdv : Value) (A : Around) (outer : List Env) (s : Shared) (H : Hp) (a : α) (Q : VK) (E : XK), Room k (A.deeper (envOfC x (defScope st) s.heap.objs.size f cdv)) → ask a H Q →
      ∃ t, PSs (cxOf L2.CX0 P w K mg base N x (defScope st) f cdv A outer s H E).nox (defBody st) t ∧ t { nx := fun _ H' => Q .non H', rt := Q } (L2.start N (args a)) H) :
    CalK P w K mg base (k + 1) x y (Prx args ask) := by
  obtain ⟨f, fd, F, m⟩ := D.ex
  refine ⟨f, fd, F.ok S (fun vs H Q E h => ?_) (fun cdv A outer s H vs Q E hr hp => ?_), ?_, m, F.kp⟩
  · obtain ⟨a, rfl, _⟩ := h
    exact hl a
  · obtain ⟨a, rfl, hpre⟩ := hp
    exact h f cdv A outer s H a Q E hr hpre
  · obtain ⟨oc, od, kV, doc, pm, an, cdv, ct, osl, rfl, lk, hcd⟩ := F.ex
    refine ⟨fun s us ws X hlen => ?_, fun r rz => r.append rz⟩
    have two : (us = [] ∧ ∃ u, ws = [u]) ∨ ((∃ u, us = [u]) ∧ ws = []) := by
      match us, ws, hlen with
      | [], [u], _ => exact .inl ⟨rfl, u, rfl⟩
      | [u], [], _ => exact .inr ⟨⟨u, rfl⟩, rfl⟩
    rcases two with ⟨rfl, u, rfl⟩ | ⟨⟨u, rfl⟩, rfl⟩
    · exact BindsTo.of_eq (hb2 kV doc pm an cdv ct u)
    · exact BindsTo.of_eq (hb kV doc pm an cdv ct u)
end
section
variable {P : Program} {w : World} {K : PySem.W.Frag} {mg : Str → Option Value} {base : Heap}
theorem c_plainK (D : Df K mg "plain" (top 19)) (CC : Cal P w K mg base 3 "checked" ["tree"] spNode) (CP : Cal P w K mg base 36 "plain_text" ["node"] (spPT 12)) : CalK P w K mg base 37 "plain" "tree" spPlain := by
  refine mkK D s19 (fun _ _ _ _ _ _ _ => rfl) (fun _ _ _ _ _ _ _ => rfl) (fun _ => rfl) (fun f cdv A outer s H t Q E hr k => ?_)
  obtain ⟨wt, l12, k⟩ := k
  refine ⟨_, pss_one (ps_ret (pe_cl CP hr (by decide) (pa_cons (pe_cl CC hr (by decide) (pa_cons (pv 0) pa_nil)) pa_nil))), ?_⟩
  exact ⟨_, rfl, t, rfl, wt, l12, fun v H' s1 pn => ⟨(t, v), rfl, pn, wt, l12, fun H2 s2 => k _ (s1.trans s2)⟩⟩
theorem all_gr (D : Df K mg "_law_grown" (top 25)) (B : Bl w K mg) (CO : Cal P w K mg base 2 "_law_of" ["_law_well_here", "_law_things"] spOf) (CS : Cal P w K mg base 2 "_law_sizes" ["_law_well_here", "_law_many"] spSi) : ∀ n, n ≤ 12 → Cal P w K mg base (n + 2) "_law_grown" ["_law_well_here", "_law_many"] (spGr n)
  | 0, _ => c_gr0 D
  | n + 1, h => c_gr (j := n + 2) (by omega) (by omega) D B CO CS (all_gr D B CO CS n (by omega))
theorem all_fl (D : Df K mg "_law_flat" (top 28)) (B : Bl w K mg) (CD : Cal P w K mg base 13 "_law_said" ["_law_node"] (spSd 12)) : ∀ n, n ≤ 12 → Cal P w K mg base (n + 14) "_law_flat" ["_law_node"] (spFl n)
  | 0, h => c_fl (j := 13) h (by omega) D B CD (fun z => absurd z (by omega))
  | n + 1, h => c_fl (j := n + 14) h (by omega) D B CD (fun _ => all_fl D B CD n (by omega))
theorem all_mx (D : Df K mg "_law_mixed" (top 29)) (B : Bl w K mg) (CD : Cal P w K mg base 1 "_law_dip" ["_law_well_here", "_law_many"] spDip) : ∀ n, n ≤ 12 → Cal P w K mg base (n + 2) "_law_mixed" ["_law_well_here", "_law_node"] (spMx n)
  | 0, h => c_mx (j := 1) h (by omega) D B CD (fun z => absurd z (by omega))
  | n + 1, h => c_mx (j := n + 2) h (by omega) D B CD (fun _ => all_mx D B CD n (by omega))
theorem jn_all {p : Nat → Bool} (h : p 32 = true) : ∀ l : List (List Nat), (∀ x ∈ l, x.all p = true) → (jn l).all p = true
  | [], _ => rfl
  | [x], hx => by rw [jn]; exact hx x (by simp)
  | x :: y :: r, hx => by
    rw [jn, List.all_append, List.all_cons, h, jn_all h (y :: r) (fun z hz => hx z (List.mem_cons_of_mem _ hz)), hx x (by simp)]
    rfl
theorem tx_all : ∀ (n : Nat) (t : Tr), sizeOf t ≤ n → (tx t).all (fun c => decide (c < 128)) = true := by
  intro n
  induction n with
  | zero =>
    intro t h
    cases t <;> simp at h
  | succ n ih =>
    intro t h
    cases t with
    | leaf b => cases b <;> rfl
    | node b ps =>
      rw [tx, List.all_cons, List.all_append, jn_all (by decide) _ (fun x hx => ?_)]
      · cases b <;> rfl
      · rw [txs_map] at hx
        obtain ⟨t, ht, rfl⟩ := List.mem_map.mp hx
        refine ih t ?_
        have := List.sizeOf_lt_of_mem ht
        simp at h
        omega
theorem ok_S {l : List Nat} (h : l.all (fun c => decide (c < 128)) = true) : PyData.canLay0 (.str (S l)) = true := by
  show (S l).cps.all (fun c => decide (c < 0x110000)) = true
  rw [List.all_toArray]
  refine List.all_eq_true.mpr fun c hc => ?_
  have := of_decide_eq_true (List.all_eq_true.mp h c hc)
  exact decide_eq_true (by omega)
theorem sh_texts {l : List Nat} (n : Nat) (h : l.all (fun c => decide (c < 128)) = true) : SeqAt.shaped (.list (List.replicate n (.str (S l)))) = true := by
  have e1 : PyData.canLayAll0 (List.replicate n (.str (S l))) = true := by
    induction n with
    | zero => rfl
    | succ n ih =>
      show (PyData.canLay0 (.str (S l)) && PyData.canLayAll0 (List.replicate n (.str (S l)))) = true
      rw [ih, ok_S h]
      rfl
  have e2 : ∀ n, PyData.depthAll (List.replicate n (.str (S l))) = 0 := by
    intro n
    induction n with
    | zero => rfl
    | succ n ih =>
      simp only [List.replicate_succ, PyData.depthAll, PyData.depth, ih]
      rfl
  unfold SeqAt.shaped
  rw [Bool.and_eq_true]
  refine ⟨e1, decide_eq_true ?_⟩
  simp only [PyData.depth, e2]
  decide
abbrev nRi : List Str := ["_law_well_here", "_law_turn", "_law_node", "_law_due", "_law_came"]
theorem s30 : FnScope nRi ["_law_well_here"] (defScope (top 30)) := (⟨rfl, rfl, rfl, by decide +kernel, rfl, by decide +kernel, by decide +kernel⟩)
abbrev spRi : Sp := Prx (α := Addr) (fun r => [.ref r]) (fun r H Q => RkI H r ∧ ∀ H', SameX r H H' → RkI H' r → Q (.bl true) H')
structure Us (P : Program) (w : World) (K : PySem.W.Frag) (mg : Str → Option Value) (base : Heap) : Prop where
  B : Bl w K mg
  dip : Cal P w K mg base 1 "_law_dip" ["_law_well_here", "_law_many"] spDip
  gr : Cal P w K mg base 14 "_law_grown" ["_law_well_here", "_law_many"] (spGr 12)
  sd : Cal P w K mg base 13 "_law_said" ["_law_node"] (spSd 12)
  le : Cal P w K mg base 13 "_law_letters" ["_law_node"] (spLe 12)
  fl : Cal P w K mg base 26 "_law_flat" ["_law_node"] (spFl 12)
  mx : Cal P w K mg base 14 "_law_mixed" ["_law_well_here", "_law_node"] (spMx 12)
  plain : Cal P w K mg base 37 "plain" ["tree"] spPlain
  plainK : CalK P w K mg base 37 "plain" "tree" spPlain
  panes : Cal P w K mg base 4 "panes_of" ["tree"] spPanes
theorem c_ri (D : Df K mg "_law_right" (top 30)) (U : Us P w K mg base) : Cal P w K mg base 38 "_law_right" ["_law_well_here"] spRi := by
  refine mkC D s30 (fun _ _ _ _ _ _ us hl => match us, hl with | [_], _ => rfl) (fun _ => rfl) (fun f cdv A outer s H r Q E hr k => ?_)
  obtain ⟨hR, k⟩ := k
  have hu2 : (A.deeper (envOfC "_law_right" (defScope (top 30)) s.heap.objs.size f cdv)).units + 64 < cLine := by have := hr.un; omega
  have B := U.B
  refine ⟨_, pss_cons (ps_for PassesOwn.never rfl (pi_range1 (by rfl) B.range_ (pa_cons pe_int pa_nil)) ((pg_name (i := 1) (FnScope.nd s30) rfl (Or.inl rfl)))
      (pss_cons ((ps_set (i := 2) (FnScope.nd s30) rfl (Or.inl rfl) (pe_cl U.gr hr (by decide) (pa_cons (pv 0) (pa_cons (pe_op op_add pe_int (pe_cl U.dip hr (by decide) (pa_cons (pv 0) (pa_cons pe_int pa_nil)))) pa_nil)))))
      (pss_cons ((ps_set (i := 3) (FnScope.nd s30) rfl (Or.inl rfl) (pe_cl U.sd hr (by decide) (pa_cons (pe_cl U.fl hr (by decide) (pa_cons (pv 2) pa_nil)) pa_nil))))
      (pss_cons ((ps_set (i := 4) (FnScope.nd s30) rfl (Or.inl rfl) (pe_lst (pa_cons (pe_cl U.plain hr (by decide) (pa_cons (pe_cl U.sd hr (by decide) (pa_cons (pv 2) pa_nil)) pa_nil))
          (pa_cons (pe_ck U.plainK hr (by decide) (pk_cons (pe_cl U.sd hr (by decide) (pa_cons (pv 2) pa_nil)) pk_nil))
          (pa_cons (pe_cl U.plain hr (by decide) (pa_cons (pv 3) pa_nil))
          (pa_cons (pe_cl U.plain hr (by decide) (pa_cons (pe_cl U.sd hr (by decide) (pa_cons (pe_cl U.mx hr (by decide) (pa_cons (pv 0) (pa_cons (pv 2) pa_nil))) pa_nil)) pa_nil)) pa_nil)))))))
      (pss_one (ps_if (PW.pt (pw_or (pt_cmpR (op_neD hu2) (pv 4) (pe_op op_rep (pe_lst (pa_cons (pv 3) pa_nil)) pe_int) (nomark _)) (pw_or1 ((pt_cmpR op_ne (pe_cl U.panes hr (by decide) (pa_cons (pv 3) pa_nil)) ((pe_callB call_len_seq (by rfl) (Bl.len_ B) PySem.boot_len (pa_cons (pe_cl U.le hr (by decide) (pa_cons (pv 2) pa_nil)) pa_nil))) (nomark _))))))
        pss_nv pss_nil))))))
    (pss_one (ps_ret pe_bl)), ?_⟩
  have e0 : L2.start nRi [V.ref r] = [some (.ref r), none, none, none, none] := rfl
  rw [e0]
  refine ⟨8, rfl, by decide, by decide, for_range (n := 8) (fun i σ H' => ∃ z1 z2 z3 z4 : Option V, σ = [some (.ref r), z1, z2, z3, z4] ∧ SameX r H H' ∧ RkI H' r) ⟨none, none, none, none, rfl, SameX.of (Same.refl _), hR⟩ ?_ ?_⟩
  · rintro i σ H0 hi ⟨z1, z2, z3, z4, rfl, sx0, R0⟩
    refine ⟨_, rfl, _, rfl, (r, 12), rfl, R0, (by show (1 : Int) ≤ 12; decide), (by show (12 : Int) ≤ 1000; decide), fun n H1 s1 R1 n0 n1 => ⟨_, _, rfl, rfl, ?_⟩⟩
    have n1 : n < 12 := n1
    obtain ⟨m, em⟩ : ∃ m : Nat, (1 : Int) + n = (m : Int) := ⟨(1 + n).toNat, by omega⟩
    refine ⟨(r, m), (by show [V.ref r, V.int (1 + n)] = [V.ref r, V.int ((m : Nat) : Int)]; rw [em]), R1, (by show 1 ≤ m; omega), (by show m ≤ 12; omega), fun t v H2 s2 R2 lw wt lt => ?_⟩
    have lt : lv t = m := lt
    have l12 : lv t ≤ 12 := by omega
    have lw2 : LwT H2 t v := Lw.mono (fun a o _ e => ⟨trivial, e⟩) t v lw
    refine ⟨_, rfl, (t, v), rfl, lw2, wt, l12, fun fr v2 H3 s3 lf sm wfr plr => ⟨(fr, v2), rfl, lf, wfr, ?_, fun H4 s4 => ?_⟩⟩
    · show lv fr ≤ 12
      rw [sm.lv]
      exact l12
    have sm : Sim fr t := sm
    have lf12 : lv fr ≤ 12 := by rw [sm.lv]; exact l12
    have due : tx fr = pt t := by rw [← pl_pt fr plr, sm.pt]
    have s35 := s3.trans s4
    refine ⟨_, rfl, (t, v), rfl, Lw.same s35 lw2, wt, l12, fun H5 s5 => ⟨t, rfl, wt, l12, fun H6 s6 => ?_⟩⟩
    have s37 := (s35.trans s5).trans s6
    refine ⟨_, rfl, (t, v), rfl, Lw.same s37 lw2, wt, l12, fun H7 s7 => ⟨t, rfl, wt, l12, fun H8 s8 => ?_⟩⟩
    have s39 := (s37.trans s7).trans s8
    refine ⟨_, rfl, fr, rfl, wfr, lf12, fun H9 s9 => ?_⟩
    have s40 := s39.trans s9
    have R9 := R2.same s40
    refine ⟨_, rfl, _, rfl, (r, t, v), rfl, R9, Lw.same s40 lw2, wt, l12, fun mm v3 H10 s10 R10 lm smm wm => ?_⟩
    have smm : Sim mm t := smm
    have lm12 : lv mm ≤ 12 := by rw [smm.lv]; exact l12
    refine ⟨(mm, v3), rfl, Lw.mono (fun a o _ e => ⟨trivial, e⟩) mm v3 lm, wm, lm12, fun H11 s12 => ⟨mm, rfl, wm, lm12, fun H12 s13 => ⟨(by show 4 ≤ sizeLine; decide), fun l nl => ?_⟩⟩⟩
    have eP1 : pt fr = tx fr := pl_pt fr plr
    have eP2 : pt t = tx fr := due.symm
    have eP3 : pt mm = tx fr := by rw [smm.pt, eP2]
    refine ⟨_, rfl, _, rfl, (by show 1 ≤ sizeLine; decide), fun l1 n1 => ⟨l1, 4, [.str (S (tx fr))], rfl, rfl, upd_same, by decide, by decide, (by show 4 ≤ sizeLine; decide), fun l2 n2 => ?_⟩⟩
    have t1 := same_new (o := .lst [.str (S (tx fr))]) n1
    have t2 := same_new (o := .lst (List.replicate (4 : Int).toNat [V.str (S (tx fr))]).flatten) n2
    have sh := sh_texts 4 (tx_all _ fr (Nat.le_refl _))
    have d1 : Dp K (upd (upd (upd H12 l (.lst [.str (S (pt t)), .str (S (pt t)), .str (S (pt fr)), .str (S (pt mm))])) l1 (.lst [.str (S (tx fr))])) l2 (.lst (List.replicate (4 : Int).toNat [V.str (S (tx fr))]).flatten)) (.ref l) (.list (List.replicate 4 (.str (S (tx fr))))) := by
      have q := t2 _ _ (t1 _ _ (upd_same (H := H12) (a := l) (o := .lst [.str (S (pt t)), .str (S (pt t)), .str (S (pt fr)), .str (S (pt mm))])))
      rw [eP1, eP2, eP3] at q ⊢
      exact .lst (SqL.of q) (.cons (.str _) (.cons (.str _) (.cons (.str _) (.cons (.str _) .nil))))
    have d2 : Dp K (upd (upd (upd H12 l (.lst [.str (S (pt t)), .str (S (pt t)), .str (S (pt fr)), .str (S (pt mm))])) l1 (.lst [.str (S (tx fr))])) l2 (.lst (List.replicate (4 : Int).toNat [V.str (S (tx fr))]).flatten)) (.ref l2) (.list (List.replicate 4 (.str (S (tx fr))))) :=
      .lst (SqL.of upd_same) (.cons (.str _) (.cons (.str _) (.cons (.str _) (.cons (.str _) .nil))))
    refine ⟨_, _, d1, d2, sh, sh, _, rfl, ?_⟩
    rw [PySem.SeqAt.eqv_refl _ (SeqAt.canLay_of_shaped sh)]
    have s12A : SameX r H2 H12 := ((SameX.of s40).trans s10).trans ((SameX.of s12).trans (SameX.of s13))
    have t0 := same_new (o := .lst [.str (S (pt t)), .str (S (pt t)), .str (S (pt fr)), .str (S (pt mm))]) nl
    have t02 := (t0.trans t1).trans t2
    have sxA : SameX r H2 (upd (upd (upd H12 l (.lst [.str (S (pt t)), .str (S (pt t)), .str (S (pt fr)), .str (S (pt mm))])) l1 (.lst [.str (S (tx fr))])) l2 (.lst (List.replicate (4 : Int).toNat [V.str (S (tx fr))]).flatten)) := s12A.trans (SameX.of t02)
    have R12 := (R10.same (s12.trans s13)).same t02
    generalize upd (upd (upd H12 l (.lst [.str (S (pt t)), .str (S (pt t)), .str (S (pt fr)), .str (S (pt mm))])) l1 (.lst [.str (S (tx fr))])) l2 (.lst (List.replicate (4 : Int).toNat [V.str (S (tx fr))]).flatten) = H13 at sxA R12 ⊢
    refine iteF ⟨_, rfl, fr, rfl, wfr, lf12, fun H14 s15 => ⟨_, rfl, (t, v), rfl, Lw.same s15 (Lw.sameX R2 sxA lw2), wt, l12, fun l5 vs H15 s16 hl5 hlen => ⟨l5, _, rfl, .inl (SqL.of hl5), rfl, _, rfl, ?_⟩⟩⟩
    have hlen : vs.length = lv t := hlen
    rw [decide_eq_true (show V.int ((lv fr : Nat) : Int) = V.int ((vs.length : Nat) : Int) by rw [hlen, sm.lv])]
    refine iteF ⟨_, _, _, _, rfl, ?_, (R12.same s15).same s16⟩
    exact (((sx0.trans s1).trans s2).trans sxA).trans ((SameX.of s15).trans (SameX.of s16))
  · rintro σ H' ⟨z1, z2, z3, z4, rfl, sx, R⟩
    exact k _ sx R
end
end Yq

namespace Yq
open PySem PySem.Spec PyProof.Rows L2 SX Tq
section
variable {P : Program} {w : World} {K : PySem.W.Frag} {mg : Str → Option Value} {base : Heap}
abbrev nLaw : List Str := ["_law_script", "_law_k"]
theorem s31 : FnScope nLaw ["_law_script"] (defScope (top 31)) := (⟨rfl, rfl, rfl, by decide +kernel, rfl, by decide +kernel, by decide +kernel⟩)
abbrev spLaw (K : PySem.W.Frag) : Sp := Prx (α := Addr × List Int) (fun a => [.ref a.1]) (fun a H Q => SqL K H a.1 (a.2.map V.int) ∧ a.2.length ≤ 63 ∧ ∀ H', Q (.bl true) H')
theorem all_true (n : Nat) : (List.replicate n true).all id = true := by
  induction n with
  | zero => rfl
  | succ n ih => rw [List.replicate_succ, List.all_cons, ih]; rfl
theorem c_law (D : Df K mg "law" (top 31)) (B : Bl w K mg) (CR : Cal P w K mg base 38 "_law_right" ["_law_well_here"] spRi) (CW : Cal P w K mg base 1 "_law_well" ["_law_script", "_law_k"] (spWell K)) : Cal P w K mg base 39 "law" ["_law_script"] (spLaw K) := by
  refine mkC D s31 (fun _ _ _ _ _ _ us hl => match us, hl with | [_], _ => rfl) (fun _ => rfl) (fun f cdv A outer s H a Q E hr k => ?_)
  obtain ⟨a, ns⟩ := a
  obtain ⟨hS, hlen, k⟩ := k
  have hS : SqL K H a (ns.map V.int) := hS
  have hlen : ns.length ≤ 63 := hlen
  have big : 1000 < sizeLine := by decide
  refine ⟨_, pss_one (ps_ret (pe_callB (cr_all rfl) (by rfl) B.all_ PyProof.Rows.boot_all (pa_cons
      (pe_lc (own := [("_law_k", 1)]) (g := gName 1) (tt := tYes) (te := tCall spRi [] L2.E0 (tCons (tCall (spWell K) [] L2.E0 (tCons (tVar 0) (tCons (tVar 1) tNil))) tNil)) rfl s31.nd
        (pi_range1 (by rfl) B.range_ (pa_cons (pe_callB (call_max2 rfl) (by rfl) B.max_ PyProof.Rows.boot_max (pa_cons pe_int (pa_cons (pe_callB (call_min2 rfl) (by rfl) B.min_ PyProof.Rows.boot_min
          (pa_cons ((pe_callB call_len_seq (by rfl) (Bl.len_ B) PySem.boot_len (pa_cons (pv 0) pa_nil))) (pa_cons pe_int pa_nil))) pa_nil))) pa_nil))
        (blkOk_by (N := nLaw) (sc := defScope (top 31)) (by decide +kernel)) (fun _ _ _ _ _ => (pg_name (i := 1) (FnScope.nd s31) rfl (Or.inl rfl))) (fun _ _ _ _ _ => pts_nil)
        (fun _ _ _ _ _ => pe_cl CR hr (by decide) (pa_cons (pe_cl CW hr (by decide) (pa_cons (pv 0) (pa_cons (pv 1) pa_nil))) pa_nil))) pa_nil))), ?_⟩
  have e0 : L2.start nLaw [V.ref a] = [some (.ref a), none] := rfl
  rw [e0]
  have mn : -(2 ^ 62) ≤ (if (if (6 : Int) < (((ns.map V.int).length : Nat) : Int) then 6 else (((ns.map V.int).length : Nat) : Int)) > 2 then (if (6 : Int) < (((ns.map V.int).length : Nat) : Int) then 6 else (((ns.map V.int).length : Nat) : Int)) else 2) ∧
      (if (if (6 : Int) < (((ns.map V.int).length : Nat) : Int) then 6 else (((ns.map V.int).length : Nat) : Int)) > 2 then (if (6 : Int) < (((ns.map V.int).length : Nat) : Int) then 6 else (((ns.map V.int).length : Nat) : Int)) else 2) < 2 ^ 62 ∧
      (if (if (6 : Int) < (((ns.map V.int).length : Nat) : Int) then 6 else (((ns.map V.int).length : Nat) : Int)) > 2 then (if (6 : Int) < (((ns.map V.int).length : Nat) : Int) then 6 else (((ns.map V.int).length : Nat) : Int)) else 2).toNat ≤ 6 := by
    rw [List.length_map]
    refine ⟨?_, ?_, ?_⟩ <;> (split <;> split <;> omega)
  refine ⟨_, rfl, a, _, rfl, .inl hS, _, _, rfl, _, _, rfl, _, rfl, mn.1, mn.2.1, fun D hD => ?_⟩
  refine lc_range (fun i H' => Same H H' ∧ H' D = some (.lst ((List.replicate i true).map V.bl))) ⟨same_new hD, upd_same⟩ (fun i H' hi e => ?_) (fun H' e => ?_)
  · obtain ⟨sT, hDl⟩ := e
    refine ⟨rfl, ?_⟩
    simp only [tYes, if_true]
    refine ⟨_, rfl, _, rfl, (a, ns, i), (by show [V.ref a, V.int (0 + (i : Int))] = [V.ref a, V.int (i : Int)]; rw [Int.zero_add]), sT.seq hS, hlen, fun p H2 k2 hp hr2 => ?_⟩
    refine ⟨p, rfl, hr2, fun H3 k3 _ => ?_⟩
    have k4 : Same H' H3 := fun b o e => k3 b o (fun z => by rw [z, hp] at e; cases e) (k2 b o e)
    refine ⟨_, k4 _ _ hDl, ?_, ?_, ?_⟩
    · rw [List.length_map, List.length_replicate]
      exact Nat.lt_of_lt_of_le hi (Nat.le_trans mn.2.2 (by decide))
    · refine fun b o e => ?_
      rw [upd_ne (ne_of_none e hD)]
      exact k4 _ _ (sT _ _ e)
    · rw [upd_same, List.replicate_succ', List.map_append]
      rfl
  · obtain ⟨sT, hDl⟩ := e
    refine ⟨D, _, rfl, SqL.of hDl, ?_⟩
    rw [all_true]
    exact k _
/-- all defs where they stand -/
structure Ds (K : PySem.W.Frag) (mg : Str → Option Value) : Prop where
  d10 : Df K mg "checked" (top 10)
  d11 : Df K mg "told_node" (top 11)
  d12 : Df K mg "leaves_in" (top 12)
  d13 : Df K mg "node_of" (top 13)
  d14 : Df K mg "bracketed" (top 14)
  d15 : Df K mg "plain_text" (top 15)
  d16 : Df K mg "loose_texts" (top 16)
  d18 : Df K mg "panes_of" (top 18)
  d19 : Df K mg "plain" (top 19)
  d21 : Df K mg "_law_well" (top 21)
  d22 : Df K mg "_law_dip" (top 22)
  d23 : Df K mg "_law_of" (top 23)
  d24 : Df K mg "_law_sizes" (top 24)
  d25 : Df K mg "_law_grown" (top 25)
  d26 : Df K mg "_law_said" (top 26)
  d27 : Df K mg "_law_letters" (top 27)
  d28 : Df K mg "_law_flat" (top 28)
  d29 : Df K mg "_law_mixed" (top 29)
  d30 : Df K mg "_law_right" (top 30)
  d31 : Df K mg "law" (top 31)
theorem law_all (D : Ds K mg) (B : Bl w K mg) : Cal P w K mg base 39 "law" ["_law_script"] (spLaw K) := by
  have leaves := c_leaves (P := P) (base := base) D.d12 B
  have node := c_node (P := P) (base := base) D.d13 B
  have br := c_br (P := P) (base := base) D.d14 B
  have told := c_told D.d11 B leaves node
  have chk := c_checked D.d10 told
  have pt := c_plain36 D.d16 D.d15 B br
  have panes := c_panes D.d18 chk leaves
  have plain := c_plain D.d19 chk pt
  have plainK := c_plainK D.d19 chk pt
  have well := c_well (P := P) (base := base) D.d21 B
  have dip := c_dip (P := P) (base := base) D.d22 B
  have of := c_of D.d23 B dip
  have si := c_si D.d24 B dip
  have gr := all_gr D.d25 B of si 12 (by omega)
  have sd := all_sd (P := P) (base := base) D.d26 B 12 (by omega)
  have le := all_le (P := P) (base := base) D.d27 B 12 (by omega)
  have fl := all_fl D.d28 B sd 12 (by omega)
  have mx := all_mx D.d29 B dip 12 (by omega)
  have ri := c_ri D.d30 ⟨B, dip, gr, sd, le, fl, mx, plain, plainK, panes⟩
  exact c_law D.d31 B ri well
end
end Yq

/-! Where all stands behind the top; the end. -/
namespace Yq
open PySem PySem.Spec PyProof.Rows L2 SX Tq
noncomputable abbrev HK (p : Params) : PySem.W.Frag := hd43.heap_39 p
section
variable {p : Params} {mg : Str → Option Value} {h : Heap}
theorem fd10 (p : Params) : ∃ fd, Fun (HK p) "checked" "checked" (top 10) 54 fd := by
  refine ⟨?fd, ⟨⟨?a1, ?a2, ?a3, ?a4, ?a5, ?a6, ?a7, ?a8, ?a9, ?e1, ?e2, ?e3⟩, ?e4⟩⟩
  case e1 => exact rfl
  case e2 => exact rfl
  case e3 => kernel_rfl
  case e4 => kernel_rfl
theorem df10 (X : (HK p).In h) (G : h.Ns mainGlobals mg) : Df (HK p) mg "checked" (top 10) := by
  obtain ⟨fd, F⟩ := fd10 p
  exact ⟨54, fd, F, PySem.W.mg_of X G (by kernel_rfl)⟩
theorem fd11 (p : Params) : ∃ fd, Fun (HK p) "told_node" "told_node" (top 11) 61 fd := by
  refine ⟨?fd, ⟨⟨?a1, ?a2, ?a3, ?a4, ?a5, ?a6, ?a7, ?a8, ?a9, ?e1, ?e2, ?e3⟩, ?e4⟩⟩
  case e1 => exact rfl
  case e2 => exact rfl
  case e3 => kernel_rfl
  case e4 => kernel_rfl
theorem df11 (X : (HK p).In h) (G : h.Ns mainGlobals mg) : Df (HK p) mg "told_node" (top 11) := by
  obtain ⟨fd, F⟩ := fd11 p
  exact ⟨61, fd, F, PySem.W.mg_of X G (by kernel_rfl)⟩
theorem fd12 (p : Params) : ∃ fd, Fun (HK p) "leaves_in" "leaves_in" (top 12) 68 fd := by
  refine ⟨?fd, ⟨⟨?a1, ?a2, ?a3, ?a4, ?a5, ?a6, ?a7, ?a8, ?a9, ?e1, ?e2, ?e3⟩, ?e4⟩⟩
  case e1 => exact rfl
  case e2 => exact rfl
  case e3 => kernel_rfl
  case e4 => kernel_rfl
theorem df12 (X : (HK p).In h) (G : h.Ns mainGlobals mg) : Df (HK p) mg "leaves_in" (top 12) := by
  obtain ⟨fd, F⟩ := fd12 p
  exact ⟨68, fd, F, PySem.W.mg_of X G (by kernel_rfl)⟩
theorem fd13 (p : Params) : ∃ fd, Fun (HK p) "node_of" "node_of" (top 13) 75 fd := by
  refine ⟨?fd, ⟨⟨?a1, ?a2, ?a3, ?a4, ?a5, ?a6, ?a7, ?a8, ?a9, ?e1, ?e2, ?e3⟩, ?e4⟩⟩
  case e1 => exact rfl
  case e2 => exact rfl
  case e3 => kernel_rfl
  case e4 => kernel_rfl
theorem df13 (X : (HK p).In h) (G : h.Ns mainGlobals mg) : Df (HK p) mg "node_of" (top 13) := by
  obtain ⟨fd, F⟩ := fd13 p
  exact ⟨75, fd, F, PySem.W.mg_of X G (by kernel_rfl)⟩
theorem fd14 (p : Params) : ∃ fd, Fun (HK p) "bracketed" "bracketed" (top 14) 82 fd := by
  refine ⟨?fd, ⟨⟨?a1, ?a2, ?a3, ?a4, ?a5, ?a6, ?a7, ?a8, ?a9, ?e1, ?e2, ?e3⟩, ?e4⟩⟩
  case e1 => exact rfl
  case e2 => exact rfl
  case e3 => kernel_rfl
  case e4 => kernel_rfl
theorem df14 (X : (HK p).In h) (G : h.Ns mainGlobals mg) : Df (HK p) mg "bracketed" (top 14) := by
  obtain ⟨fd, F⟩ := fd14 p
  exact ⟨82, fd, F, PySem.W.mg_of X G (by kernel_rfl)⟩
theorem fd15 (p : Params) : ∃ fd, Fun (HK p) "plain_text" "plain_text" (top 15) 89 fd := by
  refine ⟨?fd, ⟨⟨?a1, ?a2, ?a3, ?a4, ?a5, ?a6, ?a7, ?a8, ?a9, ?e1, ?e2, ?e3⟩, ?e4⟩⟩
  case e1 => exact rfl
  case e2 => exact rfl
  case e3 => kernel_rfl
  case e4 => kernel_rfl
theorem df15 (X : (HK p).In h) (G : h.Ns mainGlobals mg) : Df (HK p) mg "plain_text" (top 15) := by
  obtain ⟨fd, F⟩ := fd15 p
  exact ⟨89, fd, F, PySem.W.mg_of X G (by kernel_rfl)⟩
theorem fd16 (p : Params) : ∃ fd, Fun (HK p) "loose_texts" "loose_texts" (top 16) 94 fd := by
  refine ⟨?fd, ⟨⟨?a1, ?a2, ?a3, ?a4, ?a5, ?a6, ?a7, ?a8, ?a9, ?e1, ?e2, ?e3⟩, ?e4⟩⟩
  case e1 => exact rfl
  case e2 => exact rfl
  case e3 => kernel_rfl
  case e4 => kernel_rfl
theorem df16 (X : (HK p).In h) (G : h.Ns mainGlobals mg) : Df (HK p) mg "loose_texts" (top 16) := by
  obtain ⟨fd, F⟩ := fd16 p
  exact ⟨94, fd, F, PySem.W.mg_of X G (by kernel_rfl)⟩
theorem fd18 (p : Params) : ∃ fd, Fun (HK p) "panes_of" "panes_of" (top 18) 101 fd := by
  refine ⟨?fd, ⟨⟨?a1, ?a2, ?a3, ?a4, ?a5, ?a6, ?a7, ?a8, ?a9, ?e1, ?e2, ?e3⟩, ?e4⟩⟩
  case e1 => exact rfl
  case e2 => exact rfl
  case e3 => kernel_rfl
  case e4 => kernel_rfl
theorem df18 (X : (HK p).In h) (G : h.Ns mainGlobals mg) : Df (HK p) mg "panes_of" (top 18) := by
  obtain ⟨fd, F⟩ := fd18 p
  exact ⟨101, fd, F, PySem.W.mg_of X G (by kernel_rfl)⟩
theorem fd19 (p : Params) : ∃ fd, Fun (HK p) "plain" "plain" (top 19) 108 fd := by
  refine ⟨?fd, ⟨⟨?a1, ?a2, ?a3, ?a4, ?a5, ?a6, ?a7, ?a8, ?a9, ?e1, ?e2, ?e3⟩, ?e4⟩⟩
  case e1 => exact rfl
  case e2 => exact rfl
  case e3 => kernel_rfl
  case e4 => kernel_rfl
theorem df19 (X : (HK p).In h) (G : h.Ns mainGlobals mg) : Df (HK p) mg "plain" (top 19) := by
  obtain ⟨fd, F⟩ := fd19 p
  exact ⟨108, fd, F, PySem.W.mg_of X G (by kernel_rfl)⟩
theorem fd21 (p : Params) : ∃ fd, Fun (HK p) "_law_well" "_law_well" (top 21) 115 fd := by
  refine ⟨?fd, ⟨⟨?a1, ?a2, ?a3, ?a4, ?a5, ?a6, ?a7, ?a8, ?a9, ?e1, ?e2, ?e3⟩, ?e4⟩⟩
  case e1 => exact rfl
  case e2 => exact rfl
  case e3 => kernel_rfl
  case e4 => kernel_rfl
theorem df21 (X : (HK p).In h) (G : h.Ns mainGlobals mg) : Df (HK p) mg "_law_well" (top 21) := by
  obtain ⟨fd, F⟩ := fd21 p
  exact ⟨115, fd, F, PySem.W.mg_of X G (by kernel_rfl)⟩
theorem fd22 (p : Params) : ∃ fd, Fun (HK p) "_law_dip" "_law_dip" (top 22) 122 fd := by
  refine ⟨?fd, ⟨⟨?a1, ?a2, ?a3, ?a4, ?a5, ?a6, ?a7, ?a8, ?a9, ?e1, ?e2, ?e3⟩, ?e4⟩⟩
  case e1 => exact rfl
  case e2 => exact rfl
  case e3 => kernel_rfl
  case e4 => kernel_rfl
theorem df22 (X : (HK p).In h) (G : h.Ns mainGlobals mg) : Df (HK p) mg "_law_dip" (top 22) := by
  obtain ⟨fd, F⟩ := fd22 p
  exact ⟨122, fd, F, PySem.W.mg_of X G (by kernel_rfl)⟩
theorem fd23 (p : Params) : ∃ fd, Fun (HK p) "_law_of" "_law_of" (top 23) 129 fd := by
  refine ⟨?fd, ⟨⟨?a1, ?a2, ?a3, ?a4, ?a5, ?a6, ?a7, ?a8, ?a9, ?e1, ?e2, ?e3⟩, ?e4⟩⟩
  case e1 => exact rfl
  case e2 => exact rfl
  case e3 => kernel_rfl
  case e4 => kernel_rfl
theorem df23 (X : (HK p).In h) (G : h.Ns mainGlobals mg) : Df (HK p) mg "_law_of" (top 23) := by
  obtain ⟨fd, F⟩ := fd23 p
  exact ⟨129, fd, F, PySem.W.mg_of X G (by kernel_rfl)⟩
theorem fd24 (p : Params) : ∃ fd, Fun (HK p) "_law_sizes" "_law_sizes" (top 24) 136 fd := by
  refine ⟨?fd, ⟨⟨?a1, ?a2, ?a3, ?a4, ?a5, ?a6, ?a7, ?a8, ?a9, ?e1, ?e2, ?e3⟩, ?e4⟩⟩
  case e1 => exact rfl
  case e2 => exact rfl
  case e3 => kernel_rfl
  case e4 => kernel_rfl
theorem df24 (X : (HK p).In h) (G : h.Ns mainGlobals mg) : Df (HK p) mg "_law_sizes" (top 24) := by
  obtain ⟨fd, F⟩ := fd24 p
  exact ⟨136, fd, F, PySem.W.mg_of X G (by kernel_rfl)⟩
theorem fd25 (p : Params) : ∃ fd, Fun (HK p) "_law_grown" "_law_grown" (top 25) 141 fd := by
  refine ⟨?fd, ⟨⟨?a1, ?a2, ?a3, ?a4, ?a5, ?a6, ?a7, ?a8, ?a9, ?e1, ?e2, ?e3⟩, ?e4⟩⟩
  case e1 => exact rfl
  case e2 => exact rfl
  case e3 => kernel_rfl
  case e4 => kernel_rfl
theorem df25 (X : (HK p).In h) (G : h.Ns mainGlobals mg) : Df (HK p) mg "_law_grown" (top 25) := by
  obtain ⟨fd, F⟩ := fd25 p
  exact ⟨141, fd, F, PySem.W.mg_of X G (by kernel_rfl)⟩
theorem fd26 (p : Params) : ∃ fd, Fun (HK p) "_law_said" "_law_said" (top 26) 146 fd := by
  refine ⟨?fd, ⟨⟨?a1, ?a2, ?a3, ?a4, ?a5, ?a6, ?a7, ?a8, ?a9, ?e1, ?e2, ?e3⟩, ?e4⟩⟩
  case e1 => exact rfl
  case e2 => exact rfl
  case e3 => kernel_rfl
  case e4 => kernel_rfl
theorem df26 (X : (HK p).In h) (G : h.Ns mainGlobals mg) : Df (HK p) mg "_law_said" (top 26) := by
  obtain ⟨fd, F⟩ := fd26 p
  exact ⟨146, fd, F, PySem.W.mg_of X G (by kernel_rfl)⟩
theorem fd27 (p : Params) : ∃ fd, Fun (HK p) "_law_letters" "_law_letters" (top 27) 153 fd := by
  refine ⟨?fd, ⟨⟨?a1, ?a2, ?a3, ?a4, ?a5, ?a6, ?a7, ?a8, ?a9, ?e1, ?e2, ?e3⟩, ?e4⟩⟩
  case e1 => exact rfl
  case e2 => exact rfl
  case e3 => kernel_rfl
  case e4 => kernel_rfl
theorem df27 (X : (HK p).In h) (G : h.Ns mainGlobals mg) : Df (HK p) mg "_law_letters" (top 27) := by
  obtain ⟨fd, F⟩ := fd27 p
  exact ⟨153, fd, F, PySem.W.mg_of X G (by kernel_rfl)⟩
theorem fd28 (p : Params) : ∃ fd, Fun (HK p) "_law_flat" "_law_flat" (top 28) 158 fd := by
  refine ⟨?fd, ⟨⟨?a1, ?a2, ?a3, ?a4, ?a5, ?a6, ?a7, ?a8, ?a9, ?e1, ?e2, ?e3⟩, ?e4⟩⟩
  case e1 => exact rfl
  case e2 => exact rfl
  case e3 => kernel_rfl
  case e4 => kernel_rfl
theorem df28 (X : (HK p).In h) (G : h.Ns mainGlobals mg) : Df (HK p) mg "_law_flat" (top 28) := by
  obtain ⟨fd, F⟩ := fd28 p
  exact ⟨158, fd, F, PySem.W.mg_of X G (by kernel_rfl)⟩
theorem fd29 (p : Params) : ∃ fd, Fun (HK p) "_law_mixed" "_law_mixed" (top 29) 165 fd := by
  refine ⟨?fd, ⟨⟨?a1, ?a2, ?a3, ?a4, ?a5, ?a6, ?a7, ?a8, ?a9, ?e1, ?e2, ?e3⟩, ?e4⟩⟩
  case e1 => exact rfl
  case e2 => exact rfl
  case e3 => kernel_rfl
  case e4 => kernel_rfl
theorem df29 (X : (HK p).In h) (G : h.Ns mainGlobals mg) : Df (HK p) mg "_law_mixed" (top 29) := by
  obtain ⟨fd, F⟩ := fd29 p
  exact ⟨165, fd, F, PySem.W.mg_of X G (by kernel_rfl)⟩
theorem fd30 (p : Params) : ∃ fd, Fun (HK p) "_law_right" "_law_right" (top 30) 172 fd := by
  refine ⟨?fd, ⟨⟨?a1, ?a2, ?a3, ?a4, ?a5, ?a6, ?a7, ?a8, ?a9, ?e1, ?e2, ?e3⟩, ?e4⟩⟩
  case e1 => exact rfl
  case e2 => exact rfl
  case e3 => kernel_rfl
  case e4 => kernel_rfl
theorem df30 (X : (HK p).In h) (G : h.Ns mainGlobals mg) : Df (HK p) mg "_law_right" (top 30) := by
  obtain ⟨fd, F⟩ := fd30 p
  exact ⟨172, fd, F, PySem.W.mg_of X G (by kernel_rfl)⟩
theorem fd31 (p : Params) : ∃ fd, Fun (HK p) "law" "law" (top 31) 177 fd := by
  refine ⟨?fd, ⟨⟨?a1, ?a2, ?a3, ?a4, ?a5, ?a6, ?a7, ?a8, ?a9, ?e1, ?e2, ?e3⟩, ?e4⟩⟩
  case e1 => exact rfl
  case e2 => exact rfl
  case e3 => kernel_rfl
  case e4 => kernel_rfl
theorem df31 (X : (HK p).In h) (G : h.Ns mainGlobals mg) : Df (HK p) mg "law" (top 31) := by
  obtain ⟨fd, F⟩ := fd31 p
  exact ⟨177, fd, F, PySem.W.mg_of X G (by kernel_rfl)⟩
theorem ds_of (X : (HK p).In h) (G : h.Ns mainGlobals mg) : Ds (HK p) mg where
  d10 := df10 X G
  d11 := df11 X G
  d12 := df12 X G
  d13 := df13 X G
  d14 := df14 X G
  d15 := df15 X G
  d16 := df16 X G
  d18 := df18 X G
  d19 := df19 X G
  d21 := df21 X G
  d22 := df22 X G
  d23 := df23 X G
  d24 := df24 X G
  d25 := df25 X G
  d26 := df26 X G
  d27 := df27 X G
  d28 := df28 X G
  d29 := df29 X G
  d30 := df30 X G
  d31 := df31 X G
theorem clo_k (w : World) : ∃ es n, KDict (HK w.params) w 47 es n := He.dicW_ok (ks := ["[", "("]) rfl
theorem bl_of {w : World} (X : (HK w.params).In h) (G : h.Ns mainGlobals mg) : Bl w (HK w.params) mg where
  isinstance_ := PySem.W.mg_none_of X G (by kernel_rfl)
  int_ := PySem.W.mg_none_of X G (by kernel_rfl)
  tuple_ := PySem.W.mg_none_of X G (by kernel_rfl)
  str_ := PySem.W.mg_none_of X G (by kernel_rfl)
  len_ := PySem.W.mg_none_of X G (by kernel_rfl)
  all_ := PySem.W.mg_none_of X G (by kernel_rfl)
  range_ := PySem.W.mg_none_of X G (by kernel_rfl)
  max_ := PySem.W.mg_none_of X G (by kernel_rfl)
  min_ := PySem.W.mg_none_of X G (by kernel_rfl)
  abs_ := PySem.W.mg_none_of X G (by kernel_rfl)
  divmod_ := PySem.W.mg_none_of X G (by kernel_rfl)
  sorted_ := PySem.W.mg_none_of X G (by kernel_rfl)
  leaves_ := ⟨_, PySem.W.mg_of X G rfl⟩
  lies_ := ⟨_, PySem.W.mg_of X G rfl⟩
  stands_ := ⟨_, PySem.W.mg_of X G rfl⟩
  cols_ := ⟨_, PySem.W.mg_of X G rfl⟩
  rows_ := ⟨_, PySem.W.mg_of X G rfl⟩
  clo_ := by
    obtain ⟨es, n, kd⟩ := clo_k w
    exact ⟨47, es, n, PySem.W.mg_of X G rfl, kd, ⟨_, rfl⟩, ⟨_, rfl⟩⟩
end
theorem room39 : Room 39 callerA := ⟨rfl, by decide, by decide⟩
theorem law_fn {P : Program} {w : World} {mg : Str → Option Value} {fa : Addr} {h : Heap} (X : (HK w.params).In h) (G : h.Ns mainGlobals mg) (hmg : mg "law" = some (.ref fa)) :
    ∃ fd : FuncData, (∀ (s : Shared) (u : Value), BindsTo s fd ⟨[u], []⟩ [("_law_script", u)]) ∧ ∀ base : Heap, FnOk P w (HK w.params) mg base L2.CX0 39 fa fd ["_law_script"] (spLaw (HK w.params)) := by
  obtain ⟨f, fd, F, m⟩ := (df31 X G).ex
  rw [m] at hmg
  cases hmg
  have lk : ∃ oc od osl, (HK w.params).lookup fa = some ⟨oc, od, .func fd, osl⟩ := by
    obtain ⟨oc, od, kV, doc, pm, an, cdv, ct, osl, _, lk, _⟩ := F.ex
    exact ⟨oc, od, osl, lk⟩
  refine ⟨fd, fun s u => ?_, fun base => ?_⟩
  · obtain ⟨oc, od, kV, doc, pm, an, cdv, ct, osl, rfl, lk, hcd⟩ := F.ex
    exact .of_eq rfl
  · obtain ⟨f', fd', F', _, m', _, oc', od', osl', lk'⟩ := (law_all (P := P) (base := base) (ds_of X G) (bl_of X G)).ex
    obtain ⟨oc, od, osl, lk⟩ := lk
    rw [m] at m'
    cases m'
    rw [lk] at lk'
    cases lk'
    exact F'
theorem walk_43 {l : PySem.W.OpenLaw} {q : Program} {loose : List Str} {XP : (Str → Option Value) → Heap → Prop} {YP : World → Heap → Prop} {d : DefRec}
    (hn : l.most = some 63) (hdf : d.params.defaults = []) (hnm : d.name = "law")
    (hY : ∀ (w : World) (h : Heap), YP w h → (HK w.params).In h) :
    PySem.W.WalkO q loose XP YP l.row.toRowW d [] (fun f vs => PySem.call f vs) := by
  refine walk_of (K := HK) (CX := fun _ => L2.CX0) (sp := fun w => spLaw (HK w.params)) (x := "_law_script") hn (by decide) hdf room39 hY (fun w mg fa h X G hmg => ?_) (fun w H a ns hl _ hS => ⟨(a, ns), rfl, hS, hl, fun _ => rfl⟩) (fun _ _ _ _ _ h => h)
  rw [hnm] at hmg
  obtain ⟨fd, h1, h2⟩ := law_fn (P := l.prog) X G hmg
  exact ⟨fd, h1, fun base _ _ => h2 base⟩
end Yq
open PySem PySem.W PyProof.Rows in
theorem PySem.Challenge.cw_likepanes_k43_whole_plain_trees_holds : PySem.Challenge.rw_likepanes_k43_whole_plain_trees.Holds := by
  refine hd43 ?_
  exact Yq.walk_43 (l := PySem.Challenge.rw_likepanes_k43_whole_plain_trees) rfl rfl rfl (fun w h Y => PySem.W.kIn_of Y)
#print axioms PySem.Challenge.cw_likepanes_k43_whole_plain_trees_holds
