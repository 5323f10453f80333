import PyProof.Rows.All
import Wide.All
import OpenK.AllK
import Wide.FinOn
import PyProof.ReprRoads
import HandS.ForMost
import PyProof.Draws
import HandS.Zip
import HandS.Rev
import HandS.Walk
import HandS.WideBits
import HandS.Gcd
import HandS.IsInst
import HandS.Style
import HandS.Star
import HandS.TupAny
import HandS.NoneIn
import HandS.Property
import HandS.StrMore
import HandS.Flow
import PyProof.ReprLen
import HandS.Codes
import PySem.Challenge.RW_likepanes_k27_whole_numbers_of_fractions
set_option Elab.async false
set_option linter.all false
set_option maxRecDepth 100000
set_option maxHeartbeats 0
set_option exponentiation.threshold 1000
section
open PySem PySem.W PyProof.Rows
open_top hd27 for PySem.Challenge.rw_likepanes_k27_whole_numbers_of_fractions
end

/-! repr of data; lists whose place is told; defs run where no repr is under way. -/
namespace Xk
open PySem PySem.Spec PyProof.Rows L2
section
variable {X : Cx} {pins : List (Addr × Obj)} {σ : L2.St} {H : Hp} {s : Shared} {es : List Expr} {t : TA} {pos : Pos}
theorem past1 (I : Inv X pins σ H s) : ∀ p, s.heap.objs.size ≤ p → p ≠ sysModules := fun p hp e => by
  have h1 : mainGlobals < X.base.objs.size := I.ok.mod.glob.lt
  have h2 := I.ok.bsz
  have h3 := I.sz
  have e1 : p = (1 : Nat) := e
  have h4 : (3 : Nat) < X.base.objs.size := h1
  omega
/-- [e, ..], its place -/
def tLstN (t : TA) : TE := fun σ H Q => t σ H fun xs H1 => xs.length ≤ sizeLine ∧ ∀ p, H1 p = none → p ≠ sysModules → Q (.ref p) (upd H1 p (.lst xs))
theorem pe_lstN (h : PA X es t) : PE X (.List es pos) (tLstN t) := by
  refine ⟨fun pins s σ H Q I hq => ?_⟩
  refine wpAny_List_spliced (thn (h.run pos pins s σ H _ I hq) fun us s1 hh => ?_)
  obtain ⟨xs, H1, I1, r, z, q⟩ := hh
  refine ⟨by rw [← r.length]; exact z, ?_⟩
  have hf : H1 s1.heap.objs.size = none := I1.hok.fresh (Nat.le_refl _)
  refine ⟨.ref s1.heap.objs.size, upd H1 s1.heap.objs.size (.lst xs),
    I1.laid (t' := s1.toks) (fun b u e => Heap.get?_push_of_some _ e) (Nat.le_refl _) ?_, rfl, q _ hf (past1 I1 _ (Nat.le_refl _))⟩
  exact ⟨z, us, 0, r, Heap.get?_push_size _ rfl⟩
/-- xs * k, its place -/
def rRepN : R2 := fun x y H Q => ∃ l k xs, x = .ref l ∧ y = .int k ∧ H l = some (.lst xs) ∧ -(2 ^ 63) ≤ k ∧ k < 2 ^ 63 ∧ xs.length * k.toNat ≤ sizeLine ∧
  ∀ p, H p = none → p ≠ sysModules → Q (.ref p) (upd H p (.lst (List.replicate k.toNat xs).flatten))
theorem op_repN : OpR X (binaryOp .Mult) rRepN := by
  intro pins s σ H x y v u Q I rx ry h
  obtain ⟨l, k, xs, rfl, rfl, hH, h1, h2, hz, q⟩ := h
  cases rx
  obtain ⟨t, rfl⟩ := ry
  obtain ⟨z, its, n, r, hl, e⟩ := I.lstM hH
  have a1 : its.toArray.size * k.toNat ≤ sizeLine := by
    rw [List.size_toArray, ← hl]
    exact hz
  have a2 : ¬ its.toArray.size * k.toNat > (2 ^ 63 - 1) / 8 := by
    have h8 : (sizeLine : Nat) ≤ (2 ^ 63 - 1) / 8 := by decide
    omega
  have a3 : ¬ (!Builtin.List.listFitsIndex k) = true := by
    rw [fitsIndex_both h1 h2]; exact Bool.false_ne_true
  have a4 : ¬ Builtin.List.listTooLong (its.toArray.size * k.toNat) = true := by
    rw [notLongL a1]; exact Bool.false_ne_true
  have a5 : List.foldl (fun x1 x2 => x1 ++ x2) #[] (List.replicate (if its.toArray.isEmpty = true then 0 else k.toNat) its.toArray) =
      (List.replicate k.toNat its).flatten.toArray := by
    have f0 : ∀ m : Nat, List.foldl (fun x1 x2 => x1 ++ x2) #[] (List.replicate m its.toArray) = (List.replicate m its).flatten.toArray := fun m => by
      have := foldl_rep its m []
      rw [List.nil_append] at this; exact this
    rw [f0]
    cases its with
    | nil => simp
    | cons a r' => rw [if_neg (by simp)]
  refine wpAny_binaryOp_repeat_ref (T := "list") (U := "int") (by decide) ⟨_, e, rfl⟩ (fun s' => typeIs_int s' k t) noFill_list_mul F.fills_int_mul
    F.slot_int_rmul repeat_list F.slot_int_index.lookup
    (call_meets F.slot_int_rmul (typeIs_int s k t) F.entry_int_rmul (F.args_int_rmul_2 _ _) (int___rmul___int_list k t l its.toArray n)
      ⟨e, rfl, ⟨_, e, rfl⟩, call_meets F.slot_list_mul ⟨_, e, rfl⟩ F.entry_list_mul (F.args_list_mul_2 _ _)
        (AutoListH.list___mul___list_int_3 l its.toArray n k t a3 a2 a4) ⟨e, ?_⟩⟩)
  rw [a5]
  exact ⟨.ref _, _, I.lnew (t' := s.toks) (r.rep k.toNat) (by rw [PyProof.Rows.lm_len_rep_flat, Nat.mul_comm]; exact hz), rfl,
    q _ I.fresh (past1 I _ (Nat.le_refl _))⟩
end

/-! ### data -/
mutual
inductive Sh (H : Hp) : V → PyData → Prop
  | non : Sh H .non .none
  | bl (b : Bool) : Sh H (.bl b) (.bool b)
  | int (i : Int) : Sh H (.int i) (.int i)
  | str (x : Str) : Sh H (.str x) (.str x)
  | lst {a : Addr} {xs : List V} {ds : List PyData} : H a = some (.lst xs) → a ≠ sysModules → ShA H xs ds → Sh H (.ref a) (.list ds)
  | tup {a : Addr} {xs : List V} {ds : List PyData} : H a = some (.tup xs) → ShA H xs ds → Sh H (.ref a) (.tuple ds)
  | dct {a : Addr} {kvs : List (Int × Int)} : H a = some (.dK (kvs.map fun p => (Sum.inl p.1, V.int p.2))) →
      Sh H (.ref a) (.dict (kvs.map fun p => (PyData.int p.1, PyData.int p.2)))
inductive ShA (H : Hp) : List V → List PyData → Prop
  | nil : ShA H [] []
  | cons {v : V} {vs : List V} {d : PyData} {ds : List PyData} : Sh H v d → ShA H vs ds → ShA H (v :: vs) (d :: ds)
end
section
variable {H H' : Hp}
mutual
theorem Sh.same (k : Same H H') : ∀ (d : PyData) (v : V), Sh H v d → Sh H' v d
  | .none, _, h => by cases h; exact .non
  | .bool b, _, h => by cases h; exact .bl b
  | .int i, _, h => by cases h; exact .int i
  | .str x, _, h => by cases h; exact .str x
  | .list ds, _, h => by
    cases h with
    | lst e n a => exact .lst (k _ _ e) n (ShA.same k ds _ a)
  | .tuple ds, _, h => by
    cases h with
    | tup e a => exact .tup (k _ _ e) (ShA.same k ds _ a)
  | .dict _, _, h => by
    cases h with
    | dct e => exact .dct (k _ _ e)
theorem ShA.same (k : Same H H') : ∀ (ds : List PyData) (vs : List V), ShA H vs ds → ShA H' vs ds
  | [], _, h => by cases h; exact .nil
  | d :: ds, _, h => by
    cases h with
    | cons a b => exact .cons (Sh.same k d _ a) (ShA.same k ds _ b)
end
end
section
variable {X : Cx} {pins : List (Addr × Obj)} {σ : L2.St} {H : Hp} {s : Shared}
theorem ints_reads {h : Heap} : ∀ (l : List Int) (us : List Value), Vals (l.map V.int) us → ReadsAll h us (l.map PyData.int) []
  | [], _, r => by cases r; exact .nil
  | i :: l, _, r => by
    cases r with
    | cons r1 r2 =>
      obtain ⟨t, rfl⟩ := r1
      exact ReadsAll.cons (Reads.int i t) (ints_reads l _ r2)
theorem kv_reads {P : Program} {w : World} {h : Heap} : ∀ (kvs : List (Int × Int)) (es : List DictEntry) (vs : List (Key × Value)),
    KV (kvs.map fun p => ((Sum.inl p.1 : Key), V.int p.2)) vs → PySem.Pairs (mixKind P w) es vs →
    ReadsAll h (es.map (·.key)) (kvs.map fun p => PyData.int p.1) [] ∧ ReadsAll h (es.map (·.val)) (kvs.map fun p => PyData.int p.2) []
  | [], _, _, r, q => by
    cases r; cases q
    exact ⟨.nil, .nil⟩
  | (i, j) :: l, _, _, r, q => by
    cases r with
    | cons r1 r2 =>
      cases q with
      | cons q1 q2 q3 =>
        obtain ⟨h1, h2⟩ := kv_reads l _ _ r2 q3
        obtain ⟨e1, t, e2⟩ := r1
        rw [← e1] at q1
        obtain ⟨t2, e3⟩ := Value.isInt_shape (show Value.isInt i _ = true from q1)
        refine ⟨?_, ?_⟩
        · rw [List.map_cons, List.map_cons, e3]
          exact ReadsAll.cons (Reads.int i t2) h1
        · rw [List.map_cons, List.map_cons, q2, e2]
          exact ReadsAll.cons (Reads.int j t) h2
mutual
theorem Sh.reads (I : Inv X pins σ H s) : ∀ (d : PyData) (v : V) (u : Value), Sh H v d → RelV v u → ∃ as, Reads s.heap u d as ∧ sysModules ∉ as
  | .none, _, _, h, r => by
    cases h; cases r
    exact ⟨_, Reads.none, nofun⟩
  | .bool b, _, _, h, r => by
    cases h; cases r
    exact ⟨_, Reads.bool b, nofun⟩
  | .int i, _, _, h, r => by
    cases h
    obtain ⟨t, rfl⟩ := r
    exact ⟨_, Reads.int i t, nofun⟩
  | .str x, _, _, h, r => by
    cases h
    obtain ⟨t, rfl⟩ := r
    exact ⟨_, Reads.str x t, nofun⟩
  | .list ds, _, _, h, r => by
    cases h with
    | @lst a xs _ e n ha =>
      cases r
      obtain ⟨_, its, m, rv, ho⟩ := (show ObjOk X.prog X.w H s.heap a (.lst xs) from I.hok a _ e)
      obtain ⟨as, hr, hn⟩ := ShA.reads I ds _ its ha rv
      refine ⟨a :: as, Reads.list ho rfl rfl hr, fun hm => ?_⟩
      rcases List.mem_cons.mp hm with q | q
      · exact n q.symm
      · exact hn q
  | .tuple ds, _, _, h, r => by
    cases h with
    | @tup a xs _ e ha =>
      cases r
      obtain ⟨_, its, rv, o, ho, hc, n, hd⟩ := (show ObjOk X.prog X.w H s.heap a (.tup xs) from I.hok a _ e)
      obtain ⟨as, hr, hn⟩ := ShA.reads I ds _ its ha rv
      exact ⟨as, Reads.tuple ho hc hd hr, hn⟩
  | .dict _, _, _, h, r => by
    cases h with
    | @dct a kvs e =>
      cases r
      obtain ⟨_, hs, vs, rv, o, es, ep, ho, hc, hd, _, hpr, _⟩ := (show ObjOk X.prog X.w H s.heap a (.dK _) from I.hok a _ e)
      obtain ⟨h1, h2⟩ := kv_reads (h := s.heap) kvs _ _ rv hpr
      refine ⟨_, Reads.dict (as := []) (bs := []) ho hc.1 hd ?_ ?_, fun hm => ?_⟩
      · rw [List.map_map]; exact h1
      · rw [List.map_map]; exact h2
      · have q : sysModules = a := by simpa using hm
        rw [← q] at hs
        exact absurd hs (by decide)
theorem ShA.reads (I : Inv X pins σ H s) : ∀ (ds : List PyData) (vs : List V) (us : List Value), ShA H vs ds → Vals vs us → ∃ as, ReadsAll s.heap us ds as ∧ sysModules ∉ as
  | [], _, _, h, r => by
    cases h; cases r
    exact ⟨_, ReadsAll.nil, nofun⟩
  | d :: ds, _, _, h, r => by
    cases h with
    | cons h1 h2 =>
      cases r with
      | cons r1 r2 =>
        obtain ⟨as, q1, n1⟩ := Sh.reads I d _ _ h1 r1
        obtain ⟨bs, q2, n2⟩ := ShA.reads I ds _ _ h2 r2
        exact ⟨_, ReadsAll.cons q1 q2, fun hm => (List.mem_append.mp hm).elim n1 n2⟩
end
/-- repr(v), v an object -/
def rRepr : List V → Hp → VK → Prop := fun xs H Q => ∃ (a : Addr) (d : PyData), xs = [.ref a] ∧ Sh H (.ref a) d ∧ d.showable = true ∧ d.depth ≤ 20 ∧
  d.shown.length ≤ sizeLine ∧ Q (.str d.shown) H
theorem call_repr (hG : X.A.guards = some []) (hu : X.A.units + 21 < cLine) : CallR X (.builtin "repr") rRepr := by
  intro pins s σ H xs us Q I r h
  obtain ⟨a, d, rfl, hd, h1, h2, h3, q⟩ := h
  cases r with
  | cons rx rr =>
    cases rr
    obtain ⟨as, hr, hn⟩ := Sh.reads I d _ _ hd rx
    cases rx
    refine repr_of_reads' hr h1 (fun _ => hn) hG (by omega) (fun _ _ e => e) (fun h' u tk k => ?_) h3
    exact ⟨.str d.shown, H, I.kept k, ⟨u, rfl⟩, q⟩
end

/-! ### defs where no repr is under way -/
/-- the def at f keeps the promise sp wherever no guarded built-in runs -/
structure FnG (P : Program) (w : World) (K : PySem.W.Frag) (mg : Str → Option Value) (base : Heap) (k : Nat) (f : Addr) (fd : FuncData) (ps : List Str) (sp : Sp) : Prop where
  len : ∀ vs H Q E, sp vs H Q E → vs.length = ps.length
  run : ∀ (A : Around) (outer : List Env) (s : Shared) (H : Hp) (args : Args) (us : List Value) (vs : List V) (Q : VK) (E : XK), Room k A → A.guards = some [] →
    Env0 P w K mg base A outer s H → BindsTo s fd args (ps.zip us) → Vals vs us → sp vs H Q E → codeAny (model P w) A (.call (.ref f) args) (CR CX0 outer P w H s Q E) s
theorem fn_g {P : Program} {w : World} {K : PySem.W.Frag} {mg : Str → Option Value} {base : Heap} {k : Nat} {x qual : Str} {st : Stmt} {f : Addr} {fd : FuncData} {N ps : List Str} {sp : Sp}
    (F : Fun K x qual st f fd) (S : FnScope N ps (defScope st)) (len : ∀ vs H Q E, sp vs H Q E → vs.length = ps.length)
    (hbody : ∀ (cdv : Value) (A : Around) (outer : List Env) (s : Shared) (H : Hp) (vs : List V) (Q : VK) (E : XK),
      Room k (A.deeper (envOfC qual (defScope st) s.heap.objs.size f cdv)) → A.guards = some [] → sp vs H Q E →
      ∃ t, PSs (cxOf CX0 P w K mg base N qual (defScope st) f cdv A outer s H E).nox (defBody st) t ∧ t { nx := fun _ H' => Q .non H', rt := Q } (start N vs) H) :
    FnG P w K mg base (k + 1) f fd ps sp := by
  obtain ⟨oc, od, kV, doc, pm, an, cdv, ct, osl, rfl, lk, hcd⟩ := F.ex
  refine ⟨len, fun A outer s H args us vs Q E hr hG e0 hb r hsp => ?_⟩
  have hl := len _ _ _ _ hsp
  have KX : K.In s.heap := e0.mod.kin.keeps fun b o e => (e0.bs b o e).1
  have lim : s.heap.NoLimit := e0.mod.nolimit.keeps fun b o e => (e0.bs b o e).1
  have hkind : ∀ y ∈ ps.zip us, (defScope st).names.lookup y.1 = some .local ∨
      ((defScope st).names.lookup y.1 = some .cell ∧ ((cellsFrom (s.heap.objs.size + 1) (defScope st).names []).lookup y.1).isSome = true) := fun ⟨n, v⟩ hy => by
    rcases S.par n (List.of_mem_zip hy).1 with q | q
    · exact .inl q
    · exact .inr ⟨q, PySem.W.cellsFrom_some _ _ _ (.inl q)⟩
  refine codeAny_call_function hr.depth (KX _ _ lk) rfl S.co S.gen rfl (PySem.W.codeRec_of KX hcd) (hb _ _ _ _ ?_)
  refine wpAny_newFunctionEnv_cells S.kind hkind fun env he s1 x => ?_
  subst he
  refine ⟨lim.keeps x.toInCall.keep, codeAny_func ?_⟩
  obtain ⟨t, ht, hq⟩ := hbody cdv A outer s H vs Q E (hr.deeper _) hG hsp
  have I : Inv (cxOf CX0 P w K mg base N qual (defScope st) f cdv A outer s H E) [] (start N vs) H s1 := inv_start S hr.hd e0 hl r x
  refine wpAny_mono (ht.nox.run [] s1 (start N vs) H _ I hq) (fun fl s' hs => ?_) fun e s' hs => hs
  have fin : ∀ {σ' : L2.St} {H' : Hp} {v : V} {u : Value}, Inv (cxOf CX0 P w K mg base N qual (defScope st) f cdv A outer s H E) [] σ' H' s' → RelV v u → Q v H' → CE outer P w H s Q u s' :=
    fun {σ' H' v u} J rv q => ⟨v, H', J.os, J.bare, J.base, J.hok, rv, q⟩
  cases fl with
  | ret u =>
    obtain ⟨v, σ', H', J, rv, q⟩ := hs
    exact fin J rv q
  | next =>
    obtain ⟨σ', H', J, q⟩ := hs
    exact fin (v := V.non) (u := Value.none) J rfl q
  | brk =>
    obtain ⟨_, _, _, q⟩ := hs
    exact False.elim q
  | cont =>
    obtain ⟨_, _, _, q⟩ := hs
    exact False.elim q
section
variable {X : Cx} {k : Nat} {f : Addr} {fd : FuncData} {ps : List Str} {sp : Sp} {x : Str} {p pos : Pos} {e : Expr} {es : List Expr} {t : TA}
theorem pe_callg (F : FnG X.prog X.w X.K X.mg X.base k f fd ps sp) (hr : Room k X.A) (hG : X.A.guards = some []) (hg : Gl X x) (hm : X.mg x = some (.ref f)) (hk : PySem.W.keepIn X.K (.ref f) = true)
    (hb : Binds X.K fd ps []) (ha : PA X (e :: es) t) (hdb : (x == ("__debug__" : Str)) = false := by decide)
    (he : starEach (e :: es) X.env = (false, eval e X.env) :: starEach es X.env := by rfl) (hpl : (backTo pos (starEach es X.env)).any (·.1) = false := by rfl) :
    PE X (.Call (.Name x p) (e :: es) [] pos) (tCall sp [] E0 t) := by
  refine ⟨fun pins s σ H Q I h => ?_⟩
  refine wpAny_Call_Name_kw (ld_glob I hg hm ?_ hdb)
  refine PySem.W.callWith_K (h₀ := X.base) I.ok.mod.kin hk (thn (ha.run pos pins s σ H _ I h) fun us s1 ⟨vs, H1, I1, r, q⟩ => ⟨I1.kIn, ?_⟩) he hpl
  have q0 : sp (vs ++ []) H1 Q E0 := q
  rw [List.append_nil] at q0
  have hl : us.length = ps.length := by
    rw [← r.length]; exact F.len _ _ _ _ q0
  refine wpAny_call (codeAny_mono (F.run X.A X.stack s1 H1 ⟨us, []⟩ us vs Q E0 hr hG I1.env0 ?_ r q0) fun r s' hq => ?_)
  · have z := hb s1 us I1.kIn (by rw [List.append_nil]; exact hl)
    rw [List.append_nil] at z
    exact z
  · cases r with
    | error e => exact hq.elim
    | ok fl =>
      cases fl with
      | ret u => exact I1.after hq
      | next => exact False.elim hq
      | brk => exact False.elim hq
      | cont => exact False.elim hq
end
end Xk

/-! Rules of its own: // of any sign, a bool less a bool, a list's item read ahead of +=, enumerate of a tuple, a tuple backwards; loops over few items, turn by turn. -/
namespace Xq
open PySem PySem.Spec PyProof.Rows L2
section
variable {X : Cx}
def CDivX (_ j : Int) : Prop := j ≠ 0 ∧ j.natAbs.log2 < 9000
theorem op_fdivX : OpR X (binaryOp .FloorDiv) (rI CDivX fun i j => .int (i.fdiv j)) := opI fun i j _ _ _ _ _ hc q => floordiv_int hc.1 q (.inl (PyProof.noPylong_of_log2 hc.2))
/-- o[i], a list, by values -/
theorem get_list : PGet X (rIxL X.K) := by
  intro pins s σ H x y v u Q I rx ry h
  obtain ⟨p, xs, i, z, rfl, rfl, hq, he, q⟩ := h
  cases rx
  obtain ⟨t, rfl⟩ := ry
  obtain ⟨its, r, pl, hz⟩ := I.list hq
  obtain ⟨j, h1, h2, h3, h4, h5⟩ := atI_get he
  obtain ⟨w, ew, rw'⟩ := r.get h2
  have hl := r.length
  have hn := line63
  have fin : EP X pins σ Q w s := ⟨z, H, I, rw', q⟩
  by_cases h0 : 0 ≤ i
  · have hj : i.toNat = j := by
      rw [seqIndex_of h0 h5] at h1
      exact Option.some.inj h1
    exact wpAny_getItem_list pl.isList h0 (by omega) (by rw [hj]; simpa using ew) fin
  · have hj : (i + (its.toArray.size : Int)).toNat = j := by
      rw [seqIndex_neg (by omega) h4] at h1
      rw [List.size_toArray, ← hl]
      exact Option.some.inj h1
    exact wpAny_getItem_list_neg pl.isList (by omega) (by rw [List.size_toArray] <;> omega) (by omega) (by rw [hj]; simpa using ew) fin
/-- a bool less a bool -/
def rSubB : R2 := fun x y H Q => ∃ a b : Bool, x = .bl a ∧ y = .bl b ∧ Q (.int (b2i a - b2i b)) H
theorem op_subB : OpR X (binaryOp .Sub) rSubB := by
  intro pins s σ H x y v u Q I rx ry h
  obtain ⟨a, b, rfl, rfl, q⟩ := h
  cases rx
  cases ry
  exact sub_bool ⟨.int _, H, I.tok _, ⟨_, rfl⟩, q⟩
end

/-! ### enumerate(tuple) -/
theorem draws_tup {prog : Program} {w : World} {A : Around} (hh : A.handled = none) (it l : Addr) (hne : l ≠ it) (items : Array Value) :
    Draws prog w A it [it, l] items.size (fun i v => items[i]? = some v) (fun i h => h.IsTupleIter it l i ∧ h.IsTuple l items) where
  live := fun _ _ st => let ⟨o, ho, _⟩ := st.1; ⟨o, ho⟩
  frame := fun _ _ _ st hk => ⟨let ⟨o, ho, r⟩ := st.1; ⟨o, hk it (by simp) o ho, r⟩, let ⟨o, ho, r⟩ := st.2; ⟨o, hk l (by simp) o ho, r⟩⟩
  item := fun i s Q E hi st hQ => by
    refine RZ.nextOf_tuple_item st.1 st.2 (x := items[i]) (by simp [hi]) fun h' hit' hs' => ?_
    exact hQ _ h' s.toks (by simp [hi]) ⟨hit', st.2.extBut hs'.extBut hne⟩ hs'
  done := fun s Q E st hE => RZ.nextOf_tuple_end hh st.1 st.2 (by simp) hE
theorem meets_enumerate_newT (l : Addr) (items : Array Value) (n : Nat) (dct : Option Addr) (sl : Array (Option Value)) :
    Meets (Builtin.«enumerate.__new__» ⟨[.type "enumerate", .ref l], []⟩) (fun _ R s => s.heap.get? l = some { cls := .type "tuple", dict := dct, data := .seq items n, slots := sl } ∧
      R (.ok (.ret (.ref (s.heap.push { cls := .type "tuple_iterator", data := .fields #[.ref l, .int 0 0] }).objs.size)))
        { s with heap := (s.heap.push { cls := .type "tuple_iterator", data := .fields #[.ref l, .int 0 0] }).push { cls := .type "enumerate", data := .fields #[.none, .bool false, .ref s.heap.objs.size, rawInt 0, .none, .none] } }) :=
  .of_wp fun prog w A R s h => by
    obtain ⟨hp, g, d, tk, os⟩ := s; obtain ⟨hl, h⟩ := h
    have hsub := sub_enumerate
    have hL : Heap.IsTuple (Shared.heap ⟨hp, g, d, tk, os⟩) l items := ⟨_, hl, rfl, n, rfl⟩
    wp_walk using AutoSeq1.wpAny_loadPart' hl
    refine wpAny_stack_any fun st => wpAny_pure ?_
    split
    · rename_i c _ _ _ _ _
      cases (c == Value.type "enumerate")
      · wp_walk using AutoSeq1.wpAny_loadPart' hl, wpAny_pyIter_tuple hL
        exact ⟨_, rfl, h⟩
      · wp_walk using AutoSeq1.wpAny_loadPart' hl, wpAny_pyIter_tuple hL
        exact ⟨_, rfl, h⟩
    · wp_walk using AutoSeq1.wpAny_loadPart' hl, wpAny_pyIter_tuple hL
      exact ⟨_, rfl, h⟩
theorem call_enumerate_tuple {prog : Program} {w : World} {A : Around} {E : Value → Shared → Prop} {s : Shared} {l : Addr} {items : Array Value} {Q : Value → Shared → Prop} (hL : s.heap.IsTuple l items)
    (h : ∀ h', IsEnum h' (s.heap.objs.size + 1) s.heap.objs.size 0 .none → h'.IsTupleIter s.heap.objs.size l 0 → h'.objs.size = s.heap.objs.size + 2 →
      (∀ b o, s.heap.get? b = some o → h'.get? b = some o) → Q (.ref (s.heap.objs.size + 1)) { s with heap := h' }) :
    wpAny (model prog w) A (call (.type "enumerate") [.ref l]) Q E s := by
  obtain ⟨⟨c, dct, dt, sl⟩, hl, hc, n, hd⟩ := hL
  replace hc : c = .type "tuple" := hc
  replace hd : dt = .seq items n := hd
  subst hc hd
  refine callType_new F.called_enumerate (by decide) (F.typeCall_enumerate_1 _) (F.newCall_enumerate_1 _) (fun obj => F.args_object_init_2 obj _) F.entry_enumerate_new
    (meets_enumerate_newT l items n dct sl) ⟨hl, ?_⟩
  have hz : (s.heap.push { cls := .type "tuple_iterator", data := .fields #[.ref l, .int 0 0] }).objs.size = s.heap.objs.size + 1 := Heap.size_push ..
  show _ ∧ _
  rw [hz]
  have he : IsEnum ((s.heap.push { cls := .type "tuple_iterator", data := .fields #[.ref l, .int 0 0] }).push
      { cls := .type "enumerate", data := .fields #[.none, .bool false, .ref s.heap.objs.size, rawInt 0, .none, .none] }) (s.heap.objs.size + 1) s.heap.objs.size 0 .none := by
    have := Heap.get?_push_size (s.heap.push { cls := .type "tuple_iterator", data := .fields #[.ref l, .int 0 0] })
      (o := { cls := .type "enumerate", data := .fields #[.none, .bool false, .ref s.heap.objs.size, rawInt 0, .none, .none] }) rfl
    rw [hz] at this; exact this
  refine ⟨⟨_, he, rfl⟩, h _ he ⟨_, Heap.get?_push_of_some _ (Heap.get?_push_size _ rfl), rfl, rfl⟩ (by rw [Heap.size_push, hz]) fun b o x => Heap.get?_push_of_some _ (Heap.get?_push_of_some _ x)⟩
/-- the tuple at a, each item in a new pair -/
def IteT (K : PySem.W.Frag) (a : Addr) : It :=
  ⟨fun i H => ∃ (xs : List V) (x : V), SqT K H a xs ∧ xs[i]? = some x, fun i H v H' => ∃ T x, v = .ref T ∧ H T = none ∧ H' = upd H T (.tup [.int (i : Nat), x]) ∧ ∀ xs, SqT K H a xs → xs[i]? = some x, fun i H => ∃ xs : List V, SqT K H a xs ∧ xs.length ≤ i⟩
theorem isEnum_out {h : Heap} {e it : Addr} {i : Int} {x : Value} {T : Addr} (he : IsEnumOut h e it i x T) : IsEnumOut h e it i x T := he
theorem turn_enumT {P : Program} {w : World} {K : PySem.W.Frag} {elts : List Expr} {kk : Nat} {tpos : Pos} (a e it : Addr) :
    Turn P w K (.Tuple elts kk tpos) (IteT K a) [e, it] e (fun i h => (∃ old, IsEnum h e it ((i : Nat) : Int) old) ∧ h.IsTupleIter it a i ∧ e ≠ it ∧ a ≠ it ∧ a ≠ e) where
  mem := by simp
  obj := fun i h st b hb => by
    obtain ⟨⟨old, he⟩, ⟨o, ho, hc, hd⟩, _⟩ := st
    have e' : b = e ∨ b = it := by simpa using hb
    rcases e' with z | z
    · rw [z]; exact ⟨_, he, fun v q => nomatch q⟩
    · rw [z]; exact ⟨o, ho, fun v q => by rw [hd] at q; cases q⟩
  keep := fun i h h' st k => let ⟨⟨old, he⟩, ⟨o, ho, r⟩, hne⟩ := st; ⟨⟨old, k e (by simp) _ he⟩, ⟨o, k it (by simp) o ho, r⟩, hne⟩
  item := by
    intro X hP hw hK hc i pins s σ H E I hf st hg
    subst hP hw hK
    obtain ⟨⟨old, he⟩, hit, hne, hai, hae⟩ := st
    obtain ⟨xs, x, hq, hx⟩ := hg
    obtain ⟨its, rv, p, hz⟩ := I.tuple hq
    obtain ⟨u, hu, ru⟩ := rv.get hx
    have hel : e < s.heap.objs.size := Heap.lt_size he
    have hil : it < s.heap.objs.size := by obtain ⟨_, q, _⟩ := hit; exact Heap.lt_size q
    have hlt : i < its.toArray.size := by
      have q := List.getElem?_eq_some_iff.mp hu
      rw [List.size_toArray]
      exact q.1
    refine wpAny_pyNext_enum_itemD (draws_tup (prog := X.prog) (w := X.w) (A := X.A.in1) (I.ok.hd hc) it a hai its.toArray) he ⟨hit, (show s.heap.IsTuple a its.toArray from p)⟩ hlt hne (by simp [hne, Ne.symm hae]) fun y h' tk hP ho hit' hT hsz hk => ?_
    have ey : y = u := by
      have q : its.toArray[i]? = some u := by simpa using hu
      rw [q] at hP
      exact (Option.some.inj hP).symm
    subst ey
    refine ⟨_, rfl, wpAny_letOwnedTupleGo_enum (s := { s with heap := h', toks := tk + 1 }) ho fun h'' he' sb => ?_⟩
    have hT2 : h''.get? s.heap.objs.size = some { cls := .type "tuple", data := .seq #[.int i tk, y] } := (sb.2 _ (Nat.ne_of_gt hel)).trans hT
    have new : ObjOk X.prog X.w (upd H s.heap.objs.size (.tup [.int (i : Nat), x])) h'' s.heap.objs.size (.tup [.int (i : Nat), x]) :=
      ⟨by show 2 ≤ sizeLine; decide, [.int i tk, y], .cons ⟨_, rfl⟩ (.cons ru .nil), ⟨_, hT2, rfl, _, rfl⟩⟩
    have I1 : Inv X pins σ (upd H s.heap.objs.size (.tup [.int (i : Nat), x])) { s with heap := h'', toks := tk + 1 } :=
      I.turnedNew (ch := [e, it]) (fun b ob hb q => (sb.2 b (fun z => hb (by simp [z]))).trans (hk b ob (fun z => hb (by simp [z])) (fun z => hb (by simp [z])) q)) hf (Nat.le_refl _) new
    refine ⟨.ref s.heap.objs.size, _, I1, rfl, ⟨_, x, rfl, I.hok.fresh (Nat.le_refl _), rfl, fun ys hy => by rw [I.tuple_inj hy hq]; exact hx⟩, ⟨⟨y, ?_⟩, ?_, hne, hai, hae⟩, fun b hb => ?_⟩
    · have e1 : ((i + 1 : Nat) : Int) = (i : Int) + 1 := by omega
      rw [e1]; exact he'
    · obtain ⟨⟨o, ho2, r2⟩, _⟩ := hit'
      exact ⟨o, (sb.2 it (Ne.symm hne)).trans ho2, r2⟩
    · have hb' : b < s.heap.objs.size := by
        have e' : b = e ∨ b = it := by simpa using hb
        rcases e' with z | z
        · rw [z]; exact hel
        · rw [z]; exact hil
      rw [upd_ne (Nat.ne_of_lt hb')]
      exact (hf b hb).1
  done := by
    intro X hP hw hK hc i pins s σ H E I hf st hg
    subst hP hw hK
    obtain ⟨⟨old, he⟩, hit, hne, hai, hae⟩ := st
    obtain ⟨xs, hq, hx⟩ := hg
    obtain ⟨its, rv, p, hz⟩ := I.tuple hq
    obtain ⟨f0, f1, f2, f3, f4, f5⟩ := hf it (by simp)
    have hl := rv.length
    have hT : s.TypeIs (.ref e) "enumerate" := ⟨_, he, rfl⟩
    unfold pyNext
    refine wpAny_bind (wpAny_attempt (wpAny_callSpecial?_slot (name := Str.ofString "__next__") hT F.slot_enumerate_next
      (wpAny_call_entry F.slot_enumerate_next hT F.entry_enumerate_next ?_ (F.args_enumerate_next_1 _))))
    show wpAny _ _ (field (.ref e) 2 >>= _) _ _ _
    refine wpAny_bind (wpAny_field he rfl (x := .ref it) rfl ?_)
    refine wpAny_bind (RZ.nextOf_tuple_end (A := X.A.in1) (I.ok.hd hc) hit (show s.heap.IsTuple a its.toArray from p) (by simp; omega) fun h' x he' hx' => ?_)
    obtain ⟨o, ho, hc'⟩ := hx'
    refine wpAny_bind (wpAny_isInstance (T := "StopIteration") (b := true) ⟨o, ho, hc'⟩ isSubtype_stop ?_)
    exact wpAny_pure ⟨rfl, I.turned (t' := s.toks) (fun b o hb q => he' b o hb q) f0 f1 f3 f4 f5⟩
  self := fun A i s Q E st h => let ⟨⟨_, he⟩, _⟩ := st; wpAny_pyIter_enum he h
def iEnumT (K : PySem.W.Frag) (ta : TA) : TI := fun σ H R => ta σ H fun vs H1 => ∃ a xs, vs = [.ref a] ∧ SqT K H1 a xs ∧ R (IteT K a) H1
theorem pi_enumT {X : Cx} {e : Expr} {ta : TA} {p pos tpos : Pos} {elts : List Expr} {kk : Nat} (hg : Gl X "enumerate") (hm : X.mg "enumerate" = none) (ha : PA X [e] ta) (hs : starEach [e] X.env = [(false, eval e X.env)] := by rfl) :
    PI X (.Tuple elts kk tpos) (.Call (.Name "enumerate" p) [e] [] pos) (iEnumT X.K ta) := by
  refine ⟨fun pins s σ H R I h => ?_⟩
  refine Call_ (ld_blt I hg hm boot_enumerate (PyProof.Rows.callWith_type1 (thn (ha.run pos pins s σ H _ I h) fun us s1 ⟨vs, H1, I1, r1, q1⟩ => ?_) hs rfl))
  obtain ⟨a, xs, ex, hq, q⟩ := q1
  subst ex
  cases r1 with
  | cons r rr =>
    cases rr
    cases r
    obtain ⟨its, rv, p', hz⟩ := I1.tuple hq
    have hlt : a < s1.heap.objs.size := by
      obtain ⟨o, ho, _⟩ := id p'
      exact Heap.lt_size ho
    refine call_enumerate_tuple (show s1.heap.IsTuple a its.toArray from p') fun h' he hit hsz hk => wpAny_pyIter_enum he ?_
    have I2 : Inv X pins σ H1 { s1 with heap := h' } := I1.kept (t' := s1.toks) hk
    refine ⟨s1.heap.objs.size + 1, [s1.heap.objs.size + 1, s1.heap.objs.size], _, _, H1, rfl, I2, turn_enumT a (s1.heap.objs.size + 1) s1.heap.objs.size, ⟨⟨.none, he⟩, hit, Nat.succ_ne_self _, Nat.ne_of_lt hlt, Nat.ne_of_lt (Nat.lt_succ_of_lt hlt)⟩, fun b hb => ?_, q⟩
    have e' : b = s1.heap.objs.size + 1 ∨ b = s1.heap.objs.size := by simpa using hb
    have hle : s1.heap.objs.size ≤ b := by
      rcases e' with z | z
      · rw [z]; exact Nat.le_add_right _ _
      · rw [z]; exact Nat.le_refl _
    exact I1.fpOk hle (I1.hok.fresh hle)
end Xq

/-! A tuple of one or two backwards; loops turn by turn. -/
namespace Xq
open PySem PySem.Spec PyProof.Rows L2
section
variable {prog : Program} {w : World} {A : Around} {E : Value → Shared → Prop} {s : Shared}
theorem rev_places (n : Nat) (hn : n = 1 ∨ n = 2) : Builtin.Slice.sliceAdjust none none (-1) (n : Int) = ((n : Int) - 1, -1) ∧ Builtin.Slice.slicePlaces ((n : Int) - 1) (-1) (-1) = n := by
  rcases hn with rfl | rfl
  · exact ⟨rfl, rfl⟩
  · exact ⟨rfl, rfl⟩
theorem sliceApplied_rev {sl : Addr} {vl vu vs : Value} {n : Nat} {Q : Int × Int × Nat → Shared → Prop} (hn : n = 1 ∨ n = 2) (hs : s.heap.IsSliceOf sl vl vu vs) (pl : IsPart vl none) (pu : IsPart vu none) (ps : IsPart vs (some (-1)))
    (h : Q ((n : Int) - 1, -1, n) s) : wpAny (model prog w) A (Builtin.Slice.sliceApplied (.ref sl) (pure (n : Int))) Q E s := by
  obtain ⟨os, hos, hcs, hds⟩ := id hs
  unfold Builtin.Slice.sliceApplied Builtin.Slice.sliceFields
  refine wpAny_bind (wpAny_bind (wpAny_field hos hds (x := vl) rfl (wpAny_bind (wpAny_field hos hds (x := vu) rfl (wpAny_bind (wpAny_field hos hds (x := vs) rfl (wpAny_pure ?_)))))))
  refine wpAny_bind (HT.slicePart_ ps ?_)
  show wpAny _ _ (if ((-1 : Int) == 0) = true then _ else _) _ _ s
  rw [if_neg (by decide)]
  refine wpAny_bind (HT.slicePart_ pl (wpAny_bind (HT.slicePart_ pu (wpAny_bind (wpAny_pure ?_)))))
  show wpAny _ _ (match Builtin.Slice.sliceAdjust none none (-1) (n : Int) with | (lo, hi) => pure (lo, (-1 : Int), Builtin.Slice.slicePlaces lo hi (-1))) _ _ s
  rw [(rev_places n hn).1]
  show wpAny _ _ (pure ((n : Int) - 1, (-1 : Int), Builtin.Slice.slicePlaces ((n : Int) - 1) (-1) (-1))) _ _ s
  rw [(rev_places n hn).2]
  exact wpAny_pure h
theorem getItem_tuple_rev {t sl : Addr} {l : List Value} {vl vu vs : Value} {Q : Value → Shared → Prop} (hn : l.length = 1 ∨ l.length = 2) (ht : IsTup s.heap t l.toArray) (hs : s.heap.IsSliceOf sl vl vu vs) (pl : IsPart vl none) (pu : IsPart vu none) (ps : IsPart vs (some (-1)))
    (h : Q (.ref s.heap.objs.size) { s with heap := s.heap.push { cls := .type "tuple", data := .seq l.reverse.toArray } }) : wpAny (model prog w) A (getItem (.ref t) (.ref sl)) Q E s := by
  have htake : sizeOk (.seq l.reverse.toArray) := by
    show l.reverse.toArray.size ≤ sizeLine
    rw [List.size_toArray, List.length_reverse]
    have : 2 ≤ sizeLine := by decide
    omega
  obtain ⟨os, hos, hcs, hds⟩ := id hs
  have hTs : s.TypeIs (.ref sl) "slice" := ⟨os, hos, hcs⟩
  unfold getItem
  try with_reducible refine wpAny_holding ?_
  first | refine wpAny_bind (wpAny_pure ?_) | skip
  refine wpAny_bind (wpAny_sequenceKey ht.typeIs (by decide) ?_)
  refine wpAny_bind (wpAny_callSpecial?_slot (name := Str.ofString "__getitem__") ht.typeIs PyProof.Rows.slot_tuple_getitem
    (wpAny_call_entry PyProof.Rows.slot_tuple_getitem ht.typeIs entry_tuple_getitem ?_ (args_tuple_getitem _ _)))
  show wpAny _ _ (Builtin.Tuple.tupleItemsOf (.ref t) >>= _) _ _ s
  refine wpAny_bind (tupleItemsOf_ ht ?_)
  refine wpAny_bind (wpAny_typeOf hTs ?_)
  rw [if_pos (by decide)]
  refine wpAny_bind (sliceApplied_rev (n := l.toArray.size) (by rw [List.size_toArray]; exact hn) hs pl pu ps ?_)
  have hno : ¬ ((((l.toArray.size : Nat) : Int) - 1 == 0 && (-1 : Int) == 1 && l.toArray.size == l.toArray.size) = true) := by
    intro q
    rw [Bool.and_eq_true, Bool.and_eq_true] at q
    exact absurd q.1.2 (by decide)
  show wpAny _ _ (if (((l.toArray.size : Nat) : Int) - 1 == 0 && (-1 : Int) == 1 && l.toArray.size == l.toArray.size) = true then _ else _) _ _ s
  rw [if_neg hno]
  have pick : ((List.range l.toArray.size).filterMap fun (m : Nat) => l.toArray[((((l.toArray.size : Nat) : Int) - 1) + (m : Int) * (-1)).toNat]?).toArray = l.reverse.toArray := by
    rcases hn with e | e
    · match l, e with
      | [a], _ => rfl
    · match l, e with
      | [a, b], _ => rfl
  rw [pick]
  first
    | exact wpAny_bind (m := Builtin.Tuple.tupleExact _) (wpAny_newObj_type (wpAny_pure ⟨_, rfl, wpAny_pure h⟩) htake)
    | exact wpAny_bind (m := Builtin.Tuple.tupleExact _) (wpAny_newObj_type (wpAny_bind (wpAny_pure (wpAny_pure ⟨_, rfl, wpAny_pure h⟩))) htake)
    | exact wpAny_bind (wpAny_bind (m := Builtin.Tuple.tupleExact _) (wpAny_newObj_type (wpAny_pure (wpAny_pure ⟨_, rfl, wpAny_pure h⟩)) htake))
    | exact wpAny_bind (wpAny_bind (m := Builtin.Tuple.tupleExact _) (wpAny_newObj_type (wpAny_pure ⟨_, rfl, wpAny_pure h⟩) htake))
end
/-- t[::-1], t of one or two -/
def tRevT (K : PySem.W.Frag) (te : TE) : TE := fun σ H Q => te σ H fun x H1 => ∃ a xs, x = .ref a ∧ SqT K H1 a xs ∧ (xs.length = 1 ∨ xs.length = 2) ∧ ∀ p, H1 p = none → Q (.ref p) (upd H1 p (.tup xs.reverse))
theorem pe_revT {X : Cx} {e : Expr} {te : TE} {k : Nat} {p1 p2 p3 pos : Pos} (he : PE X e te) : PE X (.Subscript e (.Slice none none (some (.UnaryOp .USub (.Constant (.int 1) k p1) p2)) p3) pos) (tRevT X.K te) := by
  refine ⟨fun pins s σ H Q I h => ?_⟩
  refine Subscript_ (thn (he.run pins s σ H _ I h) fun v s1 ⟨x, H1, I1, r1, q1⟩ => ?_)
  obtain ⟨a, xs, ex, hx, hl, q⟩ := q1
  subst ex
  cases r1
  have hst : PO X (some (.UnaryOp .USub (.Constant (.int 1) k p1) p2)) (tPart (tUn (rU fun i => .int (-i)) (tC (.int 1)))) := po_some (pe_un un_neg pe_int)
  refine wpAny_Slice (thn (po_none.run pins s1 σ H1 (fun o H2 => o = none ∧ H2 = H1) I1 ⟨rfl, rfl⟩) fun vl s2 ⟨l, H2, I2, pl, el, e2⟩ => ?_)
  subst el e2
  refine thn (po_none.run pins s2 σ H2 (fun o H3 => o = none ∧ H3 = H2) I2 ⟨rfl, rfl⟩) fun vu s3 ⟨u, H3, I3, pu, eu, e3⟩ => ?_
  subst eu e3
  refine thn (hst.run pins s3 σ H3 (fun o H4 => o = some (-1) ∧ H4 = H3) I3 ⟨1, rfl, -1, rfl, rfl, rfl⟩) fun vs s4 ⟨o, H4, I4, ps, eo, e4⟩ => ?_
  subst eo e4
  have I5 : Inv X pins σ H4 { s4 with heap := s4.heap.push { cls := .type "slice", data := .fields #[vl, vu, vs] } } := I4.kept (t' := s4.toks) fun b ob q => Heap.get?_push_of_some _ q
  obtain ⟨its, r, ht, hz⟩ := I5.tuple hx
  have hlen := r.length
  show wpAny (model X.prog X.w) X.A (subscriptTail e (.Slice none none (some (.UnaryOp .USub (.Constant (.int 1) k p1) p2)) p3) (.ref a) (.ref s4.heap.objs.size)) (EP X pins σ Q) X.xe { s4 with heap := s4.heap.push { cls := .type "slice", data := .fields #[vl, vu, vs] } }
  refine tail_any (ops := [.ref a, .ref s4.heap.objs.size]) ht.typeIs (PyProof.Rows.slot_tuple_getitem.lookup) ?_ (by with_unfolding_all rfl)
  refine getItem_tuple_rev (by rw [← hlen]; exact hl) ht (Heap.IsSliceOf.new _ vl vu vs) pl pu ps ?_
  refine ⟨.ref _, _, I5.laid (t' := s4.toks) (o := .tup xs.reverse) (fun b ob q => Heap.get?_push_of_some _ q) (Nat.le_refl _) ?_, rfl, q _ (I5.hok.fresh (Nat.le_refl _))⟩
  exact ⟨by rw [List.length_reverse]; exact hz, _, r.reverse, IsTup.new _ _⟩

/-! ### turn by turn -/
section
variable {J : It} {n : Nat} {G : Hp → Prop} {g : TG} {tb : TS} {D : Ends}
/-- the turns of a for over xs -/
def unr (G : Hp → Prop) (g : TG) (tb : TS) (D : Ends) : List V → L2.St → Hp → Prop
  | [], σ, H => G H ∧ D.nx σ H
  | x :: r, σ, H => G H ∧ g x σ H fun σ2 H2 => tb { D with nx := unr G g tb D r, ct := unr G g tb D r, bk := D.nx } σ2 H2
theorem for_unr {xs : List V} (w : Walk J xs.length G (YAt xs)) {σ : L2.St} {H : Hp} (h : unr G g tb D xs σ H) :
    ∃ W : Nat → Nat → L2.St → Hp → Prop, (∃ m, W 0 m σ H) ∧ ∀ i m σ H, W i m σ H →
      (J.stop i H ∧ D.nx σ H) ∨ (J.go i H ∧ ∃ N : L2.St → Hp → Prop, (∀ σ' H', N σ' H' → ∃ m', m' < m ∧ W (i + 1) m' σ' H') ∧ ∀ x H', J.yld i H x H' → g x σ H' fun σ2 H2 => tb { D with nx := N, ct := N, bk := D.nx } σ2 H2) := by
  refine ⟨fun i m σ H => m = xs.length - i ∧ i ≤ xs.length ∧ unr G g tb D (xs.drop i) σ H, ⟨xs.length, by simp, Nat.zero_le _, h⟩, ?_⟩
  rintro i m σ H ⟨rfl, hi, p⟩
  by_cases hlt : i < xs.length
  · rw [List.drop_eq_getElem_cons hlt] at p
    obtain ⟨gg, p⟩ := p
    refine .inr ⟨w.goes i H hlt gg, unr G g tb D (xs.drop (i + 1)), fun σ' H' p' => ⟨xs.length - (i + 1), by omega, rfl, hlt, p'⟩, fun x H' y => ?_⟩
    obtain ⟨e, y2⟩ := w.yields i H x H' hlt gg y
    subst e
    rw [List.getElem?_eq_getElem hlt] at y2
    cases y2
    exact p
  · have e : i = xs.length := by omega
    subst e
    rw [List.drop_length] at p
    exact .inl ⟨w.stops H p.1, p.2⟩
/-- the turns of a for over enumerate -/
def unrE (G : Hp → Prop) (g : TG) (tb : TS) (D : Ends) : Nat → List V → L2.St → Hp → Prop
  | _, [], σ, H => G H ∧ D.nx σ H
  | i, x :: r, σ, H => G H ∧ ∀ T, H T = none → g (.ref T) σ (upd H T (.tup [.int (i : Nat), x])) fun σ2 H2 => tb { D with nx := unrE G g tb D (i + 1) r, ct := unrE G g tb D (i + 1) r, bk := D.nx } σ2 H2
theorem for_unrE {K : PySem.W.Frag} {a : Addr} {xs : List V} {σ : L2.St} {H : Hp} (h : unrE (fun H => SqT K H a xs) g tb D 0 xs σ H) :
    ∃ W : Nat → Nat → L2.St → Hp → Prop, (∃ m, W 0 m σ H) ∧ ∀ i m σ H, W i m σ H →
      ((IteT K a).stop i H ∧ D.nx σ H) ∨ ((IteT K a).go i H ∧ ∃ N : L2.St → Hp → Prop, (∀ σ' H', N σ' H' → ∃ m', m' < m ∧ W (i + 1) m' σ' H') ∧ ∀ x H', (IteT K a).yld i H x H' → g x σ H' fun σ2 H2 => tb { D with nx := N, ct := N, bk := D.nx } σ2 H2) := by
  refine ⟨fun i m σ H => m = xs.length - i ∧ i ≤ xs.length ∧ unrE (fun H => SqT K H a xs) g tb D i (xs.drop i) σ H, ⟨xs.length, by simp, Nat.zero_le _, h⟩, ?_⟩
  rintro i m σ H ⟨rfl, hi, p⟩
  by_cases hlt : i < xs.length
  · rw [List.drop_eq_getElem_cons hlt] at p
    obtain ⟨gg, p⟩ := p
    refine .inr ⟨⟨xs, xs[i], gg, by simp [hlt]⟩, unrE (fun H => SqT K H a xs) g tb D (i + 1) (xs.drop (i + 1)), fun σ' H' p' => ⟨xs.length - (i + 1), by omega, rfl, hlt, p'⟩, fun x H' y => ?_⟩
    obtain ⟨T, z, rfl, hT, rfl, y⟩ := y
    have y2 := y xs gg
    rw [List.getElem?_eq_getElem hlt] at y2
    cases y2
    exact p T hT
  · have e : i = xs.length := by omega
    subst e
    rw [List.drop_length] at p
    exact .inl ⟨⟨xs, p.1, Nat.le_refl _⟩, p.2⟩
/-- the turns of a comprehension over xs -/
def unrC (G : Hp → Prop) (g : TG) (tt : TT) (te : TE) (D : Addr) (vs : List Nat) (σ : L2.St) (Qd : Hp → Prop) : List V → Hp → Prop
  | [], H => G H ∧ Qd H
  | x :: r, H => G H ∧ g x (wipe σ vs) H fun σ2 H2 => wipe σ2 vs = wipe σ vs ∧ tt σ2 H2 fun b H3 =>
    if b = true then te σ2 H3 fun y H4 => ∃ acc, H4 D = some (.lst acc) ∧ acc.length < sizeLine ∧ unrC G g tt te D vs σ Qd r (upd H4 D (.lst (acc ++ [y]))) else unrC G g tt te D vs σ Qd r H3
theorem lc_unr {xs : List V} (w : Walk J xs.length G (YAt xs)) {tt : TT} {te : TE} {vs : List Nat} {σ : L2.St} {H1 : Hp} {D : Addr} {Qd : Hp → Prop} (h : unrC G g tt te D vs σ Qd xs (upd H1 D (.lst []))) :
    ∃ W : Nat → Nat → Hp → Prop, (∃ m, W 0 m (upd H1 D (.lst []))) ∧ ∀ i m H, W i m H →
      (J.stop i H ∧ Qd H) ∨ (J.go i H ∧ ∃ Nx : Hp → Prop, (∀ H', Nx H' → ∃ m', m' < m ∧ W (i + 1) m' H') ∧ ∀ x H', J.yld i H x H' → g x (wipe σ vs) H' fun σ2 H2 => wipe σ2 vs = wipe σ vs ∧ tt σ2 H2 fun b H3 =>
        if b = true then te σ2 H3 fun y H4 => ∃ acc, H4 D = some (.lst acc) ∧ acc.length < sizeLine ∧ Nx (upd H4 D (.lst (acc ++ [y]))) else Nx H3) := by
  refine ⟨fun i m H => m = xs.length - i ∧ i ≤ xs.length ∧ unrC G g tt te D vs σ Qd (xs.drop i) H, ⟨xs.length, by simp, Nat.zero_le _, h⟩, ?_⟩
  rintro i m H ⟨rfl, hi, p⟩
  by_cases hlt : i < xs.length
  · rw [List.drop_eq_getElem_cons hlt] at p
    obtain ⟨gg, p⟩ := p
    refine .inr ⟨w.goes i H hlt gg, unrC G g tt te D vs σ Qd (xs.drop (i + 1)), fun H' p' => ⟨xs.length - (i + 1), by omega, rfl, hlt, p'⟩, fun x H' y => ?_⟩
    obtain ⟨e, y2⟩ := w.yields i H x H' hlt gg y
    subst e
    rw [List.getElem?_eq_getElem hlt] at y2
    cases y2
    exact p
  · have e : i = xs.length := by omega
    subst e
    rw [List.drop_length] at p
    exact .inl ⟨w.stops H p.1, p.2⟩
/-- .. without a test -/
def unrY (G : Hp → Prop) (g : TG) (te : TE) (D : Addr) (vs : List Nat) (σ : L2.St) (Qd : Hp → Prop) : List V → Hp → Prop
  | [], H => G H ∧ Qd H
  | x :: r, H => G H ∧ g x (wipe σ vs) H fun σ2 H2 => wipe σ2 vs = wipe σ vs ∧ te σ2 H2 fun y H4 => ∃ acc, H4 D = some (.lst acc) ∧ acc.length < sizeLine ∧ unrY G g te D vs σ Qd r (upd H4 D (.lst (acc ++ [y])))
theorem unrY_eq {te : TE} {D : Addr} {vs : List Nat} {σ : L2.St} {Qd : Hp → Prop} : ∀ xs : List V, unrC G g tYes te D vs σ Qd xs = unrY G g te D vs σ Qd xs
  | [] => rfl
  | x :: r => by
    funext H
    unfold unrC unrY
    rw [unrY_eq r]
    simp only [tYes, if_true]
theorem lc_yes {xs : List V} (w : Walk J xs.length G (YAt xs)) {te : TE} {vs : List Nat} {σ : L2.St} {H1 : Hp} {D : Addr} {Qd : Hp → Prop} (h : unrY G g te D vs σ Qd xs (upd H1 D (.lst []))) :
    ∃ W : Nat → Nat → Hp → Prop, (∃ m, W 0 m (upd H1 D (.lst []))) ∧ ∀ i m H, W i m H →
      (J.stop i H ∧ Qd H) ∨ (J.go i H ∧ ∃ Nx : Hp → Prop, (∀ H', Nx H' → ∃ m', m' < m ∧ W (i + 1) m' H') ∧ ∀ x H', J.yld i H x H' → g x (wipe σ vs) H' fun σ2 H2 => wipe σ2 vs = wipe σ vs ∧ tYes σ2 H2 fun b H3 =>
        if b = true then te σ2 H3 fun y H4 => ∃ acc, H4 D = some (.lst acc) ∧ acc.length < sizeLine ∧ Nx (upd H4 D (.lst (acc ++ [y]))) else Nx H3) :=
  lc_unr w (by rw [unrY_eq]; exact h)
/-- the turns of a comprehension over a zip of two lists -/
def unrZ (G : Hp → Prop) (g : TG) (tt : TT) (te : TE) (D : Addr) (vs : List Nat) (σ : L2.St) (Qd : Hp → Prop) : List (V × V) → Hp → Prop
  | [], H => G H ∧ Qd H
  | x :: r, H => G H ∧ ∀ T, H T = none → g (.ref T) (wipe σ vs) (upd H T (.tup [x.1, x.2])) fun σ2 H2 => wipe σ2 vs = wipe σ vs ∧ tt σ2 H2 fun b H3 =>
    if b = true then te σ2 H3 fun y H4 => ∃ acc, H4 D = some (.lst acc) ∧ acc.length < sizeLine ∧ unrZ G g tt te D vs σ Qd r (upd H4 D (.lst (acc ++ [y]))) else unrZ G g tt te D vs σ Qd r H3
theorem lc_unrZ {K : PySem.W.Frag} {a b : Addr} {xs ys : List V} {tt : TT} {te : TE} {vs : List Nat} {σ : L2.St} {H1 : Hp} {D : Addr} {Qd : Hp → Prop}
    (h : unrZ (fun H => SqL K H a xs ∧ SqL K H b ys) g tt te D vs σ Qd (xs.zip ys) (upd H1 D (.lst []))) :
    ∃ W : Nat → Nat → Hp → Prop, (∃ m, W 0 m (upd H1 D (.lst []))) ∧ ∀ i m H, W i m H →
      ((Itz K a b).stop i H ∧ Qd H) ∨ ((Itz K a b).go i H ∧ ∃ Nx : Hp → Prop, (∀ H', Nx H' → ∃ m', m' < m ∧ W (i + 1) m' H') ∧ ∀ x H', (Itz K a b).yld i H x H' → g x (wipe σ vs) H' fun σ2 H2 => wipe σ2 vs = wipe σ vs ∧ tt σ2 H2 fun b H3 =>
        if b = true then te σ2 H3 fun y H4 => ∃ acc, H4 D = some (.lst acc) ∧ acc.length < sizeLine ∧ Nx (upd H4 D (.lst (acc ++ [y]))) else Nx H3) := by
  refine ⟨fun i m H => m = (xs.zip ys).length - i ∧ i ≤ (xs.zip ys).length ∧ unrZ (fun H => SqL K H a xs ∧ SqL K H b ys) g tt te D vs σ Qd ((xs.zip ys).drop i) H, ⟨(xs.zip ys).length, by simp, Nat.zero_le _, h⟩, ?_⟩
  rintro i m H ⟨rfl, hi, p⟩
  by_cases hlt : i < (xs.zip ys).length
  · rw [List.drop_eq_getElem_cons hlt] at p
    obtain ⟨⟨gx, gy⟩, p⟩ := p
    have hl := hlt
    rw [List.length_zip] at hl
    have h1 : i < xs.length := by omega
    have h2 : i < ys.length := by omega
    refine .inr ⟨⟨xs, ys, xs[i], ys[i], gx, gy, List.getElem?_eq_getElem h1, List.getElem?_eq_getElem h2⟩, unrZ (fun H => SqL K H a xs ∧ SqL K H b ys) g tt te D vs σ Qd ((xs.zip ys).drop (i + 1)), fun H' p' => ⟨(xs.zip ys).length - (i + 1), by omega, rfl, hlt, p'⟩, fun x H' y => ?_⟩
    obtain ⟨T, u, v, rfl, hT, rfl, y1, y2⟩ := y
    have e1 := y1 xs gx
    have e2 := y2 ys gy
    rw [List.getElem?_eq_getElem h1] at e1
    rw [List.getElem?_eq_getElem h2] at e2
    cases e1
    cases e2
    have p2 := p T hT
    rw [List.getElem_zip] at p2
    exact p2
  · have e : i = (xs.zip ys).length := by omega
    subst e
    rw [List.drop_length] at p
    refine .inl ⟨⟨xs, ys, p.1.1, p.1.2, ?_⟩, p.2⟩
    rw [List.length_zip]
    omega
/-- a while of at most k turns -/
def unrW (c : TT) (tb : TS) (D : Ends) : Nat → L2.St → Hp → Prop
  | 0, σ, H => c σ H fun b H1 => b = false ∧ D.nx σ H1
  | k + 1, σ, H => c σ H fun b H1 => if b = true then tb { D with nx := unrW c tb D k, ct := unrW c tb D k, bk := D.nx } σ H1 else D.nx σ H1
end
/-- a test's reading that may be weakened -/
def tMnT (t : TT) : TT := fun σ H Q => ∃ Q0 : Bool → Hp → Prop, t σ H Q0 ∧ ∀ b H1, Q0 b H1 → Q b H1
theorem pt_mn {X : Cx} {c : Expr} {t : TT} (h : PT X c t) : PT X c (tMnT t) := by
  refine ⟨fun pins s σ H Q I hq => ?_⟩
  obtain ⟨Q0, q0, im⟩ := hq
  exact thn (h.run pins s σ H Q0 I q0) fun b s1 ⟨H1, I1, q⟩ => ⟨H1, I1, im b H1 q⟩
def tWhU (t : TT) (tb : TS) : TS := fun D σ H => ∃ k, unrW t tb D k σ H
/-- while, a known number of turns at most -/
theorem ps_whU {X : Cx} {c : Expr} {body : List Stmt} {tc : TT} {tb : TS} {pos : Pos} (hp : PassesOwn (model X.prog X.w) X.A X.env X.xe) (hc : PT X c tc) (hb : PSs X body tb) : PS X (.While c body [] pos) (tWhU tc tb) := by
  have h := ps_while (pos := pos) hp (pt_mn hc) hb
  refine ⟨fun pins s σ H D I hq => h.run pins s σ H D I ?_⟩
  obtain ⟨k, hq⟩ := hq
  refine ⟨fun m σ H => unrW tc tb D m σ H, ⟨k, hq⟩, ?_⟩
  intro m σ H p
  cases m with
  | zero =>
    refine ⟨_, p, fun b H1 q => ?_⟩
    obtain ⟨rfl, q⟩ := q
    exact q
  | succ m =>
    refine ⟨_, p, fun b H1 q => ?_⟩
    cases b with
    | true => exact ⟨unrW tc tb D m, fun σ' H' p' => ⟨m, Nat.lt_succ_self m, p'⟩, q⟩
    | false => exact q
def tWhB (t : TT) (tb : TS) : TS := fun D σ H => ∃ (Pv : L2.St → Hp → Prop) (μ : L2.St → Hp → Nat), Pv σ H ∧ ∀ σ H, Pv σ H → t σ H fun b H1 =>
  if b = true then tb { D with nx := fun σ' H' => Pv σ' H' ∧ μ σ' H' < μ σ H, ct := fun σ' H' => Pv σ' H' ∧ μ σ' H' < μ σ H, bk := D.nx } σ H1 else D.nx σ H1
/-- while, by a word and a measure of the state -/
theorem ps_whB {X : Cx} {c : Expr} {body : List Stmt} {tc : TT} {tb : TS} {pos : Pos} (hp : PassesOwn (model X.prog X.w) X.A X.env X.xe) (hc : PT X c tc) (hb : PSs X body tb) : PS X (.While c body [] pos) (tWhB tc tb) := by
  have h := ps_while (pos := pos) hp (pt_mn hc) hb
  refine ⟨fun pins s σ H D I hq => h.run pins s σ H D I ?_⟩
  obtain ⟨Pv, μ, h0, hs⟩ := hq
  refine ⟨fun m σ H => m = μ σ H ∧ Pv σ H, ⟨_, rfl, h0⟩, ?_⟩
  rintro m σ H ⟨rfl, p⟩
  refine ⟨_, hs σ H p, fun b H1 q => ?_⟩
  cases b with
  | true => exact ⟨_, fun σ' H' ⟨p', l⟩ => ⟨_, l, rfl, p'⟩, q⟩
  | false => exact q
/-! ### what is never asked -/
theorem pe_nv {X : Cx} {e : Expr} : PE X e (fun _ _ _ => False) := ⟨fun _ _ _ _ _ _ h => False.elim h⟩
theorem ps_nv {X : Cx} {e : Stmt} : PS X e (fun _ _ _ => False) := ⟨fun _ _ _ _ _ _ h => False.elim h⟩
theorem pss_nv {X : Cx} {e : List Stmt} : PSs X e (fun _ _ _ => False) := ⟨fun _ _ _ _ _ _ h => False.elim h⟩
/-! ### heaps -/
theorem Same.put {H0 H1 : Hp} {p : Addr} {o : HO} (s : Same H0 H1) (h : H0 p = none) : Same H0 (upd H1 p o) := fun b u e => by
  rw [upd_ne (ne_of_none e h)]
  exact s b u e
theorem same_new {H : Hp} {p : Addr} {o : HO} (hp : H p = none) : Same H (upd H p o) := fun b u e => by
  rw [upd_ne (ne_of_none e hp)]
  exact e
theorem Same.new {H0 H1 : Hp} {p : Addr} {o : HO} (s : Same H0 H1) (h : H1 p = none) : Same H0 (upd H1 p o) := s.trans (same_new h)
theorem new_of {H0 H1 : Hp} {p : Addr} (s : Same H0 H1) (h : H1 p = none) : H0 p = none := by
  cases e : H0 p with
  | none => rfl
  | some u =>
    rw [s _ _ e] at h
    cases h
end Xq

/-! The defs' promises in one form; integers, fractions, terms. -/
namespace Xq
open PySem PySem.Spec PyProof.Rows L2
def top (i : Nat) : Stmt := PySem.Challenge.pw_likepanes_k27_whole_numbers_of_fractions.main.body.getD i (.Pass ⟨0, 0, 0, 0⟩)
/-- called with args a where pre holds, it gives a value of which post holds; what was tracked is as it was -/
def Prm {α : Type} (args : α → List V) (pre : α → Hp → Prop) (post : α → Hp → V → Hp → Prop) : Sp := fun vs H Q _ => ∃ a, vs = args a ∧ pre a H ∧ ∀ v H', Same H H' → post a H v H' → Q v H'
/-- a def of the module that keeps a promise, as it is called by its name -/
structure Cal (P : Program) (w : World) (K : PySem.W.Frag) (mg : Str → Option Value) (base : Heap) (k : Nat) (x : Str) (ps : List Str) (sp : Sp) : Prop where
  ex : ∃ f fd, FnOk P w K mg base CX0 k f fd ps sp ∧ Binds K fd ps [] ∧ mg x = some (.ref f) ∧ PySem.W.keepIn K (.ref f) = true ∧ ∃ oc od osl, K.lookup f = some ⟨oc, od, .func fd, osl⟩
/-- the def st stands under its name -/
structure Df (K : PySem.W.Frag) (mg : Str → Option Value) (x : Str) (st : Stmt) : Prop where
  ex : ∃ f fd, Fun K x x st f fd ∧ mg x = some (.ref f)
section
variable {X : Cx} {k j : Nat} {ps : List Str} {sp : Sp} {x : Str} {p pos : Pos} {e : Expr} {es : List Expr} {t : TA}
theorem pe_cl (C : Cal X.prog X.w X.K X.mg X.base k x ps sp) (hr : Room j X.A) (ha : PA X (e :: es) t) (hkj : k ≤ j := by decide) (hg : Gl X x := by rfl) (hdb : (x == ("__debug__" : Str)) = false := by decide)
    (he : starEach (e :: es) X.env = (false, eval e X.env) :: starEach es X.env := by rfl) (hpl : (backTo pos (starEach es X.env)).any (·.1) = false := by rfl) :
    PE X (.Call (.Name x p) (e :: es) [] pos) (tCall sp [] E0 t) := by
  obtain ⟨f, fd, F, b, m, kp, _⟩ := C.ex
  exact pe_call F (hr.mono hkj) hg m kp b .nil pass0 ha hdb he hpl
end
theorem mkC {P : Program} {w : World} {K : PySem.W.Frag} {mg : Str → Option Value} {base : Heap} {α : Type} {args : α → List V} {pre : α → Hp → Prop} {post : α → Hp → V → Hp → Prop} {N ps : List Str} {x : Str} {st : Stmt} {k : Nat}
    (D : Df K mg x st) (S : FnScope N ps (defScope st))
    (hb : ∀ (kV doc pm : Value) (an : Option Addr) (cdv ct : Value) (us : List Value), us.length = ps.length → bindArgs (PySem.W.fnOf x x (defArgs st) (defBody st) (defScope st) .none kV doc pm an cdv ct) ⟨us, []⟩ = pure (ps.zip us))
    (hl : ∀ a : α, (args a).length = ps.length)
    (h : ∀ (f : Addr) (cdv : Value) (A : Around) (outer : List Env) (s : Shared) (H : Hp) (a : α) (Q : VK) (E : XK), Room k (A.deeper (envOfC x (defScope st) s.heap.objs.size f cdv)) → pre a H →
      (∀ v H', Same H H' → post a H v H' → Q v H') →
      ∃ t, PSs (cxOf CX0 P w K mg base N x (defScope st) f cdv A outer s H E).nox (defBody st) t ∧ t { nx := fun _ H' => Q .non H', rt := Q } (L2.start N (args a)) H) :
    Cal P w K mg base (k + 1) x ps (Prm args pre post) := by
  obtain ⟨f, fd, F, m⟩ := D.ex
  have lk : ∃ oc od osl, K.lookup f = some ⟨oc, od, .func fd, osl⟩ := by
    obtain ⟨oc, od, kV, doc, pm, an, cdv, ct, osl, _, lk, _⟩ := F.ex
    exact ⟨oc, od, osl, lk⟩
  refine ⟨f, fd, F.ok S (fun vs H Q E h => ?_) (fun cdv A outer s H vs Q E hr hp => ?_), F.binds hb, m, F.kp, lk⟩
  · obtain ⟨a, rfl, _⟩ := h
    exact hl a
  · obtain ⟨a, rfl, hpre, hk⟩ := hp
    exact h f cdv A outer s H a Q E hr hpre hk
/-- of two promises either -/
def OrS (a b : Sp) : Sp := fun vs H Q E => a vs H Q E ∨ b vs H Q E
theorem Cal.or {P : Program} {w : World} {K : PySem.W.Frag} {mg : Str → Option Value} {base : Heap} {k : Nat} {x : Str} {ps : List Str} {a b : Sp} (C : Cal P w K mg base k x ps a) (C' : Cal P w K mg base k x ps b) : Cal P w K mg base k x ps (OrS a b) := by
  obtain ⟨f, fd, F, bb, m, kp, oc, od, osl, lk⟩ := C.ex
  obtain ⟨f', fd', F', _, m', _, oc', od', osl', lk'⟩ := C'.ex
  rw [m] at m'
  cases m'
  rw [lk] at lk'
  cases lk'
  refine ⟨f, fd, ⟨fun vs H Q E h => h.elim (F.len vs H Q E) (F'.len vs H Q E), ?_⟩, bb, m, kp, oc, od, osl, lk⟩
  intro A outer s H args us vs Q E hr e0 hbd r h
  rcases h with h | h
  · exact F.run A outer s H args us vs Q E hr e0 hbd r h
  · exact F'.run A outer s H args us vs Q E hr e0 hbd r h
/-- the built-ins' names are free -/
structure Bl (mg : Str → Option Value) : Prop where
  isinstance_ : mg "isinstance" = none
  int_ : mg "int" = none
  bool_ : mg "bool" = none
  tuple_ : mg "tuple" = none
  str_ : mg "str" = none
  len_ : mg "len" = none
  all_ : mg "all" = none
  range_ : mg "range" = none
  max_ : mg "max" = none
  min_ : mg "min" = none
  abs_ : mg "abs" = none
  enumerate_ : mg "enumerate" = none
  zip_ : mg "zip" = none
  divmod_ : mg "divmod" = none
  repr_ : mg "repr" = none
  gcd_ : mg "gcd" = some (.builtin "math.gcd")
  deg_ : ∃ t, mg "MOST_DEGREE" = some (.int 5 t)
  term_ : ∃ t, mg "MOST_TERM" = some (.int 1000 t)
  scale_ : ∃ t, mg "MOST_SCALE" = some (.int (10 ^ 40) t)
  bits_ : ∃ t, mg "FIRST_BITS" = some (.int 64 t)
theorem gn {i : Nat} {v : V} {σ : L2.St} {H : Hp} {Q : L2.St → Hp → Prop} : gName i v σ H Q = Q (σ.set i (some v)) H := rfl
/-- a tuple of ints -/
def TI (H : Hp) (p : Addr) (xs : List Int) : Prop := H p = some (.tup (xs.map V.int))
def LI (H : Hp) (p : Addr) (xs : List Int) : Prop := H p = some (.lst (xs.map V.int))
theorem TI.same {H H' : Hp} {p : Addr} {xs : List Int} (s : Same H H') (h : TI H p xs) : TI H' p xs := s _ _ h
section
variable {P : Program} {w : World} {K : PySem.W.Frag} {mg : Str → Option Value} {base : Heap}
theorem pe_isi {X : Cx} {e : Expr} {te : TE} {p p2 pos : Pos} {x : Str} {v : V} {u : Value} (hg : Gl X "isinstance") (hm : X.mg "isinstance" = none) (he : PE X e te) (hg2 : Gl X x) (hm2 : X.mg x = none) (hv : bootBuiltins x = some u) (r : RelV v u)
    (hst : starEach [e, .Name x p2] X.env = (false, eval e X.env) :: starEach [.Name x p2] X.env := by rfl)
    (hn : x ≠ "__name__" := by decide) (hd : (x == ("__debug__" : Str)) = false := by decide) :
    PE X (.Call (.Name "isinstance" p) [e, .Name x p2] [] pos) (tCB (rIsi X.K) (tCons te (tCons (tC v) tNil))) :=
  pe_callB call_isi hg hm (by decide +kernel) (pa_cons he (pa_cons (pe_bltn hg2 hm2 hv r hn hd) pa_nil) hst) (by decide) (by decide) hst
abbrev spIsInt : Sp := Prm (α := Int) (fun i => [.int i]) (fun _ _ => True) (fun _ H v H' => v = .bl true ∧ H' = H)
theorem c_isint (D : Df K mg "is_integer" (top 17)) (B : Bl mg) : Cal P w K mg base 1 "is_integer" ["value"] spIsInt := by
  refine mkC D (N := ["value"]) (⟨rfl, rfl, rfl, by decide +kernel, rfl, by decide +kernel, by decide +kernel⟩) (fun _ _ _ _ _ _ us hl => match us, hl with | [_], _ => rfl) (fun _ => rfl) (fun f cdv A outer s H a Q E hr _ k => ?_)
  refine ⟨_, pss_one (ps_ret (pe_and (pe_isi (v := .ty "int") (by rfl) B.isinstance_ (pv 0) (by rfl) B.int_ PyProof.Rows.boot_int rfl) (pe_one (pe_not (pe_isi (v := .ty "bool") (by rfl) B.isinstance_ (pv 0) (by rfl) B.bool_ PyProof.Rows.boot_bool rfl))))), ?_⟩
  refine ⟨_, rfl, _, _, _, _, true, rfl, .ty _, .base (.int _), kit_ty (by decide +kernel), _, rfl, iteT ?_⟩
  refine ⟨_, rfl, _, _, _, _, false, rfl, .ty _, .base (.int _), kit_ty (by decide +kernel), _, rfl, k _ _ (Same.refl _) ⟨rfl, rfl⟩⟩
end
end Xq

namespace Xq
open PySem PySem.Spec PyProof.Rows L2
section
variable {P : Program} {w : World} {K : PySem.W.Frag} {mg : Str → Option Value} {base : Heap}
theorem s18 : FnScope ["values", "value"] ["values"] (defScope (top 18)) := (⟨rfl, rfl, rfl, by decide +kernel, rfl, by decide +kernel, by decide +kernel⟩)
/-- a tuple of two ints -/
abbrev pre2 : Addr × Int × Int → Hp → Prop := fun a H => TI H a.1 [a.2.1, a.2.2]
abbrev spAreInts : Sp := Prm (α := Addr × Int × Int) (fun a => [.ref a.1]) pre2 (fun _ H v H' => v = .bl true)
theorem c_areints (D : Df K mg "are_integers" (top 18)) (B : Bl mg) (C : Cal P w K mg base 1 "is_integer" ["value"] spIsInt) : Cal P w K mg base 2 "are_integers" ["values"] spAreInts := by
  refine mkC D s18 (fun _ _ _ _ _ _ us hl => match us, hl with | [_], _ => rfl) (fun _ => rfl) (fun f cdv A outer s H a Q E hr h k => ?_)
  obtain ⟨p, x, y⟩ := a
  refine ⟨_, pss_one (ps_ret (pe_callB (cr_all rfl) (by rfl) B.all_ PyProof.Rows.boot_all (pa_cons
    (pe_lc (own := [("value", 1)]) (g := gName 1) (tt := tYes) (te := tCall spIsInt [] E0 (tCons (tVar 1) tNil)) rfl s18.nd (pi_tup (pv 0))
      (blkOk_by (N := ["values", "value"]) (sc := defScope (top 18)) (by decide +kernel)) (fun _ _ _ _ _ => (pg_name (i := 1) (FnScope.nd s18) rfl (Or.inl rfl))) (fun _ _ _ _ _ => pts_nil)
      (fun _ _ _ _ _ => pe_cl C hr (pa_cons (pv 1) pa_nil))) pa_nil))), ?_⟩
  have h0 : H p = some (.tup [.int x, .int y]) := h
  refine ⟨_, rfl, p, rfl, ⟨_, SqT.of h0⟩, fun D hD => lc_yes (G := fun H => SqT K H p [.int x, .int y]) (xs := [.int x, .int y]) walk_tup ?_⟩
  have s1 := same_new (o := .lst []) hD
  refine ⟨SqT.of (s1 _ _ h0), rfl, _, rfl, x, rfl, trivial, ?_⟩
  rintro _ _ - ⟨rfl, rfl⟩
  refine ⟨_, upd_same, by decide, ?_⟩
  rw [upd_upd]
  have s2 := same_new (o := .lst [.bl true]) hD
  refine ⟨SqT.of (s2 _ _ h0), rfl, _, rfl, y, rfl, trivial, ?_⟩
  rintro _ _ - ⟨rfl, rfl⟩
  refine ⟨_, upd_same, by decide, ?_⟩
  rw [upd_upd]
  have s3 := same_new (o := .lst [.bl true, .bl true]) hD
  refine ⟨SqT.of (s3 _ _ h0), D, [true, true], rfl, SqL.of upd_same, k _ _ s3 rfl⟩
theorem s19 : FnScope ["value", "top", "bottom"] ["value"] (defScope (top 19)) := (⟨rfl, rfl, rfl, by decide +kernel, rfl, by decide +kernel, by decide +kernel⟩)
abbrev spIsFrac : Sp := Prm (α := Addr × Int × Int) (fun a => [.ref a.1]) (fun a H => pre2 a H ∧ 1 ≤ a.2.2 ∧ Nat.gcd a.2.1.natAbs a.2.2.natAbs = 1) (fun _ H v H' => v = .bl true)
theorem c_isfrac (D : Df K mg "is_fraction" (top 19)) (B : Bl mg) (C : Cal P w K mg base 2 "are_integers" ["values"] spAreInts) : Cal P w K mg base 3 "is_fraction" ["value"] spIsFrac := by
  refine mkC D s19 (fun _ _ _ _ _ _ us hl => match us, hl with | [_], _ => rfl) (fun _ => rfl) (fun f cdv A outer s H a Q E hr h k => ?_)
  obtain ⟨p, x, y⟩ := a
  obtain ⟨h, hy, hg⟩ := h
  refine ⟨_, pss_cons (ps_if (PW.pt (pw_or (pt_not (pt_val (pe_isi (v := .ty "tuple") (by rfl) B.isinstance_ (pv 0) (by rfl) B.tuple_ PyProof.Rows.boot_tuple rfl)))
      (pw_or ((pt_cmpR op_ne ((pe_callB call_len_seq (by rfl) (Bl.len_ B) PySem.boot_len (pa_cons (pv 0) pa_nil))) pe_int (nomark _))) (pw_or1 (pt_not (pt_val (pe_cl C hr (pa_cons (pv 0) pa_nil)))))))) pss_nv pss_nil)
    (pss_cons (ps_asg (pv 0) (pg_tup rfl (pgs_cons ((pg_name (i := 1) (FnScope.nd s19) rfl (Or.inl rfl))) (pgs_cons ((pg_name (i := 2) (FnScope.nd s19) rfl (Or.inl rfl))) pgs_nil))))
    (pss_one (ps_ret (pe_and (pe_cmpR op_ge (pv 2) pe_int (nomark _)) (pe_one (pe_cmpR op_eq (pe_callBfun cr_gcd (by rfl) B.gcd_ (pa_cons (pv 1) (pa_cons (pv 2) pa_nil))) pe_int (nomark _))))))), ?_⟩
  have h0 : H p = some (.tup [.int x, .int y]) := h
  refine ⟨_, rfl, _, _, _, _, true, rfl, .ty _, .base (.tup h0), kit_ty (by decide +kernel), _, rfl, iteF ?_⟩
  refine ⟨_, rfl, p, _, rfl, .inr (SqT.of h0), rfl, _, rfl, iteF ?_⟩
  refine ⟨_, rfl, (p, x, y), rfl, h, ?_⟩
  rintro _ H1 s1 rfl
  refine ⟨_, rfl, iteF ?_⟩
  refine ⟨_, rfl, p, _, rfl, SqT.of (s1 _ _ h0), rfl, _, _, rfl, _, _, rfl, rfl, ?_⟩
  refine ⟨_, rfl, _, _, rfl, rfl, _, rfl, ?_⟩
  rw [decide_eq_true (show y ≥ 1 from hy)]
  refine iteT ⟨_, rfl, _, rfl, x, y, rfl, rfl, ?_⟩
  refine k _ _ s1 ?_
  rw [hg]
  rfl
theorem s21 : FnScope ["value"] ["value"] (defScope (top 21)) := (⟨rfl, rfl, rfl, by decide +kernel, rfl, by decide +kernel, by decide +kernel⟩)
abbrev spIsTerm : Sp := Prm (α := Int) (fun i => [.int i]) (fun i _ => -1000 ≤ i ∧ i ≤ 1000) (fun _ H v H' => v = .bl true ∧ H' = H)
theorem c_isterm (D : Df K mg "is_term" (top 21)) (B : Bl mg) (C : Cal P w K mg base 1 "is_integer" ["value"] spIsInt) : Cal P w K mg base 2 "is_term" ["value"] spIsTerm := by
  refine mkC D s21 (fun _ _ _ _ _ _ us hl => match us, hl with | [_], _ => rfl) (fun _ => rfl) (fun f cdv A outer s H i Q E hr h k => ?_)
  obtain ⟨t, ht⟩ := B.term_
  refine ⟨_, pss_one (ps_ret (pe_and (pe_cl C hr (pa_cons (pv 0) pa_nil)) (pe_one (pe_chain op_le op_le (pe_un un_neg (pe_glob (v := .int 1000) (by rfl) ht ⟨_, rfl⟩)) (pv 0) (pe_glob (v := .int 1000) (by rfl) ht ⟨_, rfl⟩))))), ?_⟩
  refine ⟨_, rfl, i, rfl, trivial, ?_⟩
  rintro _ _ - ⟨rfl, rfl⟩
  refine ⟨_, rfl, iteT ?_⟩
  refine ⟨_, rfl, _, rfl, _, _, rfl, rfl, _, rfl, ?_⟩
  rw [decide_eq_true (show -1000 ≤ i from h.1)]
  refine iteT ⟨_, _, rfl, rfl, k _ _ (Same.refl _) ⟨?_, rfl⟩⟩
  show V.bl (decide (i ≤ 1000)) = _
  rw [decide_eq_true h.2]
theorem s22 : FnScope ["equation", "at", "term", "last"] ["equation"] (defScope (top 22)) := (⟨rfl, rfl, rfl, by decide +kernel, rfl, by decide +kernel, by decide +kernel⟩)
abbrev spWrong : Sp := Prm (α := Addr × Int × Int) (fun a => [.ref a.1]) (fun a H => pre2 a H ∧ (-1000 ≤ a.2.1 ∧ a.2.1 ≤ 1000) ∧ (-1000 ≤ a.2.2 ∧ a.2.2 ≤ 1000) ∧ a.2.2 ≠ 0) (fun _ H v H' => v = .non)
theorem c_wrong (D : Df K mg "wrong_term" (top 22)) (B : Bl mg) (C : Cal P w K mg base 2 "is_term" ["value"] spIsTerm) : Cal P w K mg base 3 "wrong_term" ["equation"] spWrong := by
  refine mkC D s22 (fun _ _ _ _ _ _ us hl => match us, hl with | [_], _ => rfl) (fun _ => rfl) (fun f cdv A outer s H a Q E hr h k => ?_)
  obtain ⟨p, x, y⟩ := a
  obtain ⟨h, hx, hy, hz⟩ := h
  obtain ⟨t, ht⟩ := B.deg_
  refine ⟨_, pss_cons (ps_for PassesOwn.never rfl (pi_enumT (by rfl) B.enumerate_ (pa_cons (pv 0) pa_nil)) (pg_tup rfl (pgs_cons ((pg_name (i := 1) (FnScope.nd s22) rfl (Or.inl rfl))) (pgs_cons ((pg_name (i := 2) (FnScope.nd s22) rfl (Or.inl rfl))) pgs_nil)))
      (pss_one (ps_if (PW.pt (pw_or ((pt_cmpR op_gt (pv 1) (pe_glob (v := .int 5) (by rfl) ht ⟨_, rfl⟩) (nomark _))) (pw_or1 (pt_not (pt_val (pe_cl C hr (pa_cons (pv 2) pa_nil))))))) pss_nv pss_nil)))
    (pss_cons ((ps_set (i := 3) (FnScope.nd s22) rfl (Or.inl rfl) (pe_op op_sub ((pe_callB call_len_seq (by rfl) (Bl.len_ B) PySem.boot_len (pa_cons (pv 0) pa_nil))) pe_int)))
    (pss_one (ps_ret (pe_ifExp ((pt_cmpR op_eq ((pe_ix ix_tup (pv 0) (pv 3) (fun _ _ => rfl))) pe_int (nomark _))) pe_nv pe_non)))), ?_⟩
  have h0 : H p = some (.tup [.int x, .int y]) := h
  refine ⟨_, rfl, p, _, rfl, SqT.of h0, for_unrE (xs := [.int x, .int y]) ?_⟩
  refine ⟨SqT.of h0, fun T hT => ⟨T, _, rfl, SqT.of upd_same, rfl, _, _, rfl, _, _, rfl, rfl, ?_⟩⟩
  have s1 := same_new (o := .tup [.int (0 : Nat), .int x]) hT
  refine ⟨_, rfl, _, _, rfl, rfl, _, rfl, iteF ?_⟩
  refine ⟨_, rfl, x, rfl, hx, ?_⟩
  rintro _ _ - ⟨rfl, rfl⟩
  refine ⟨_, rfl, iteF ?_⟩
  have h1 := s1 _ _ h0
  refine ⟨SqT.of h1, fun T2 hT2 => ⟨T2, _, rfl, SqT.of upd_same, rfl, _, _, rfl, _, _, rfl, rfl, ?_⟩⟩
  have s2 := s1.trans (same_new (o := .tup [.int (1 : Nat), .int y]) hT2)
  refine ⟨_, rfl, _, _, rfl, rfl, _, rfl, iteF ?_⟩
  refine ⟨_, rfl, y, rfl, hy, ?_⟩
  rintro _ _ - ⟨rfl, rfl⟩
  refine ⟨_, rfl, iteF ?_⟩
  have h2 := s2 _ _ h0
  refine ⟨SqT.of h2, ?_⟩
  refine ⟨_, rfl, p, _, rfl, .inr (SqT.of h2), _, _, rfl, rfl, ?_⟩
  refine ⟨_, rfl, _, rfl, p, _, 1, .int y, rfl, rfl, SqT.of h2, atI_nat (j := 1) rfl, rfl, _, rfl, ?_⟩
  rw [dec_int, show (y == 0) = false from by simpa using hz]
  exact iteF (k _ _ s2 rfl)
end
end Xq

namespace Xq
open PySem PySem.Spec PyProof.Rows L2
def trimM (xs : List Int) : Nat → Nat
  | 0 => 0
  | m + 1 => if xs.getD m 0 = 0 then trimM xs m else m + 1
def trimI (xs : List Int) : List Int := xs.take (trimM xs xs.length)
theorem trimM_le (xs : List Int) : ∀ m, trimM xs m ≤ m
  | 0 => Nat.le_refl _
  | m + 1 => by
    unfold trimM
    split
    · exact Nat.le_succ_of_le (trimM_le xs m)
    · exact Nat.le_refl _
def gcdL (xs : List Int) : Nat := xs.foldl (fun g x => Nat.gcd g x.natAbs) 0
theorem gcdL_succ {xs : List Int} {i : Nat} {x : Int} (h : xs[i]? = some x) : gcdL (xs.take (i + 1)) = Nat.gcd (gcdL (xs.take i)) x.natAbs := by
  unfold gcdL
  rw [List.take_add_one, h, Option.toList_some, List.foldl_append]
  rfl
section
variable {P : Program} {w : World} {K : PySem.W.Frag} {mg : Str → Option Value} {base : Heap}
theorem s24 : FnScope ["terms", "many"] ["terms"] (defScope (top 24)) := (⟨rfl, rfl, rfl, by decide +kernel, rfl, by decide +kernel, by decide +kernel⟩)
/-- a list or a tuple of ints -/
def Sq (H : Hp) (p : Addr) (xs : List Int) : Prop := LI H p xs ∨ TI H p xs
theorem Sq.len {H : Hp} {p : Addr} {xs : List Int} (h : Sq H p xs) : SqL K H p (xs.map V.int) ∨ SqT K H p (xs.map V.int) := h.elim (fun q => .inl (SqL.of q)) (fun q => .inr (SqT.of q))
abbrev spTrim : Sp := Prm (α := Addr × List Int) (fun a => [.ref a.1]) (fun a H => Sq H a.1 a.2) (fun a H v H' => ∃ q, v = .ref q ∧ TI H' q (trimI a.2))
theorem c_trim (D : Df K mg "trimmed" (top 24)) (B : Bl mg) : Cal P w K mg base 1 "trimmed" ["terms"] spTrim := by
  refine mkC D s24 (fun _ _ _ _ _ _ us hl => match us, hl with | [_], _ => rfl) (fun _ => rfl) (fun f cdv A outer s H a Q E hr h k => ?_)
  obtain ⟨p, xs⟩ := a
  have len0 : SqL K H p (xs.map V.int) ∨ SqT K H p (xs.map V.int) := Sq.len h
  have cut : cutV (xs.map V.int) none (some (trimM xs xs.length : Nat)) = (trimI xs).map V.int := by
    have hl := trimM_le xs xs.length
    have e1 : HT.sIx (xs.map V.int).length 0 none = 0 := rfl
    have e2 : HT.sIx (xs.map V.int).length (xs.map V.int).length (some ((trimM xs xs.length : Nat) : Int)) = trimM xs xs.length := by
      rw [HT.sIx_nat, List.length_map]
      omega
    unfold cutV trimI
    rw [e1, e2, List.drop_zero, Nat.sub_zero, List.map_take]
  have stp : ∀ m : Nat, 0 < m → m ≤ xs.length → ∃ z, xs[m - 1]? = some z ∧ (xs.map V.int)[m - 1]? = some (V.int z) ∧ (z = 0 → trimM xs m = trimM xs (m - 1)) ∧ (z ≠ 0 → trimM xs m = m) := fun m h0 hm => by
    have hlt : m - 1 < xs.length := by omega
    refine ⟨xs[m - 1], List.getElem?_eq_getElem hlt, by rw [List.getElem?_map, List.getElem?_eq_getElem hlt]; rfl, fun hz => ?_, fun hz => ?_⟩
    · obtain ⟨n, rfl⟩ : ∃ n, m = n + 1 := ⟨m - 1, by omega⟩
      have e : xs.getD n 0 = 0 := by
        rw [List.getD_eq_getElem?_getD, List.getElem?_eq_getElem (show n < xs.length from hlt), Option.getD_some]
        exact hz
      show (if xs.getD n 0 = 0 then trimM xs n else n + 1) = trimM xs n
      rw [if_pos e]
    · obtain ⟨n, rfl⟩ : ∃ n, m = n + 1 := ⟨m - 1, by omega⟩
      have e : ¬ xs.getD n 0 = 0 := by
        rw [List.getD_eq_getElem?_getD, List.getElem?_eq_getElem (show n < xs.length from hlt), Option.getD_some]
        exact hz
      show (if xs.getD n 0 = 0 then trimM xs n else n + 1) = n + 1
      rw [if_neg e]
  rcases h with h | h
  · have hq : SqL K H p (xs.map V.int) := SqL.of h
    refine ⟨_, pss_cons ((ps_set (i := 1) (FnScope.nd s24) rfl (Or.inl rfl) ((pe_callB call_len_seq (by rfl) (Bl.len_ B) PySem.boot_len (pa_cons (pv 0) pa_nil)))))
      (pss_cons (ps_whB PassesOwn.never (PW.pt (pw_and ((pt_cmpR op_gt (pv 1) pe_int (nomark _))) (pw_and1 ((pt_cmpR op_eq ((pe_ix ix_list (pv 0) (pe_op op_sub (pv 1) pe_int) (fun _ _ => rfl))) pe_int (nomark _)))))) (pss_one (ps_aug (i := 1) s24.nd rfl (Or.inl rfl) pe_int ip_sub)))
      (pss_one (ps_ret (pe_callTy call_tuple_of (by rfl) B.tuple_ PyProof.Rows.boot_tuple (pa_cons (pe_slice sl_list (pv 0) po_none (po_some (pv 1))) pa_nil))))), ?_⟩
    refine ⟨_, rfl, p, _, rfl, len0, ?_⟩
    refine ⟨fun σ H' => H' = H ∧ ∃ m : Nat, σ = [some (.ref p), some (.int m)] ∧ m ≤ xs.length ∧ trimM xs m = trimM xs xs.length, fun σ _ => (match σ with | [_, some (.int m)] => m.toNat | _ => 0), ⟨rfl, xs.length, by rw [List.length_map]; rfl, Nat.le_refl _, rfl⟩, ?_⟩
    rintro σ H' ⟨rfl, m, rfl, hm, ht⟩
    have fin : m = 0 ∨ trimM xs m = m → Q (.ref p) H' ∨ True := fun _ => .inr trivial
    refine ⟨_, rfl, _, _, rfl, rfl, _, rfl, ?_⟩
    have done : trimM xs m = m → (tRet (tCB (fun xs H Q => ∃ p ys, xs = [.ref p] ∧ ((SqL K H p ys ∧ ∀ l, H l = none → Q (.ref l) (upd H l (.tup ys))) ∨ (SqT K H p ys ∧ Q (.ref p) H))) (tCons (tSl (rSlL K) (tVar 0) tNoPart (tPart (tVar 1))) tNil))) { nx := fun _ H' => Q .non H', rt := Q } [some (.ref p), some (.int m)] H' := fun e => by
      refine ⟨_, rfl, _, rfl, _, rfl, p, _, rfl, hq, fun q hq2 => ?_⟩
      have em : m = trimM xs xs.length := e.symm.trans ht
      subst em
      rw [cut]
      have s1 := same_new (o := .lst ((trimI xs).map V.int)) hq2
      refine ⟨q, _, rfl, .inl ⟨SqL.of upd_same, fun q3 hq3 => ?_⟩⟩
      exact k _ _ (Same.new s1 hq3) ⟨q3, rfl, upd_same⟩
    refine ite2 (fun hb => ?_) (fun hb => ?_)
    · have h0 : 0 < m := by
        have q : ((m : Int) > 0) := of_decide_eq_true hb
        omega
      obtain ⟨z, z1, z2, z3, z4⟩ := stp m h0 hm
      have em : ((m : Int) - 1) = ((m - 1 : Nat) : Int) := by omega
      refine ⟨_, rfl, _, rfl, _, _, rfl, rfl, p, _, _, .int z, rfl, rfl, hq, (by rw [em]; exact atI_nat z2), rfl, _, rfl, ?_⟩
      rw [dec_int]
      refine ite2 (fun hz => ?_) (fun hz => ?_)
      · refine ⟨_, rfl, _, _, rfl, rfl, ?_⟩
        refine ⟨⟨rfl, m - 1, by rw [← em]; rfl, by omega, by rw [← z3 (by simpa using hz)]; exact ht⟩, ?_⟩
        show ((m : Int) - 1).toNat < (m : Int).toNat
        omega
      · exact done (z4 (by simpa using hz))
    · have h0 : m = 0 := by
        have q : ¬ ((m : Int) > 0) := fun q => hb (decide_eq_true q)
        omega
      subst h0
      exact done rfl
  · have hq : SqT K H p (xs.map V.int) := SqT.of h
    refine ⟨_, pss_cons ((ps_set (i := 1) (FnScope.nd s24) rfl (Or.inl rfl) ((pe_callB call_len_seq (by rfl) (Bl.len_ B) PySem.boot_len (pa_cons (pv 0) pa_nil)))))
      (pss_cons (ps_whB PassesOwn.never (PW.pt (pw_and ((pt_cmpR op_gt (pv 1) pe_int (nomark _))) (pw_and1 ((pt_cmpR op_eq ((pe_ix ix_tup (pv 0) (pe_op op_sub (pv 1) pe_int) (fun _ _ => rfl))) pe_int (nomark _)))))) (pss_one (ps_aug (i := 1) s24.nd rfl (Or.inl rfl) pe_int ip_sub)))
      (pss_one (ps_ret (pe_callTy call_tuple_of (by rfl) B.tuple_ PyProof.Rows.boot_tuple (pa_cons (pe_slice sl_tupA (pv 0) po_none (po_some (pv 1))) pa_nil))))), ?_⟩
    refine ⟨_, rfl, p, _, rfl, len0, ?_⟩
    refine ⟨fun σ H' => H' = H ∧ ∃ m : Nat, σ = [some (.ref p), some (.int m)] ∧ m ≤ xs.length ∧ trimM xs m = trimM xs xs.length, fun σ _ => (match σ with | [_, some (.int m)] => m.toNat | _ => 0), ⟨rfl, xs.length, by rw [List.length_map]; rfl, Nat.le_refl _, rfl⟩, ?_⟩
    rintro σ H' ⟨rfl, m, rfl, hm, ht⟩
    refine ⟨_, rfl, _, _, rfl, rfl, _, rfl, ?_⟩
    have done : trimM xs m = m → (tRet (tCB (fun xs H Q => ∃ p ys, xs = [.ref p] ∧ ((SqL K H p ys ∧ ∀ l, H l = none → Q (.ref l) (upd H l (.tup ys))) ∨ (SqT K H p ys ∧ Q (.ref p) H))) (tCons (tSl (rSlA K) (tVar 0) tNoPart (tPart (tVar 1))) tNil))) { nx := fun _ H' => Q .non H', rt := Q } [some (.ref p), some (.int m)] H' := fun e => by
      have em : m = trimM xs xs.length := e.symm.trans ht
      refine ⟨_, rfl, _, rfl, _, rfl, p, _, rfl, hq, fun hw => ?_, fun hw q hq2 => ?_⟩
      · have e2 : HT.sIx (xs.map V.int).length (xs.map V.int).length (some (m : Int)) = (xs.map V.int).length := hw.2
        have hml : m = xs.length := by
          rw [HT.sIx_nat, List.length_map] at e2
          omega
        refine ⟨p, _, rfl, .inr ⟨hq, k _ _ (Same.refl _) ⟨p, rfl, ?_⟩⟩⟩
        have et : trimI xs = xs := by
          unfold trimI
          rw [← em, hml, List.take_length]
        show TI H' p (trimI xs)
        rw [et]
        exact h
      · subst em
        rw [cut]
        have s1 := same_new (o := .tup ((trimI xs).map V.int)) hq2
        exact ⟨q, _, rfl, .inr ⟨SqT.of upd_same, k _ _ s1 ⟨q, rfl, upd_same⟩⟩⟩
    refine ite2 (fun hb => ?_) (fun hb => ?_)
    · have h0 : 0 < m := by
        have q : ((m : Int) > 0) := of_decide_eq_true hb
        omega
      obtain ⟨z, z1, z2, z3, z4⟩ := stp m h0 hm
      have em : ((m : Int) - 1) = ((m - 1 : Nat) : Int) := by omega
      refine ⟨_, rfl, _, rfl, _, _, rfl, rfl, p, _, _, .int z, rfl, rfl, hq, (by rw [em]; exact atI_nat z2), rfl, _, rfl, ?_⟩
      rw [dec_int]
      refine ite2 (fun hz => ?_) (fun hz => ?_)
      · refine ⟨_, rfl, _, _, rfl, rfl, ?_⟩
        refine ⟨⟨rfl, m - 1, by rw [← em]; rfl, by omega, by rw [← z3 (by simpa using hz)]; exact ht⟩, ?_⟩
        show ((m : Int) - 1).toNat < (m : Int).toNat
        omega
      · exact done (z4 (by simpa using hz))
    · have h0 : m = 0 := by
        have q : ¬ ((m : Int) > 0) := fun q => hb (decide_eq_true q)
        omega
      subst h0
      exact done rfl
theorem s25 : FnScope ["terms", "common", "term"] ["terms"] (defScope (top 25)) := (⟨rfl, rfl, rfl, by decide +kernel, rfl, by decide +kernel, by decide +kernel⟩)
abbrev spGcd : Sp := Prm (α := Addr × List Int) (fun a => [.ref a.1]) (fun a H => Sq H a.1 a.2) (fun a H v H' => v = .int (gcdL a.2 : Nat) ∧ H' = H)
theorem c_gcd (D : Df K mg "common_divisor" (top 25)) (B : Bl mg) : Cal P w K mg base 1 "common_divisor" ["terms"] spGcd := by
  refine mkC D s25 (fun _ _ _ _ _ _ us hl => match us, hl with | [_], _ => rfl) (fun _ => rfl) (fun f cdv A outer s H a Q E hr h k => ?_)
  obtain ⟨p, xs⟩ := a
  have turn : ∀ (i : Nat) (x : V) (g : Nat), (xs.map V.int)[i]? = some x → ∃ z, xs[i]? = some z ∧ x = .int z := fun i x g hx => by
    rw [List.getElem?_map] at hx
    cases e : xs[i]? with
    | none => rw [e] at hx; cases hx
    | some z => rw [e] at hx; exact ⟨z, rfl, (Option.some.inj hx).symm⟩
  rcases h with h | h
  · have hq : SqL K H p (xs.map V.int) := SqL.of h
    refine ⟨_, pss_cons ((ps_set (i := 1) (FnScope.nd s25) rfl (Or.inl rfl) pe_int)) (pss_cons (ps_for PassesOwn.never rfl (pi_list (pv 0)) ((pg_name (i := 2) (FnScope.nd s25) rfl (Or.inl rfl)))
        (pss_one ((ps_set (i := 1) (FnScope.nd s25) rfl (Or.inl rfl) (pe_callBfun cr_gcd (by rfl) B.gcd_ (pa_cons (pv 1) (pa_cons (pv 2) pa_nil))))))) (pss_one (ps_ret (pv 1)))), ?_⟩
    refine ⟨_, rfl, p, rfl, ⟨_, hq⟩, for_list (xs := xs.map V.int) (fun i σ H' => H' = H ∧ ∃ z, σ = [some (.ref p), some (.int (gcdL (xs.take i) : Nat)), z]) ⟨rfl, none, rfl⟩ (fun i σ H' _ q => by rw [q.1]; exact hq) ?_ ?_⟩
    · rintro i x σ H' hx ⟨rfl, z, rfl⟩
      obtain ⟨y, hy, rfl⟩ := turn i x 0 hx
      refine ⟨_, rfl, _, rfl, _, _, rfl, ?_⟩
      refine ⟨rfl, some (.int y), ?_⟩
      rw [gcdL_succ hy]
      rfl
    · rintro σ H' ⟨rfl, z, rfl⟩
      refine ⟨_, rfl, k _ _ (Same.refl _) ⟨?_, rfl⟩⟩
      rw [List.length_map, List.take_length]
  · have hq : SqT K H p (xs.map V.int) := SqT.of h
    refine ⟨_, pss_cons ((ps_set (i := 1) (FnScope.nd s25) rfl (Or.inl rfl) pe_int)) (pss_cons (ps_for PassesOwn.never rfl (pi_tup (pv 0)) ((pg_name (i := 2) (FnScope.nd s25) rfl (Or.inl rfl)))
        (pss_one ((ps_set (i := 1) (FnScope.nd s25) rfl (Or.inl rfl) (pe_callBfun cr_gcd (by rfl) B.gcd_ (pa_cons (pv 1) (pa_cons (pv 2) pa_nil))))))) (pss_one (ps_ret (pv 1)))), ?_⟩
    refine ⟨_, rfl, p, rfl, ⟨_, hq⟩, for_tup (xs := xs.map V.int) (fun i σ H' => H' = H ∧ ∃ z, σ = [some (.ref p), some (.int (gcdL (xs.take i) : Nat)), z]) ⟨rfl, none, rfl⟩ (fun i σ H' _ q => by rw [q.1]; exact hq) ?_ ?_⟩
    · rintro i x σ H' hx ⟨rfl, z, rfl⟩
      obtain ⟨y, hy, rfl⟩ := turn i x 0 hx
      refine ⟨_, rfl, _, rfl, _, _, rfl, ?_⟩
      refine ⟨rfl, some (.int y), ?_⟩
      rw [gcdL_succ hy]
      rfl
    · rintro σ H' ⟨rfl, z, rfl⟩
      refine ⟨_, rfl, k _ _ (Same.refl _) ⟨?_, rfl⟩⟩
      rw [List.length_map, List.take_length]
theorem s26 : FnScope ["terms", "common", "term"] ["terms"] (defScope (top 26)) := (⟨rfl, rfl, rfl, by decide +kernel, rfl, by decide +kernel, by decide +kernel⟩)
/-- asked here of () alone -/
abbrev spPrim : Sp := Prm (α := Addr) (fun a => [.ref a]) (fun a H => TI H a []) (fun a H v H' => v = .ref a ∧ H' = H)
theorem c_prim (D : Df K mg "primitive" (top 26)) (B : Bl mg) (C : Cal P w K mg base 1 "common_divisor" ["terms"] spGcd) : Cal P w K mg base 2 "primitive" ["terms"] spPrim := by
  refine mkC D s26 (fun _ _ _ _ _ _ us hl => match us, hl with | [_], _ => rfl) (fun _ => rfl) (fun f cdv A outer s H p Q E hr h k => ?_)
  refine ⟨_, pss_cons (ps_set (i := 1) s26.nd rfl (Or.inr rfl) (pe_cl C hr (pa_cons (pv 0) pa_nil))) (pss_one (ps_ret (pe_ifExp ((pt_cmpR op_gt (pv 1) pe_int (nomark _))) pe_nv (pv 0)))), ?_⟩
  refine ⟨_, rfl, (p, []), rfl, .inr h, ?_⟩
  rintro _ _ - ⟨rfl, rfl⟩
  exact ⟨_, rfl, _, _, rfl, rfl, _, rfl, iteF ⟨_, rfl, k _ _ (Same.refl _) ⟨rfl, rfl⟩⟩⟩
theorem s27 : FnScope ["terms", "term"] ["terms"] (defScope (top 27)) := (⟨rfl, rfl, rfl, by decide +kernel, rfl, by decide +kernel, by decide +kernel⟩)
abbrev spNeg : Sp := Prm (α := Addr × List Int) (fun a => [.ref a.1]) (fun a H => TI H a.1 a.2 ∧ a.2.length ≤ 1) (fun a H v H' => ∃ q, v = .ref q ∧ TI H' q (a.2.map fun x => -x))
theorem c_neg (D : Df K mg "negative" (top 27)) (B : Bl mg) : Cal P w K mg base 1 "negative" ["terms"] spNeg := by
  refine mkC D s27 (fun _ _ _ _ _ _ us hl => match us, hl with | [_], _ => rfl) (fun _ => rfl) (fun f cdv A outer s H a Q E hr h k => ?_)
  obtain ⟨p, xs⟩ := a
  obtain ⟨h, hl⟩ := h
  refine ⟨_, pss_one (ps_ret (pe_callTy call_tuple_of (by rfl) B.tuple_ PyProof.Rows.boot_tuple (pa_cons (pe_lc (own := [("term", 1)]) (g := gName 1) (tt := tYes) (te := tUn (rU fun i => .int (-i)) (tVar 1)) rfl s27.nd (pi_tup (pv 0))
      (blkOk_by (N := ["terms", "term"]) (sc := defScope (top 27)) (by decide +kernel)) (fun _ _ _ _ _ => (pg_name (i := 1) (FnScope.nd s27) rfl (Or.inl rfl))) (fun _ _ _ _ _ => pts_nil)
      (fun _ _ _ _ _ => pe_un un_neg (pv 1))) pa_nil))), ?_⟩
  have hq : SqT K H p (xs.map V.int) := SqT.of h
  refine ⟨_, rfl, p, rfl, ⟨_, hq⟩, fun D hD => lc_yes (G := fun H => SqT K H p (xs.map V.int)) (xs := xs.map V.int) walk_tup ?_⟩
  have s1 := same_new (o := .lst []) hD
  have fin : ∀ ys : List Int, ys = xs.map (fun x => -x) → ∀ q, upd H D (.lst (ys.map V.int)) q = none → Q (.ref q) (upd (upd H D (.lst (ys.map V.int))) q (.tup (ys.map V.int))) := fun ys e q hq => by
    refine k _ _ (Same.new (same_new hD) hq) ⟨q, rfl, ?_⟩
    rw [← e]
    exact upd_same
  rcases xs with _ | ⟨x, _ | ⟨y, t⟩⟩
  · refine ⟨SqT.of (s1 _ _ h), D, [], rfl, .inl ⟨SqL.of upd_same, fun q hq => ?_⟩⟩
    exact fin [] rfl q hq
  · refine ⟨SqT.of (s1 _ _ h), rfl, _, rfl, x, rfl, _, upd_same, by decide, ?_⟩
    rw [upd_upd]
    have s2 := same_new (o := .lst [.int (-x)]) hD
    refine ⟨SqT.of (s2 _ _ h), D, [.int (-x)], rfl, .inl ⟨SqL.of upd_same, fun q hq => ?_⟩⟩
    exact fin [-x] rfl q hq
  · exact absurd (show t.length + 1 + 1 ≤ 1 from hl) (by omega)
theorem s28 : FnScope ["terms", "at"] ["terms"] (defScope (top 28)) := (⟨rfl, rfl, rfl, by decide +kernel, rfl, by decide +kernel, by decide +kernel⟩)
abbrev spDer : Sp := Prm (α := Addr × Int × Int) (fun a => [.ref a.1]) pre2 (fun a H v H' => ∃ q, v = .ref q ∧ TI H' q [a.2.2])
theorem c_der (D : Df K mg "derivative" (top 28)) (B : Bl mg) : Cal P w K mg base 1 "derivative" ["terms"] spDer := by
  refine mkC D s28 (fun _ _ _ _ _ _ us hl => match us, hl with | [_], _ => rfl) (fun _ => rfl) (fun f cdv A outer s H a Q E hr h k => ?_)
  obtain ⟨p, x, y⟩ := a
  have h0 : H p = some (.tup [.int x, .int y]) := h
  refine ⟨_, pss_one (ps_ret (pe_callTy call_tuple_of (by rfl) B.tuple_ PyProof.Rows.boot_tuple (pa_cons (pe_lc (own := [("at", 1)]) (g := gName 1) (tt := tYes) (te := tOp (rI CMul fun i j => .int (i * j)) (tVar 1) (tOp (rIxT K) (tVar 0) (tVar 1))) rfl s28.nd
      (pi_range2 (by rfl) B.range_ (pa_cons pe_int (pa_cons ((pe_callB call_len_seq (by rfl) (Bl.len_ B) PySem.boot_len (pa_cons (pv 0) pa_nil))) pa_nil)))
      (blkOk_by (N := ["terms", "at"]) (sc := defScope (top 28)) (by decide +kernel)) (fun _ _ _ _ _ => (pg_name (i := 1) (FnScope.nd s28) rfl (Or.inl rfl))) (fun _ _ _ _ _ => pts_nil)
      (fun _ _ _ _ _ => pe_op op_mul (pv 1) ((pe_ix ix_tup (pv 0) (pv 1) (fun _ _ => rfl))))) pa_nil))), ?_⟩
  refine ⟨_, rfl, p, _, rfl, .inr (SqT.of h0), _, _, rfl, ⟨by decide, by decide, (by show -2 ^ 62 ≤ (2 : Int); decide), (by show (2 : Int) < 2 ^ 62; decide)⟩, fun D hD => lc_range (lo := 1) (n := 1) (fun i H' => (i = 0 ∧ H' = upd H D (.lst [])) ∨ (i = 1 ∧ H' = upd H D (.lst [.int y]))) (.inl ⟨rfl, rfl⟩) ?_ ?_⟩
  · rintro i H' hi (⟨rfl, rfl⟩ | ⟨rfl, rfl⟩)
    · have s1 := same_new (o := .lst []) hD
      refine ⟨rfl, ?_⟩
      simp only [tYes, if_true]
      refine ⟨_, rfl, _, rfl, _, rfl, p, _, _, .int y, rfl, rfl, SqT.of (s1 _ _ h0), atI_nat (j := 1) rfl, _, _, rfl, rfl, .inl ⟨by decide, by decide⟩, _, upd_same, by decide, .inr ⟨trivial, ?_⟩⟩
      rw [upd_upd]
      show upd H D (.lst [.int (1 * y)]) = _
      rw [Int.one_mul]
    · exact absurd hi (by decide)
  · rintro H' (⟨e, _⟩ | ⟨_, rfl⟩)
    · cases e
    · have s1 := same_new (o := .lst [.int y]) hD
      exact ⟨D, [.int y], rfl, .inl ⟨SqL.of upd_same, fun q hq => k _ _ (Same.new s1 hq) ⟨q, rfl, upd_same⟩⟩⟩
end
end Xq

namespace Xq
open PySem PySem.Spec PyProof.Rows L2
/-- below 2 ^ n in size -/
abbrev Sm (n : Nat) (i : Int) : Prop := i.natAbs < 2 ^ n
theorem sm_mul {i j : Int} {a b : Nat} (ha : Sm a i) (hb : Sm b j) : Sm (a + b) (i * j) := wide_lt ha hb
theorem sm_le {i : Int} {a b : Nat} (ha : Sm a i) (h : a ≤ b) : Sm b i := Nat.lt_of_lt_of_le ha (Nat.pow_le_pow_right (by decide) h)
theorem sm_neg {i : Int} {a : Nat} (ha : Sm a i) : Sm a (-i) := by
  unfold Sm
  rw [Int.natAbs_neg]
  exact ha
theorem sm_add {i j : Int} {a : Nat} (ha : Sm a i) (hb : Sm a j) : Sm (a + 1) (i + j) := by
  have h := Int.natAbs_add_le i j
  have e : 2 ^ (a + 1) = 2 ^ a + 2 ^ a := by rw [Nat.pow_succ]; omega
  unfold Sm at *
  omega
theorem sm_sub {i j : Int} {a : Nat} (ha : Sm a i) (hb : Sm a j) : Sm (a + 1) (i - j) := by
  rw [Int.sub_eq_add_neg]
  exact sm_add ha (sm_neg hb)
theorem cm {i j : Int} {a b : Nat} (ha : Sm a i) (hb : Sm b j) (h0 : 0 < a := by decide) (h1 : 0 < b := by decide) (h : a + b ≤ 1000000 := by decide) : CMulW i j := wide_mul ha hb h0 h1 h
section
variable {P : Program} {w : World} {K : PySem.W.Frag} {mg : Str → Option Value} {base : Heap}
abbrev nV : List Str := ["terms", "top", "bottom", "value", "scale", "term"]
theorem s29 : FnScope nV ["terms", "top", "bottom"] (defScope (top 29)) := (⟨rfl, rfl, rfl, by decide +kernel, rfl, by decide +kernel, by decide +kernel⟩)
abbrev spVal1 : Sp := Prm (α := Addr × Int × Int × Int) (fun a => [.ref a.1, .int a.2.2.1, .int a.2.2.2]) (fun a H => Sq H a.1 [a.2.1]) (fun a H v H' => v = .int a.2.1)
abbrev spVal2 : Sp := Prm (α := Addr × Int × Int × Int) (fun a => [.ref a.1, .int a.2.2.2, .int 1]) (fun a H => TI H a.1 [a.2.1, a.2.2.1] ∧ -1000 ≤ a.2.2.1 ∧ a.2.2.1 ≤ 1000) (fun a H v H' => v = .int (a.2.2.1 * a.2.2.2 + a.2.1))
theorem c_val1 (D : Df K mg "value_at" (top 29)) : Cal P w K mg base 1 "value_at" ["terms", "top", "bottom"] spVal1 := by
  refine mkC D s29 (fun _ _ _ _ _ _ us hl => match us, hl with | [_, _, _], _ => rfl) (fun _ => rfl) (fun f cdv A outer s H a Q E hr h k => ?_)
  obtain ⟨p, x, t, b⟩ := a
  rcases h with h | h
  · have h0 : H p = some (.lst [.int x]) := h
    refine ⟨_, pss_cons (ps_asg (pe_tup (pa_cons pe_int (pa_cons pe_int pa_nil))) (pg_tup rfl (pgs_cons ((pg_name (i := 3) (FnScope.nd s29) rfl (Or.inl rfl))) (pgs_cons ((pg_name (i := 4) (FnScope.nd s29) rfl (Or.inl rfl))) pgs_nil))))
      (pss_cons (ps_for PassesOwn.never rfl (pi_list (pe_revL (pv 0))) ((pg_name (i := 5) (FnScope.nd s29) rfl (Or.inl rfl)))
        (pss_cons ((ps_set (i := 3) (FnScope.nd s29) rfl (Or.inl rfl) (pe_op op_add (pe_op op_mul (pv 3) (pv 1)) (pe_op op_mul (pv 5) (pv 4))))) (pss_one (ps_aug (i := 4) s29.nd rfl (Or.inl rfl) (pv 2) iop_mul))))
      (pss_one (ps_ret (pv 3)))), ?_⟩
    refine ⟨by decide, fun z hz => ⟨z, _, rfl, SqT.of upd_same, rfl, _, _, rfl, _, _, rfl, rfl, ?_⟩⟩
    have s0 := same_new (o := .tup [.int 0, .int 1]) hz
    refine ⟨_, rfl, p, _, rfl, SqL.of (s0 _ _ h0), fun q hq => ?_⟩
    refine ⟨q, rfl, ⟨_, SqL.of upd_same⟩, for_unr (xs := [.int x]) walk_list ?_⟩
    refine ⟨SqL.of upd_same, _, rfl, _, rfl, _, _, rfl, rfl, .inl ⟨by decide, by decide⟩, _, rfl, _, rfl, _, _, rfl, rfl, .inr ⟨by decide, by decide⟩, _, _, rfl, rfl, ?_⟩
    refine ⟨_, rfl, _, rfl, _, _, rfl, rfl, .inl ⟨by decide, by decide⟩, SqL.of upd_same, _, rfl, k _ _ (Same.new s0 hq) ?_⟩
    show V.int (0 * t + x * 1) = _
    rw [Int.zero_mul, Int.zero_add, Int.mul_one]
  · have h0 : H p = some (.tup [.int x]) := h
    refine ⟨_, pss_cons (ps_asg (pe_tup (pa_cons pe_int (pa_cons pe_int pa_nil))) (pg_tup rfl (pgs_cons ((pg_name (i := 3) (FnScope.nd s29) rfl (Or.inl rfl))) (pgs_cons ((pg_name (i := 4) (FnScope.nd s29) rfl (Or.inl rfl))) pgs_nil))))
      (pss_cons (ps_for PassesOwn.never rfl (pi_tup (pe_revT (pv 0))) ((pg_name (i := 5) (FnScope.nd s29) rfl (Or.inl rfl)))
        (pss_cons ((ps_set (i := 3) (FnScope.nd s29) rfl (Or.inl rfl) (pe_op op_add (pe_op op_mul (pv 3) (pv 1)) (pe_op op_mul (pv 5) (pv 4))))) (pss_one (ps_aug (i := 4) s29.nd rfl (Or.inl rfl) (pv 2) iop_mul))))
      (pss_one (ps_ret (pv 3)))), ?_⟩
    refine ⟨by decide, fun z hz => ⟨z, _, rfl, SqT.of upd_same, rfl, _, _, rfl, _, _, rfl, rfl, ?_⟩⟩
    have s0 := same_new (o := .tup [.int 0, .int 1]) hz
    refine ⟨_, rfl, p, _, rfl, SqT.of (s0 _ _ h0), .inl rfl, fun q hq => ?_⟩
    refine ⟨q, rfl, ⟨_, SqT.of upd_same⟩, for_unr (xs := [.int x]) walk_tup ?_⟩
    refine ⟨SqT.of upd_same, _, rfl, _, rfl, _, _, rfl, rfl, .inl ⟨by decide, by decide⟩, _, rfl, _, rfl, _, _, rfl, rfl, .inr ⟨by decide, by decide⟩, _, _, rfl, rfl, ?_⟩
    refine ⟨_, rfl, _, rfl, _, _, rfl, rfl, .inl ⟨by decide, by decide⟩, SqT.of upd_same, _, rfl, k _ _ (Same.new s0 hq) ?_⟩
    show V.int (0 * t + x * 1) = _
    rw [Int.zero_mul, Int.zero_add, Int.mul_one]
theorem c_val2 (D : Df K mg "value_at" (top 29)) : Cal P w K mg base 1 "value_at" ["terms", "top", "bottom"] spVal2 := by
  refine mkC D s29 (fun _ _ _ _ _ _ us hl => match us, hl with | [_, _, _], _ => rfl) (fun _ => rfl) (fun f cdv A outer s H a Q E hr h k => ?_)
  obtain ⟨p, x, y, t⟩ := a
  obtain ⟨h, hy⟩ := h
  have hy2 : -1000 ≤ y ∧ y ≤ 1000 := hy
  have h0 : H p = some (.tup [.int x, .int y]) := h
  refine ⟨_, pss_cons (ps_asg (pe_tup (pa_cons pe_int (pa_cons pe_int pa_nil))) (pg_tup rfl (pgs_cons ((pg_name (i := 3) (FnScope.nd s29) rfl (Or.inl rfl))) (pgs_cons ((pg_name (i := 4) (FnScope.nd s29) rfl (Or.inl rfl))) pgs_nil))))
    (pss_cons (ps_for PassesOwn.never rfl (pi_tup (pe_revT (pv 0))) ((pg_name (i := 5) (FnScope.nd s29) rfl (Or.inl rfl)))
      (pss_cons ((ps_set (i := 3) (FnScope.nd s29) rfl (Or.inl rfl) (pe_op op_add (pe_op op_mul (pv 3) (pv 1)) (pe_op op_mul (pv 5) (pv 4))))) (pss_one (ps_aug (i := 4) s29.nd rfl (Or.inl rfl) (pv 2) iop_mul))))
    (pss_one (ps_ret (pv 3)))), ?_⟩
  refine ⟨by decide, fun z hz => ⟨z, _, rfl, SqT.of upd_same, rfl, _, _, rfl, _, _, rfl, rfl, ?_⟩⟩
  have s0 := same_new (o := .tup [.int 0, .int 1]) hz
  refine ⟨_, rfl, p, _, rfl, SqT.of (s0 _ _ h0), .inr rfl, fun q hq => ?_⟩
  refine ⟨q, rfl, ⟨_, SqT.of upd_same⟩, for_unr (xs := [.int y, .int x]) walk_tup ?_⟩
  refine ⟨SqT.of upd_same, _, rfl, _, rfl, _, _, rfl, rfl, .inl ⟨by decide, by decide⟩, _, rfl, _, rfl, _, _, rfl, rfl, .inr ⟨by decide, by decide⟩, _, _, rfl, rfl, ?_⟩
  refine ⟨_, rfl, _, rfl, _, _, rfl, rfl, .inl ⟨by decide, by decide⟩, ?_⟩
  have e : 0 * t + y * 1 = y := by rw [Int.zero_mul, Int.zero_add, Int.mul_one]
  refine ⟨SqT.of upd_same, _, rfl, _, rfl, _, _, rfl, rfl, .inl ⟨(by show -(2 ^ 64) < 0 * t + y * 1; rw [e]; omega), (by show 0 * t + y * 1 < 2 ^ 64; rw [e]; omega)⟩, _, rfl, _, rfl, _, _, rfl, rfl, .inr ⟨by decide, by decide⟩, _, _, rfl, rfl, ?_⟩
  refine ⟨_, rfl, _, rfl, _, _, rfl, rfl, .inl ⟨by decide, by decide⟩, SqT.of upd_same, _, rfl, k _ _ (Same.new s0 hq) ?_⟩
  show V.int ((0 * t + y * 1) * t + x * (1 * 1)) = V.int (y * t + x)
  rw [e, Int.mul_one, Int.mul_one]
abbrev nM : List Str := ["one", "other", "result", "low", "left", "high", "right"]
theorem s30 : FnScope nM ["one", "other"] (defScope (top 30)) := (⟨rfl, rfl, rfl, by decide +kernel, rfl, by decide +kernel, by decide +kernel⟩)
abbrev inner30 : Unit := ()
def tr1 (x : Int) : List Int := if x = 0 then [] else [x]
theorem trim_1 (x : Int) : trimI [x] = tr1 x := by
  unfold trimI tr1
  show List.take (if x = 0 then 0 else 1) [x] = _
  by_cases h : x = 0
  · rw [if_pos h, if_pos h]
    rfl
  · rw [if_neg h, if_neg h]
    rfl
theorem trim_2 (x : Int) : trimI [x, 0] = tr1 x := by
  unfold trimI tr1
  show List.take (if (0 : Int) = 0 then (if x = 0 then 0 else 1) else 2) [x, 0] = _
  rw [if_pos rfl]
  by_cases h : x = 0
  · rw [if_pos h, if_pos h]
    rfl
  · rw [if_neg h, if_neg h]
    rfl
/-- ones: () or (x,) -/
abbrev spMul : Sp := Prm (α := Addr × Addr × Option Int × Int) (fun a => [.ref a.1, .ref a.2.1]) (fun a H => TI H a.1 a.2.2.1.toList ∧ TI H a.2.1 [a.2.2.2] ∧ (∀ x ∈ a.2.2.1, Sm 400 x) ∧ Sm 400 a.2.2.2)
  (fun a H v H' => ∃ q, v = .ref q ∧ TI H' q (match a.2.2.1 with | some x => tr1 (x * a.2.2.2) | none => []))
theorem c_mul (D : Df K mg "multiplied" (top 30)) (B : Bl mg) (C : Cal P w K mg base 1 "trimmed" ["terms"] spTrim) : Cal P w K mg base 2 "multiplied" ["one", "other"] spMul := by
  refine mkC D s30 (fun _ _ _ _ _ _ us hl => match us, hl with | [_, _], _ => rfl) (fun _ => rfl) (fun f cdv A outer s H a Q E hr h k => ?_)
  obtain ⟨p, q, ox, y⟩ := a
  obtain ⟨h1, h2, bx, by'⟩ := h
  refine ⟨_, pss_cons ((ps_set (i := 2) (FnScope.nd s30) rfl (Or.inl rfl) (pe_op op_rep (pe_lst (pa_cons pe_int pa_nil)) (pe_op op_add ((pe_callB call_len_seq (by rfl) (Bl.len_ B) PySem.boot_len (pa_cons (pv 0) pa_nil))) ((pe_callB call_len_seq (by rfl) (Bl.len_ B) PySem.boot_len (pa_cons (pv 1) pa_nil)))))))
    (pss_cons (ps_for PassesOwn.never rfl (pi_enumT (by rfl) B.enumerate_ (pa_cons (pv 0) pa_nil)) (pg_tup rfl (pgs_cons ((pg_name (i := 3) (FnScope.nd s30) rfl (Or.inl rfl))) (pgs_cons ((pg_name (i := 4) (FnScope.nd s30) rfl (Or.inl rfl))) pgs_nil)))
      (pss_one (ps_for PassesOwn.never rfl (pi_enumT (by rfl) B.enumerate_ (pa_cons (pv 1) pa_nil)) (pg_tup rfl (pgs_cons ((pg_name (i := 5) (FnScope.nd s30) rfl (Or.inl rfl))) (pgs_cons ((pg_name (i := 6) (FnScope.nd s30) rfl (Or.inl rfl))) pgs_nil)))
        (pss_one (ps_augS (pv 2) (pe_op op_add (pv 3) (pv 5)) get_list (pe_op op_mulW (pv 4) (pv 6)) ip_add set_list)))))
    (pss_one (ps_ret (pe_cl C hr (pa_cons (pv 2) pa_nil))))), ?_⟩
  have h20 : H q = some (.tup [.int y]) := h2
  cases ox with
  | none =>
    have h10 : H p = some (.tup []) := h1
    refine ⟨by decide, fun l hl => ?_⟩
    have s1 := same_new (o := .lst [.int 0]) hl
    refine ⟨_, rfl, p, _, rfl, .inr (SqT.of (s1 _ _ h10)), _, rfl, q, _, rfl, .inr (SqT.of (s1 _ _ h20)), _, _, rfl, rfl, l, _, _, rfl, rfl, upd_same, (by show -(2 ^ 63) ≤ (1 : Int); decide), (by show (1 : Int) < 2 ^ 63; decide), (by show 1 * 1 ≤ sizeLine; decide), fun m hm => ?_⟩
    have s2 := Same.new (o := .lst [.int 0]) s1 hm
    refine ⟨_, rfl, p, _, rfl, SqT.of (s2 _ _ h10), for_unrE (xs := []) ⟨SqT.of (s2 _ _ h10), ?_⟩⟩
    refine ⟨_, rfl, (m, [0]), rfl, .inl upd_same, ?_⟩
    rintro _ H3 s3 ⟨r, rfl, hr3⟩
    exact k _ _ (s2.trans s3) ⟨r, rfl, hr3⟩
  | some x =>
    have h10 : H p = some (.tup [.int x]) := h1
    have bx : Sm 400 x := bx x rfl
    refine ⟨by decide, fun l hl => ?_⟩
    have s1 := same_new (o := .lst [.int 0]) hl
    refine ⟨_, rfl, p, _, rfl, .inr (SqT.of (s1 _ _ h10)), _, rfl, q, _, rfl, .inr (SqT.of (s1 _ _ h20)), _, _, rfl, rfl, l, _, _, rfl, rfl, upd_same, (by show -(2 ^ 63) ≤ (2 : Int); decide), (by show (2 : Int) < 2 ^ 63; decide), (by show 1 * 2 ≤ sizeLine; decide), fun m hm => ?_⟩
    have s2 := Same.new (o := .lst [.int 0, .int 0]) s1 hm
    have hm0 : H m = none := new_of s1 hm
    refine ⟨_, rfl, p, _, rfl, SqT.of (s2 _ _ h10), for_unrE (xs := [.int x]) ⟨SqT.of (s2 _ _ h10), fun T hT => ?_⟩⟩
    have s3 := Same.new (o := .tup [.int (0 : Nat), .int x]) s2 hT
    have nm : m ≠ T := fun e => by rw [← e] at hT; exact absurd (hT.symm.trans upd_same) (by simp)
    refine ⟨T, _, rfl, SqT.of upd_same, rfl, _, _, rfl, _, _, rfl, rfl, _, rfl, q, _, rfl, SqT.of (s3 _ _ h20), for_unrE (xs := [.int y]) ⟨SqT.of (s3 _ _ h20), fun T2 hT2 => ?_⟩⟩
    have s4 := Same.new (o := .tup [.int (0 : Nat), .int y]) s3 hT2
    have nm2 : m ≠ T2 := fun e => by rw [← e, upd_ne nm, upd_same] at hT2; cases hT2
    have hm4 : (upd (upd (upd (upd H l (.lst [.int 0])) m (.lst [.int 0, .int 0])) T (.tup [.int (0 : Nat), .int x])) T2 (.tup [.int (0 : Nat), .int y])) m = some (.lst [.int 0, .int 0]) := by
      rw [upd_ne nm2, upd_ne nm, upd_same]
    refine ⟨T2, _, rfl, SqT.of upd_same, rfl, _, _, rfl, _, _, rfl, rfl, _, rfl, _, rfl, _, rfl, _, _, rfl, rfl, m, _, _, .int 0, rfl, rfl, SqL.of hm4, atI_nat (j := 0) rfl, ?_⟩
    refine ⟨_, rfl, _, rfl, _, _, rfl, rfl, cm bx by', _, _, rfl, rfl, m, _, _, 0, rfl, rfl, hm4, rfl, ?_⟩
    have s5 : Same H _ := Same.put (o := .lst [.int (0 + x * y), .int 0]) s4 hm0
    refine ⟨SqT.of (s5 _ _ h20), SqT.of (s5 _ _ h10), _, rfl, (m, [0 + x * y, 0]), rfl, .inl upd_same, ?_⟩
    rintro _ H3 s6 ⟨r, rfl, hr3⟩
    refine k _ _ (s5.trans s6) ⟨r, rfl, ?_⟩
    show TI H3 r (tr1 (x * y))
    rw [← trim_2, ← Int.zero_add (x * y)]
    exact hr3
end
end Xq

namespace Xq
open PySem PySem.Spec PyProof.Rows L2
section
variable {P : Program} {w : World} {K : PySem.W.Frag} {mg : Str → Option Value} {base : Heap}
abbrev nC : List Str := ["factor", "one", "weight", "other", "shift", "result", "at", "term"]
theorem s31 : FnScope nC ["factor", "one", "weight", "other", "shift"] (defScope (top 31)) := (⟨rfl, rfl, rfl, by decide +kernel, rfl, by decide +kernel, by decide +kernel⟩)
abbrev spComb11 : Sp := Prm (α := Int × Addr × Int × Addr × Int × Int) (fun ⟨c, p, w, q, x, y⟩ => [.int c, .ref p, .int w, .ref q, .int 0])
  (fun ⟨c, p, w, q, x, y⟩ H => TI H p [x] ∧ TI H q [y] ∧ Sm 400 c ∧ Sm 400 w ∧ Sm 400 x ∧ Sm 400 y)
  (fun ⟨c, p, w, q, x, y⟩ H v H' => ∃ r, v = .ref r ∧ TI H' r (trimI [c * x - w * y]))
theorem c_Comb11 (D : Df K mg "combined" (top 31)) (B : Bl mg) (C : Cal P w K mg base 1 "trimmed" ["terms"] spTrim) : Cal P w K mg base 2 "combined" ["factor", "one", "weight", "other", "shift"] spComb11 := by
  refine mkC D s31 (fun _ _ _ _ _ _ us hl => match us, hl with | [_, _, _, _, _], _ => rfl) (fun _ => rfl) (fun f cdv A outer s H a Q E hr h k => ?_)
  obtain ⟨c, p, wt, q, x, y⟩ := a
  obtain ⟨h1, h2, bc, bw, gx, gy⟩ := h
  refine ⟨_, pss_cons ((ps_set (i := 5) (FnScope.nd s31) rfl (Or.inl rfl) (pe_op op_rep (pe_lst (pa_cons pe_int pa_nil)) (pe_callB (call_max2 rfl) (by rfl) B.max_ PyProof.Rows.boot_max (pa_cons ((pe_callB call_len_seq (by rfl) (Bl.len_ B) PySem.boot_len (pa_cons (pv 1) pa_nil))) (pa_cons (pe_op op_add ((pe_callB call_len_seq (by rfl) (Bl.len_ B) PySem.boot_len (pa_cons (pv 3) pa_nil))) (pv 4)) pa_nil))))))
    (pss_cons (ps_for PassesOwn.never rfl (pi_enumT (by rfl) B.enumerate_ (pa_cons (pv 1) pa_nil)) (pg_tup rfl (pgs_cons ((pg_name (i := 6) (FnScope.nd s31) rfl (Or.inl rfl))) (pgs_cons ((pg_name (i := 7) (FnScope.nd s31) rfl (Or.inl rfl))) pgs_nil)))
        (pss_one (ps_augS (pv 5) (pv 6) get_list (pe_op op_mulW (pv 0) (pv 7)) ip_add set_list)))
    (pss_cons (ps_for PassesOwn.never rfl (pi_enumT (by rfl) B.enumerate_ (pa_cons (pv 3) pa_nil)) (pg_tup rfl (pgs_cons ((pg_name (i := 6) (FnScope.nd s31) rfl (Or.inl rfl))) (pgs_cons ((pg_name (i := 7) (FnScope.nd s31) rfl (Or.inl rfl))) pgs_nil)))
        (pss_one (ps_augS (pv 5) (pe_op op_add (pv 6) (pv 4)) get_list (pe_op op_mulW (pv 2) (pv 7)) ip_sub set_list)))
    (pss_one (ps_ret (pe_cl C hr (pa_cons (pv 5) pa_nil)))))), ?_⟩
  have h10 : H p = some (.tup [.int x]) := h1
  have h20 : H q = some (.tup [.int y]) := h2
  refine ⟨by decide, fun l hl => ?_⟩
  have s1 := same_new (o := .lst [.int 0]) hl
  refine ⟨_, rfl, p, _, rfl, .inr (SqT.of (s1 _ _ h10)), _, rfl, q, _, rfl, .inr (SqT.of (s1 _ _ h20)), _, rfl, _, _, rfl, rfl, _, _, rfl, l, _, _, rfl, rfl, upd_same, (by show -(2 ^ 63) ≤ (1 : Int); decide), (by show (1 : Int) < 2 ^ 63; decide), (by show 1 * 1 ≤ sizeLine; decide), fun m hm => ?_⟩
  have s2 := Same.new (o := .lst [.int 0]) s1 hm
  have hm0 : H m = none := new_of s1 hm
  have m2 : ∀ HH : Hp, (upd HH m (.lst [.int 0])) m = some (.lst [.int 0]) := fun _ => upd_same
  refine ⟨_, rfl, p, _, rfl, SqT.of (s2 _ _ h10), for_unrE (xs := [.int x]) ?_⟩
  refine ⟨SqT.of (s2 _ _ h10), fun T3 hT3 => ?_⟩
  have s3 := Same.new (o := .tup [.int (0 : Nat), .int x]) s2 hT3
  have n3 : m ≠ T3 := ne_of_none (m2 _) hT3
  have m3 : ∀ HH : Hp, (upd (upd HH m (.lst [.int 0])) T3 (.tup [.int (0 : Nat), .int x])) m = some (.lst [.int 0]) := fun HH => (upd_ne n3).trans (m2 _)
  refine ⟨T3, _, rfl, SqT.of upd_same, rfl, _, _, rfl, _, _, rfl, rfl, _, rfl, _, rfl, m, _, _, .int ((0 : Int)), rfl, rfl, SqL.of (m3 _), atI_nat (j := 0) rfl, ?_⟩
  refine ⟨_, rfl, _, rfl, _, _, rfl, rfl, cm bc gx, _, _, rfl, rfl, m, _, _, 0, rfl, rfl, (m3 _), rfl, ?_⟩
  have s4 := Same.put (o := .lst [.int ((0 : Int) + c * x)]) s3 hm0
  have m4 : ∀ HH : Hp, (upd HH m (.lst [.int ((0 : Int) + c * x)])) m = some (.lst [.int ((0 : Int) + c * x)]) := fun _ => upd_same
  refine ⟨SqT.of (s4 _ _ h10), _, rfl, q, _, rfl, SqT.of (s4 _ _ h20), for_unrE (xs := [.int y]) ?_⟩
  refine ⟨SqT.of (s4 _ _ h20), fun T5 hT5 => ?_⟩
  have s5 := Same.new (o := .tup [.int (0 : Nat), .int y]) s4 hT5
  have n5 : m ≠ T5 := ne_of_none (m4 _) hT5
  have m5 : ∀ HH : Hp, (upd (upd HH m (.lst [.int ((0 : Int) + c * x)])) T5 (.tup [.int (0 : Nat), .int y])) m = some (.lst [.int ((0 : Int) + c * x)]) := fun HH => (upd_ne n5).trans (m4 _)
  refine ⟨T5, _, rfl, SqT.of upd_same, rfl, _, _, rfl, _, _, rfl, rfl, _, rfl, _, rfl, _, rfl, _, _, rfl, rfl, m, _, _, .int ((0 : Int) + c * x), rfl, rfl, SqL.of (m5 _), atI_nat (j := 0) rfl, ?_⟩
  refine ⟨_, rfl, _, rfl, _, _, rfl, rfl, cm bw gy, _, _, rfl, rfl, m, _, _, 0, rfl, rfl, (m5 _), rfl, ?_⟩
  have s6 := Same.put (o := .lst [.int ((0 : Int) + c * x - wt * y)]) s5 hm0
  have m6 : ∀ HH : Hp, (upd HH m (.lst [.int ((0 : Int) + c * x - wt * y)])) m = some (.lst [.int ((0 : Int) + c * x - wt * y)]) := fun _ => upd_same
  refine ⟨SqT.of (s6 _ _ h20), _, rfl, (m, [(0 : Int) + c * x - wt * y]), rfl, .inl (m6 _), ?_⟩
  rintro _ H9 s90 ⟨r, rfl, hr9⟩
  refine k _ _ (s6.trans s90) ⟨r, rfl, ?_⟩
  simp only [Int.zero_add] at hr9
  exact hr9
abbrev spComb21 : Sp := Prm (α := Int × Addr × Int × Addr × Int × Int × Int) (fun ⟨c, p, w, q, x, x2, y⟩ => [.int c, .ref p, .int w, .ref q, .int 1])
  (fun ⟨c, p, w, q, x, x2, y⟩ H => TI H p [x, x2] ∧ TI H q [y] ∧ Sm 400 c ∧ Sm 400 w ∧ Sm 400 x ∧ Sm 400 x2 ∧ Sm 400 y)
  (fun ⟨c, p, w, q, x, x2, y⟩ H v H' => ∃ r, v = .ref r ∧ TI H' r (trimI [c * x, c * x2 - w * y]))
theorem c_Comb21 (D : Df K mg "combined" (top 31)) (B : Bl mg) (C : Cal P w K mg base 1 "trimmed" ["terms"] spTrim) : Cal P w K mg base 2 "combined" ["factor", "one", "weight", "other", "shift"] spComb21 := by
  refine mkC D s31 (fun _ _ _ _ _ _ us hl => match us, hl with | [_, _, _, _, _], _ => rfl) (fun _ => rfl) (fun f cdv A outer s H a Q E hr h k => ?_)
  obtain ⟨c, p, wt, q, x, x2, y⟩ := a
  obtain ⟨h1, h2, bc, bw, gx, gx2, gy⟩ := h
  refine ⟨_, pss_cons ((ps_set (i := 5) (FnScope.nd s31) rfl (Or.inl rfl) (pe_op op_rep (pe_lst (pa_cons pe_int pa_nil)) (pe_callB (call_max2 rfl) (by rfl) B.max_ PyProof.Rows.boot_max (pa_cons ((pe_callB call_len_seq (by rfl) (Bl.len_ B) PySem.boot_len (pa_cons (pv 1) pa_nil))) (pa_cons (pe_op op_add ((pe_callB call_len_seq (by rfl) (Bl.len_ B) PySem.boot_len (pa_cons (pv 3) pa_nil))) (pv 4)) pa_nil))))))
    (pss_cons (ps_for PassesOwn.never rfl (pi_enumT (by rfl) B.enumerate_ (pa_cons (pv 1) pa_nil)) (pg_tup rfl (pgs_cons ((pg_name (i := 6) (FnScope.nd s31) rfl (Or.inl rfl))) (pgs_cons ((pg_name (i := 7) (FnScope.nd s31) rfl (Or.inl rfl))) pgs_nil)))
        (pss_one (ps_augS (pv 5) (pv 6) get_list (pe_op op_mulW (pv 0) (pv 7)) ip_add set_list)))
    (pss_cons (ps_for PassesOwn.never rfl (pi_enumT (by rfl) B.enumerate_ (pa_cons (pv 3) pa_nil)) (pg_tup rfl (pgs_cons ((pg_name (i := 6) (FnScope.nd s31) rfl (Or.inl rfl))) (pgs_cons ((pg_name (i := 7) (FnScope.nd s31) rfl (Or.inl rfl))) pgs_nil)))
        (pss_one (ps_augS (pv 5) (pe_op op_add (pv 6) (pv 4)) get_list (pe_op op_mulW (pv 2) (pv 7)) ip_sub set_list)))
    (pss_one (ps_ret (pe_cl C hr (pa_cons (pv 5) pa_nil)))))), ?_⟩
  have h10 : H p = some (.tup [.int x, .int x2]) := h1
  have h20 : H q = some (.tup [.int y]) := h2
  refine ⟨by decide, fun l hl => ?_⟩
  have s1 := same_new (o := .lst [.int 0]) hl
  refine ⟨_, rfl, p, _, rfl, .inr (SqT.of (s1 _ _ h10)), _, rfl, q, _, rfl, .inr (SqT.of (s1 _ _ h20)), _, rfl, _, _, rfl, rfl, _, _, rfl, l, _, _, rfl, rfl, upd_same, (by show -(2 ^ 63) ≤ (2 : Int); decide), (by show (2 : Int) < 2 ^ 63; decide), (by show 1 * 2 ≤ sizeLine; decide), fun m hm => ?_⟩
  have s2 := Same.new (o := .lst [.int 0, .int 0]) s1 hm
  have hm0 : H m = none := new_of s1 hm
  have m2 : ∀ HH : Hp, (upd HH m (.lst [.int 0, .int 0])) m = some (.lst [.int 0, .int 0]) := fun _ => upd_same
  refine ⟨_, rfl, p, _, rfl, SqT.of (s2 _ _ h10), for_unrE (xs := [.int x, .int x2]) ?_⟩
  refine ⟨SqT.of (s2 _ _ h10), fun T3 hT3 => ?_⟩
  have s3 := Same.new (o := .tup [.int (0 : Nat), .int x]) s2 hT3
  have n3 : m ≠ T3 := ne_of_none (m2 _) hT3
  have m3 : ∀ HH : Hp, (upd (upd HH m (.lst [.int 0, .int 0])) T3 (.tup [.int (0 : Nat), .int x])) m = some (.lst [.int 0, .int 0]) := fun HH => (upd_ne n3).trans (m2 _)
  refine ⟨T3, _, rfl, SqT.of upd_same, rfl, _, _, rfl, _, _, rfl, rfl, _, rfl, _, rfl, m, _, _, .int ((0 : Int)), rfl, rfl, SqL.of (m3 _), atI_nat (j := 0) rfl, ?_⟩
  refine ⟨_, rfl, _, rfl, _, _, rfl, rfl, cm bc gx, _, _, rfl, rfl, m, _, _, 0, rfl, rfl, (m3 _), rfl, ?_⟩
  have s4 := Same.put (o := .lst [.int ((0 : Int) + c * x), .int ((0 : Int))]) s3 hm0
  have m4 : ∀ HH : Hp, (upd HH m (.lst [.int ((0 : Int) + c * x), .int ((0 : Int))])) m = some (.lst [.int ((0 : Int) + c * x), .int ((0 : Int))]) := fun _ => upd_same
  refine ⟨SqT.of (s4 _ _ h10), fun T5 hT5 => ?_⟩
  have s5 := Same.new (o := .tup [.int (1 : Nat), .int x2]) s4 hT5
  have n5 : m ≠ T5 := ne_of_none (m4 _) hT5
  have m5 : ∀ HH : Hp, (upd (upd HH m (.lst [.int ((0 : Int) + c * x), .int ((0 : Int))])) T5 (.tup [.int (1 : Nat), .int x2])) m = some (.lst [.int ((0 : Int) + c * x), .int ((0 : Int))]) := fun HH => (upd_ne n5).trans (m4 _)
  refine ⟨T5, _, rfl, SqT.of upd_same, rfl, _, _, rfl, _, _, rfl, rfl, _, rfl, _, rfl, m, _, _, .int ((0 : Int)), rfl, rfl, SqL.of (m5 _), atI_nat (j := 1) rfl, ?_⟩
  refine ⟨_, rfl, _, rfl, _, _, rfl, rfl, cm bc gx2, _, _, rfl, rfl, m, _, _, 1, rfl, rfl, (m5 _), rfl, ?_⟩
  have s6 := Same.put (o := .lst [.int ((0 : Int) + c * x), .int ((0 : Int) + c * x2)]) s5 hm0
  have m6 : ∀ HH : Hp, (upd HH m (.lst [.int ((0 : Int) + c * x), .int ((0 : Int) + c * x2)])) m = some (.lst [.int ((0 : Int) + c * x), .int ((0 : Int) + c * x2)]) := fun _ => upd_same
  refine ⟨SqT.of (s6 _ _ h10), _, rfl, q, _, rfl, SqT.of (s6 _ _ h20), for_unrE (xs := [.int y]) ?_⟩
  refine ⟨SqT.of (s6 _ _ h20), fun T7 hT7 => ?_⟩
  have s7 := Same.new (o := .tup [.int (0 : Nat), .int y]) s6 hT7
  have n7 : m ≠ T7 := ne_of_none (m6 _) hT7
  have m7 : ∀ HH : Hp, (upd (upd HH m (.lst [.int ((0 : Int) + c * x), .int ((0 : Int) + c * x2)])) T7 (.tup [.int (0 : Nat), .int y])) m = some (.lst [.int ((0 : Int) + c * x), .int ((0 : Int) + c * x2)]) := fun HH => (upd_ne n7).trans (m6 _)
  refine ⟨T7, _, rfl, SqT.of upd_same, rfl, _, _, rfl, _, _, rfl, rfl, _, rfl, _, rfl, _, rfl, _, _, rfl, rfl, m, _, _, .int ((0 : Int) + c * x2), rfl, rfl, SqL.of (m7 _), atI_nat (j := 1) rfl, ?_⟩
  refine ⟨_, rfl, _, rfl, _, _, rfl, rfl, cm bw gy, _, _, rfl, rfl, m, _, _, 1, rfl, rfl, (m7 _), rfl, ?_⟩
  have s8 := Same.put (o := .lst [.int ((0 : Int) + c * x), .int ((0 : Int) + c * x2 - wt * y)]) s7 hm0
  have m8 : ∀ HH : Hp, (upd HH m (.lst [.int ((0 : Int) + c * x), .int ((0 : Int) + c * x2 - wt * y)])) m = some (.lst [.int ((0 : Int) + c * x), .int ((0 : Int) + c * x2 - wt * y)]) := fun _ => upd_same
  refine ⟨SqT.of (s8 _ _ h20), _, rfl, (m, [(0 : Int) + c * x, (0 : Int) + c * x2 - wt * y]), rfl, .inl (m8 _), ?_⟩
  rintro _ H9 s90 ⟨r, rfl, hr9⟩
  refine k _ _ (s8.trans s90) ⟨r, rfl, ?_⟩
  simp only [Int.zero_add] at hr9
  exact hr9
abbrev spComb22 : Sp := Prm (α := Int × Addr × Int × Addr × Int × Int × Int × Int) (fun ⟨c, p, w, q, x, x2, y, y2⟩ => [.int c, .ref p, .int w, .ref q, .int 0])
  (fun ⟨c, p, w, q, x, x2, y, y2⟩ H => TI H p [x, x2] ∧ TI H q [y, y2] ∧ Sm 400 c ∧ Sm 400 w ∧ Sm 400 x ∧ Sm 400 x2 ∧ Sm 400 y ∧ Sm 400 y2)
  (fun ⟨c, p, w, q, x, x2, y, y2⟩ H v H' => ∃ r, v = .ref r ∧ TI H' r (trimI [c * x - w * y, c * x2 - w * y2]))
theorem c_Comb22 (D : Df K mg "combined" (top 31)) (B : Bl mg) (C : Cal P w K mg base 1 "trimmed" ["terms"] spTrim) : Cal P w K mg base 2 "combined" ["factor", "one", "weight", "other", "shift"] spComb22 := by
  refine mkC D s31 (fun _ _ _ _ _ _ us hl => match us, hl with | [_, _, _, _, _], _ => rfl) (fun _ => rfl) (fun f cdv A outer s H a Q E hr h k => ?_)
  obtain ⟨c, p, wt, q, x, x2, y, y2⟩ := a
  obtain ⟨h1, h2, bc, bw, gx, gx2, gy, gy2⟩ := h
  refine ⟨_, pss_cons ((ps_set (i := 5) (FnScope.nd s31) rfl (Or.inl rfl) (pe_op op_rep (pe_lst (pa_cons pe_int pa_nil)) (pe_callB (call_max2 rfl) (by rfl) B.max_ PyProof.Rows.boot_max (pa_cons ((pe_callB call_len_seq (by rfl) (Bl.len_ B) PySem.boot_len (pa_cons (pv 1) pa_nil))) (pa_cons (pe_op op_add ((pe_callB call_len_seq (by rfl) (Bl.len_ B) PySem.boot_len (pa_cons (pv 3) pa_nil))) (pv 4)) pa_nil))))))
    (pss_cons (ps_for PassesOwn.never rfl (pi_enumT (by rfl) B.enumerate_ (pa_cons (pv 1) pa_nil)) (pg_tup rfl (pgs_cons ((pg_name (i := 6) (FnScope.nd s31) rfl (Or.inl rfl))) (pgs_cons ((pg_name (i := 7) (FnScope.nd s31) rfl (Or.inl rfl))) pgs_nil)))
        (pss_one (ps_augS (pv 5) (pv 6) get_list (pe_op op_mulW (pv 0) (pv 7)) ip_add set_list)))
    (pss_cons (ps_for PassesOwn.never rfl (pi_enumT (by rfl) B.enumerate_ (pa_cons (pv 3) pa_nil)) (pg_tup rfl (pgs_cons ((pg_name (i := 6) (FnScope.nd s31) rfl (Or.inl rfl))) (pgs_cons ((pg_name (i := 7) (FnScope.nd s31) rfl (Or.inl rfl))) pgs_nil)))
        (pss_one (ps_augS (pv 5) (pe_op op_add (pv 6) (pv 4)) get_list (pe_op op_mulW (pv 2) (pv 7)) ip_sub set_list)))
    (pss_one (ps_ret (pe_cl C hr (pa_cons (pv 5) pa_nil)))))), ?_⟩
  have h10 : H p = some (.tup [.int x, .int x2]) := h1
  have h20 : H q = some (.tup [.int y, .int y2]) := h2
  refine ⟨by decide, fun l hl => ?_⟩
  have s1 := same_new (o := .lst [.int 0]) hl
  refine ⟨_, rfl, p, _, rfl, .inr (SqT.of (s1 _ _ h10)), _, rfl, q, _, rfl, .inr (SqT.of (s1 _ _ h20)), _, rfl, _, _, rfl, rfl, _, _, rfl, l, _, _, rfl, rfl, upd_same, (by show -(2 ^ 63) ≤ (2 : Int); decide), (by show (2 : Int) < 2 ^ 63; decide), (by show 1 * 2 ≤ sizeLine; decide), fun m hm => ?_⟩
  have s2 := Same.new (o := .lst [.int 0, .int 0]) s1 hm
  have hm0 : H m = none := new_of s1 hm
  have m2 : ∀ HH : Hp, (upd HH m (.lst [.int 0, .int 0])) m = some (.lst [.int 0, .int 0]) := fun _ => upd_same
  refine ⟨_, rfl, p, _, rfl, SqT.of (s2 _ _ h10), for_unrE (xs := [.int x, .int x2]) ?_⟩
  refine ⟨SqT.of (s2 _ _ h10), fun T3 hT3 => ?_⟩
  have s3 := Same.new (o := .tup [.int (0 : Nat), .int x]) s2 hT3
  have n3 : m ≠ T3 := ne_of_none (m2 _) hT3
  have m3 : ∀ HH : Hp, (upd (upd HH m (.lst [.int 0, .int 0])) T3 (.tup [.int (0 : Nat), .int x])) m = some (.lst [.int 0, .int 0]) := fun HH => (upd_ne n3).trans (m2 _)
  refine ⟨T3, _, rfl, SqT.of upd_same, rfl, _, _, rfl, _, _, rfl, rfl, _, rfl, _, rfl, m, _, _, .int ((0 : Int)), rfl, rfl, SqL.of (m3 _), atI_nat (j := 0) rfl, ?_⟩
  refine ⟨_, rfl, _, rfl, _, _, rfl, rfl, cm bc gx, _, _, rfl, rfl, m, _, _, 0, rfl, rfl, (m3 _), rfl, ?_⟩
  have s4 := Same.put (o := .lst [.int ((0 : Int) + c * x), .int ((0 : Int))]) s3 hm0
  have m4 : ∀ HH : Hp, (upd HH m (.lst [.int ((0 : Int) + c * x), .int ((0 : Int))])) m = some (.lst [.int ((0 : Int) + c * x), .int ((0 : Int))]) := fun _ => upd_same
  refine ⟨SqT.of (s4 _ _ h10), fun T5 hT5 => ?_⟩
  have s5 := Same.new (o := .tup [.int (1 : Nat), .int x2]) s4 hT5
  have n5 : m ≠ T5 := ne_of_none (m4 _) hT5
  have m5 : ∀ HH : Hp, (upd (upd HH m (.lst [.int ((0 : Int) + c * x), .int ((0 : Int))])) T5 (.tup [.int (1 : Nat), .int x2])) m = some (.lst [.int ((0 : Int) + c * x), .int ((0 : Int))]) := fun HH => (upd_ne n5).trans (m4 _)
  refine ⟨T5, _, rfl, SqT.of upd_same, rfl, _, _, rfl, _, _, rfl, rfl, _, rfl, _, rfl, m, _, _, .int ((0 : Int)), rfl, rfl, SqL.of (m5 _), atI_nat (j := 1) rfl, ?_⟩
  refine ⟨_, rfl, _, rfl, _, _, rfl, rfl, cm bc gx2, _, _, rfl, rfl, m, _, _, 1, rfl, rfl, (m5 _), rfl, ?_⟩
  have s6 := Same.put (o := .lst [.int ((0 : Int) + c * x), .int ((0 : Int) + c * x2)]) s5 hm0
  have m6 : ∀ HH : Hp, (upd HH m (.lst [.int ((0 : Int) + c * x), .int ((0 : Int) + c * x2)])) m = some (.lst [.int ((0 : Int) + c * x), .int ((0 : Int) + c * x2)]) := fun _ => upd_same
  refine ⟨SqT.of (s6 _ _ h10), _, rfl, q, _, rfl, SqT.of (s6 _ _ h20), for_unrE (xs := [.int y, .int y2]) ?_⟩
  refine ⟨SqT.of (s6 _ _ h20), fun T7 hT7 => ?_⟩
  have s7 := Same.new (o := .tup [.int (0 : Nat), .int y]) s6 hT7
  have n7 : m ≠ T7 := ne_of_none (m6 _) hT7
  have m7 : ∀ HH : Hp, (upd (upd HH m (.lst [.int ((0 : Int) + c * x), .int ((0 : Int) + c * x2)])) T7 (.tup [.int (0 : Nat), .int y])) m = some (.lst [.int ((0 : Int) + c * x), .int ((0 : Int) + c * x2)]) := fun HH => (upd_ne n7).trans (m6 _)
  refine ⟨T7, _, rfl, SqT.of upd_same, rfl, _, _, rfl, _, _, rfl, rfl, _, rfl, _, rfl, _, rfl, _, _, rfl, rfl, m, _, _, .int ((0 : Int) + c * x), rfl, rfl, SqL.of (m7 _), atI_nat (j := 0) rfl, ?_⟩
  refine ⟨_, rfl, _, rfl, _, _, rfl, rfl, cm bw gy, _, _, rfl, rfl, m, _, _, 0, rfl, rfl, (m7 _), rfl, ?_⟩
  have s8 := Same.put (o := .lst [.int ((0 : Int) + c * x - wt * y), .int ((0 : Int) + c * x2)]) s7 hm0
  have m8 : ∀ HH : Hp, (upd HH m (.lst [.int ((0 : Int) + c * x - wt * y), .int ((0 : Int) + c * x2)])) m = some (.lst [.int ((0 : Int) + c * x - wt * y), .int ((0 : Int) + c * x2)]) := fun _ => upd_same
  refine ⟨SqT.of (s8 _ _ h20), fun T9 hT9 => ?_⟩
  have s9 := Same.new (o := .tup [.int (1 : Nat), .int y2]) s8 hT9
  have n9 : m ≠ T9 := ne_of_none (m8 _) hT9
  have m9 : ∀ HH : Hp, (upd (upd HH m (.lst [.int ((0 : Int) + c * x - wt * y), .int ((0 : Int) + c * x2)])) T9 (.tup [.int (1 : Nat), .int y2])) m = some (.lst [.int ((0 : Int) + c * x - wt * y), .int ((0 : Int) + c * x2)]) := fun HH => (upd_ne n9).trans (m8 _)
  refine ⟨T9, _, rfl, SqT.of upd_same, rfl, _, _, rfl, _, _, rfl, rfl, _, rfl, _, rfl, _, rfl, _, _, rfl, rfl, m, _, _, .int ((0 : Int) + c * x2), rfl, rfl, SqL.of (m9 _), atI_nat (j := 1) rfl, ?_⟩
  refine ⟨_, rfl, _, rfl, _, _, rfl, rfl, cm bw gy2, _, _, rfl, rfl, m, _, _, 1, rfl, rfl, (m9 _), rfl, ?_⟩
  have s10 := Same.put (o := .lst [.int ((0 : Int) + c * x - wt * y), .int ((0 : Int) + c * x2 - wt * y2)]) s9 hm0
  have m10 : ∀ HH : Hp, (upd HH m (.lst [.int ((0 : Int) + c * x - wt * y), .int ((0 : Int) + c * x2 - wt * y2)])) m = some (.lst [.int ((0 : Int) + c * x - wt * y), .int ((0 : Int) + c * x2 - wt * y2)]) := fun _ => upd_same
  refine ⟨SqT.of (s10 _ _ h20), _, rfl, (m, [(0 : Int) + c * x - wt * y, (0 : Int) + c * x2 - wt * y2]), rfl, .inl (m10 _), ?_⟩
  rintro _ H9 s90 ⟨r, rfl, hr9⟩
  refine k _ _ (s10.trans s90) ⟨r, rfl, ?_⟩
  simp only [Int.zero_add] at hr9
  exact hr9
end
end Xq

namespace Xq
open PySem PySem.Spec PyProof.Rows L2
section
variable {P : Program} {w : World} {K : PySem.W.Frag} {mg : Str → Option Value} {base : Heap}
abbrev spComb : Sp := OrS spComb21 spComb11
theorem s32 : FnScope ["one", "other", "factor", "weight"] ["one", "other"] (defScope (top 32)) := (⟨rfl, rfl, rfl, by decide +kernel, rfl, by decide +kernel, by decide +kernel⟩)
abbrev spRem : Sp := Prm (α := Addr × Addr × Int × Int) (fun a => [.ref a.1, .ref a.2.1]) (fun a H => TI H a.1 [a.2.2.1, a.2.2.2] ∧ TI H a.2.1 [a.2.2.2] ∧ a.2.2.1 ≠ 0 ∧ 0 < a.2.2.2 ∧ Sm 100 a.2.2.1 ∧ Sm 100 a.2.2.2) (fun a H v H' => ∃ r, v = .ref r ∧ TI H' r [])
theorem atl1 (v : V) : atI [v] (-1) = some v := atI_last [] v
theorem atl2 (u v : V) : atI [u, v] (-1) = some v := atI_last [u] v
theorem atl3 (t u v : V) : atI [t, u, v] (-1) = some v := atI_last [t, u] v
theorem c_rem (D : Df K mg "remainder" (top 32)) (B : Bl mg) (C : Cal P w K mg base 2 "combined" ["factor", "one", "weight", "other", "shift"] spComb) (CP : Cal P w K mg base 2 "primitive" ["terms"] spPrim) : Cal P w K mg base 3 "remainder" ["one", "other"] spRem := by
  refine mkC D s32 (fun _ _ _ _ _ _ us hl => match us, hl with | [_, _], _ => rfl) (fun _ => rfl) (fun f cdv A outer s H a Q E hr h k => ?_)
  obtain ⟨p, q, x, y⟩ := a
  obtain ⟨h1, h2, hx0, hy0, bx, bY⟩ := h
  have hx0 : x ≠ 0 := hx0
  have hy0 : 0 < y := hy0
  have bx : Sm 100 x := bx
  have bY : Sm 100 y := bY
  refine ⟨_, pss_cons ((ps_set (i := 2) (FnScope.nd s32) rfl (Or.inl rfl) (pe_callB call_abs (by rfl) B.abs_ PyProof.Rows.boot_abs (pa_cons ((pe_ix ix_tup (pv 1) (pe_un un_neg pe_int) (fun _ _ => rfl))) pa_nil))))
    (pss_cons (ps_whU PassesOwn.never ((pt_cmpR op_ge ((pe_callB call_len_seq (by rfl) (Bl.len_ B) PySem.boot_len (pa_cons (pv 0) pa_nil))) ((pe_callB call_len_seq (by rfl) (Bl.len_ B) PySem.boot_len (pa_cons (pv 1) pa_nil))) (nomark _)))
      (pss_cons ((ps_set (i := 3) (FnScope.nd s32) rfl (Or.inl rfl) (pe_ifExp ((pt_cmpR op_gt ((pe_ix ix_tup (pv 1) (pe_un un_neg pe_int) (fun _ _ => rfl))) pe_int (nomark _))) ((pe_ix ix_tup (pv 0) (pe_un un_neg pe_int) (fun _ _ => rfl))) pe_nv)))
      (pss_one ((ps_set (i := 0) (FnScope.nd s32) rfl (Or.inl rfl) (pe_cl C hr (pa_cons (pv 2) (pa_cons (pv 0) (pa_cons (pv 3) (pa_cons (pv 1) (pa_cons (pe_op op_sub ((pe_callB call_len_seq (by rfl) (Bl.len_ B) PySem.boot_len (pa_cons (pv 0) pa_nil))) ((pe_callB call_len_seq (by rfl) (Bl.len_ B) PySem.boot_len (pa_cons (pv 1) pa_nil)))) pa_nil)))))))))))
    (pss_one (ps_ret (pe_cl CP hr (pa_cons (pv 0) pa_nil))))), ?_⟩
  have h10 : H p = some (.tup [.int x, .int y]) := h1
  have h20 : H q = some (.tup [.int y]) := h2
  refine ⟨_, rfl, _, rfl, q, _, _, .int y, rfl, rfl, SqT.of h20, atl1 _, y, rfl, ?_⟩
  refine ⟨2, _, rfl, p, _, rfl, .inr (SqT.of h10), _, rfl, q, _, rfl, .inr (SqT.of h20), _, _, rfl, rfl, _, rfl, ?_⟩
  refine iteT ⟨_, rfl, _, rfl, q, _, _, .int y, rfl, rfl, SqT.of h20, atl1 _, _, _, rfl, rfl, _, rfl, ?_⟩
  rw [decide_eq_true (show y > 0 from hy0)]
  refine iteT ⟨_, rfl, _, rfl, p, _, _, .int y, rfl, rfl, SqT.of h10, atl2 _ _, ?_⟩
  refine ⟨_, rfl, _, rfl, _, rfl, _, rfl, _, rfl, p, _, rfl, .inr (SqT.of h10), _, rfl, q, _, rfl, .inr (SqT.of h20), _, _, rfl, rfl, ?_⟩
  have ey : (if y < 0 then -y else y) = y := if_neg (by omega)
  refine .inl ⟨(y, p, y, q, x, y, y), ?_, ⟨h1, h2, sm_le bY (by decide), sm_le bY (by decide), sm_le bx (by decide), sm_le bY (by decide), sm_le bY (by decide)⟩, ?_⟩
  · show [V.int (if y < 0 then -y else y), V.ref p, V.int y, V.ref q, V.int ((2 : Int) - 1)] = _
    rw [ey]
    rfl
  rintro _ H2 s2 ⟨r, rfl, hr2⟩
  have hr3 : TI H2 r [y * x] := by
    have e : trimI [y * x, y * y - y * y] = [y * x] := by
      rw [Int.sub_self, trim_2]
      unfold tr1
      rw [if_neg]
      intro z
      rcases Int.mul_eq_zero.mp z with z | z
      · omega
      · exact hx0 z
    rw [← e]
    exact hr2
  have hr30 : H2 r = some (.tup [.int (y * x)]) := hr3
  have h21 := s2 _ _ h20
  refine ⟨_, rfl, r, _, rfl, .inr (SqT.of hr30), _, rfl, q, _, rfl, .inr (SqT.of h21), _, _, rfl, rfl, _, rfl, ?_⟩
  refine iteT ⟨_, rfl, _, rfl, q, _, _, .int y, rfl, rfl, SqT.of h21, atl1 _, _, _, rfl, rfl, _, rfl, ?_⟩
  rw [decide_eq_true (show y > 0 from hy0)]
  refine iteT ⟨_, rfl, _, rfl, r, _, _, .int (y * x), rfl, rfl, SqT.of hr30, atl1 _, ?_⟩
  refine ⟨_, rfl, _, rfl, _, rfl, _, rfl, _, rfl, r, _, rfl, .inr (SqT.of hr30), _, rfl, q, _, rfl, .inr (SqT.of h21), _, _, rfl, rfl, ?_⟩
  have bxy : Sm 400 (y * x) := sm_le (sm_mul bY bx) (by decide)
  refine .inr ⟨(y, r, y * x, q, y * x, y), ?_, ⟨hr3, TI.same s2 h2, sm_le bY (by decide), bxy, bxy, sm_le bY (by decide)⟩, ?_⟩
  · show [V.int (if y < 0 then -y else y), V.ref r, V.int (y * x), V.ref q, V.int ((1 : Int) - 1)] = _
    rw [ey]
    rfl
  rintro _ H4 s4 ⟨r2, rfl, hr4⟩
  have hr5 : TI H4 r2 [] := by
    have e : trimI [y * (y * x) - y * x * y] = [] := by
      have z : y * (y * x) - y * x * y = 0 := by rw [Int.mul_comm (y * x) y]; exact Int.sub_self _
      rw [z]
      rfl
    rw [← e]
    exact hr4
  have hr50 : H4 r2 = some (.tup []) := hr5
  have h22 := s4 _ _ h21
  refine ⟨_, rfl, r2, _, rfl, .inr (SqT.of hr50), _, rfl, q, _, rfl, .inr (SqT.of h22), _, _, rfl, rfl, _, rfl, rfl, ?_⟩
  refine ⟨_, rfl, r2, rfl, hr5, ?_⟩
  rintro _ _ - ⟨rfl, rfl⟩
  exact k _ _ (s2.trans s4) ⟨r2, rfl, hr5⟩
theorem s36 : FnScope ["terms", "chain"] ["terms"] (defScope (top 36)) := (⟨rfl, rfl, rfl, by decide +kernel, rfl, by decide +kernel, by decide +kernel⟩)
/-- the row of Sturm of (x, y) -/
def Ch (H : Hp) (c p q : Addr) (x y : Int) : Prop := H c = some (.lst [.ref p, .ref q]) ∧ TI H p [x, y] ∧ TI H q [y]
theorem Ch.same {H H' : Hp} {c p q : Addr} {x y : Int} (s : Same H H') (h : Ch H c p q x y) : Ch H' c p q x y := ⟨s _ _ h.1, TI.same s h.2.1, TI.same s h.2.2⟩
/-- the equations of a fraction above 0 -/
def Eqn (x y : Int) : Prop := -1000 ≤ x ∧ x < 0 ∧ 0 < y ∧ y ≤ 1000
theorem Eqn.sx {x y : Int} (h : Eqn x y) : Sm 100 x := by
  obtain ⟨a, b, c, d⟩ := h
  exact Nat.lt_of_le_of_lt (show x.natAbs ≤ 1000 by omega) (by decide)
theorem Eqn.sy {x y : Int} (h : Eqn x y) : Sm 100 y := by
  obtain ⟨a, b, c, d⟩ := h
  exact Nat.lt_of_le_of_lt (show y.natAbs ≤ 1000 by omega) (by decide)
abbrev spSturm : Sp := Prm (α := Addr × Int × Int) (fun a => [.ref a.1]) (fun a H => pre2 a H ∧ Eqn a.2.1 a.2.2) (fun a H v H' => ∃ c q, v = .ref c ∧ Ch H' c a.1 q a.2.1 a.2.2)
theorem c_sturm (D : Df K mg "sturm_chain" (top 36)) (B : Bl mg) (CD : Cal P w K mg base 1 "derivative" ["terms"] spDer) (CR : Cal P w K mg base 3 "remainder" ["one", "other"] spRem) (CN : Cal P w K mg base 1 "negative" ["terms"] spNeg) : Cal P w K mg base 4 "sturm_chain" ["terms"] spSturm := by
  refine mkC D s36 (fun _ _ _ _ _ _ us hl => match us, hl with | [_], _ => rfl) (fun _ => rfl) (fun f cdv A outer s H a Q E hr h k => ?_)
  obtain ⟨p, x, y⟩ := a
  obtain ⟨h1, he⟩ := h
  have he : Eqn x y := he
  have h1 : TI H p [x, y] := h1
  have hu : (A.deeper (envOfC "sturm_chain" (defScope (top 36)) s.heap.objs.size f cdv)).units + 64 < cLine := by have := hr.un; omega
  refine ⟨_, pss_cons ((ps_set (i := 1) (FnScope.nd s36) rfl (Or.inl rfl) (pe_lst (pa_cons (pv 0) (pa_cons (pe_cl CD hr (pa_cons (pv 0) pa_nil)) pa_nil)))))
    (pss_cons (ps_whU PassesOwn.never (pt_cmpR (op_neD hu) ((pe_ix ix_list (pv 1) (pe_un un_neg pe_int) (fun _ _ => rfl))) (pe_tup pa_nil) (nomark _))
      (pss_one (ps_expr (pe_bm PySem.F.plainAttrs_list PySem.F.slot_list_append PySem.F.type_list_append mt_append (pv 1) (pa_cons (pe_cl CN hr (pa_cons (pe_cl CR hr (pa_cons ((pe_ix ix_list (pv 1) (pe_un un_neg pe_int) (fun _ _ => rfl))) (pa_cons ((pe_ix ix_list (pv 1) (pe_un un_neg pe_int) (fun _ _ => rfl))) pa_nil))) pa_nil)) pa_nil)))))
    (pss_cons (ps_expr (pe_bm0 PySem.F.plainAttrs_list PySem.F.slot_list_pop PySem.F.type_list_pop mt_pop (pv 1)))
    (pss_one (ps_ret (pv 1))))), ?_⟩
  refine ⟨_, rfl, _, rfl, (p, x, y), rfl, h1, ?_⟩
  rintro _ H1 s1 ⟨q, rfl, hq⟩
  have hq : TI H1 q [y] := hq
  have hq0 : H1 q = some (.tup [.int y]) := hq
  refine ⟨(by show 2 ≤ sizeLine; decide), fun c hc => ?_⟩
  have s2 := Same.new (o := .lst [.ref p, .ref q]) s1 hc
  have sq2 := same_new (o := .lst [.ref p, .ref q]) hc
  have c0 : H c = none := new_of s1 hc
  have c2 : ∀ HH : Hp, (upd HH c (.lst [.ref p, .ref q])) c = some (.lst [.ref p, .ref q]) := fun _ => upd_same
  refine ⟨1, _, rfl, _, rfl, c, _, _, .ref q, rfl, rfl, SqL.of (c2 _), atl2 _ _, by decide, fun z hz => ?_⟩
  have s3 := Same.new (o := .tup []) s2 hz
  have sq3 := Same.new (o := .tup []) sq2 hz
  have nz : c ≠ z := ne_of_none (c2 _) hz
  have c3 : ∀ HH : Hp, (upd (upd HH c (.lst [.ref p, .ref q])) z (.tup [])) c = some (.lst [.ref p, .ref q]) := fun _ => (upd_ne nz).trans (c2 _)
  refine ⟨.tuple [.int y], .tuple [], .tup (SqT.of (sq3 _ _ hq0)) (.cons (.int y) .nil), .tup (SqT.of upd_same) .nil, rfl, rfl, _, rfl, iteT ?_⟩
  refine ⟨_, rfl, .inl ⟨rfl, _, SqL.of (c3 _)⟩, ?_⟩
  refine ⟨_, rfl, _, rfl, c, _, _, .ref p, rfl, rfl, SqL.of (c3 _), rfl, ?_⟩
  refine ⟨_, rfl, _, rfl, c, _, _, .ref q, rfl, rfl, SqL.of (c3 _), atl2 _ _, ?_⟩
  refine ⟨(p, q, x, y), rfl, ⟨TI.same s3 h1, TI.same sq3 hq, by obtain ⟨_, b, _⟩ := he; exact Int.ne_of_lt b, he.2.2.1, he.sx, he.sy⟩, ?_⟩
  rintro _ H4 s4 ⟨r, rfl, hr4⟩
  refine ⟨(r, []), rfl, ⟨hr4, Nat.zero_le _⟩, ?_⟩
  rintro _ H5 s5 ⟨r2, rfl, hr5⟩
  have hr50 : H5 r2 = some (.tup []) := hr5
  have c5 : H5 c = some (.lst [.ref p, .ref q]) := s5 _ _ (s4 _ _ (c3 _))
  refine ⟨c, _, _, rfl, rfl, c5, (by show 2 < sizeLine; decide), ?_⟩
  have s6 := Same.put (o := .lst [.ref p, .ref q, .ref r2]) (s3.trans (s4.trans s5)) c0
  have c6 : ∀ HH : Hp, (upd HH c (.lst [.ref p, .ref q, .ref r2])) c = some (.lst [.ref p, .ref q, .ref r2]) := fun _ => upd_same
  have nr : r2 ≠ c := fun e => by rw [e] at hr50; rw [hr50] at c5; cases c5
  have nq : q ≠ c := fun e => by
    have z := (s4.trans s5) _ _ (sq3 _ _ hq0)
    rw [e, c5] at z
    cases z
  have hr6 := (upd_ne (o := .lst [.ref p, .ref q, .ref r2]) nr).trans hr50
  refine ⟨_, rfl, _, rfl, c, _, _, .ref r2, rfl, rfl, SqL.of (c6 _), atl3 _ _ _, by decide, fun z2 hz2 => ?_⟩
  have nz2 : c ≠ z2 := ne_of_none (c6 _) hz2
  have nr2 : r2 ≠ z2 := ne_of_none hr6 hz2
  have s7 := Same.new (o := .tup []) s6 hz2
  have c7 : ∀ HH : Hp, (upd (upd HH c (.lst [.ref p, .ref q, .ref r2])) z2 (.tup [])) c = some (.lst [.ref p, .ref q, .ref r2]) := fun _ => (upd_ne nz2).trans (c6 _)
  refine ⟨.tuple [], .tuple [], .tup (SqT.of ((upd_ne nr2).trans hr6)) .nil, .tup (SqT.of upd_same) .nil, rfl, rfl, _, rfl, rfl, ?_⟩
  refine ⟨_, rfl, .inl ⟨rfl, _, SqL.of (c7 _)⟩, c, _, .ref r2, rfl, rfl, (c7 _), rfl, ?_⟩
  have s8 := Same.put (o := .lst [.ref p, .ref q]) s7 c0
  refine ⟨_, rfl, k _ _ s8 ⟨c, q, rfl, upd_same, TI.same s8 h1, ?_⟩⟩
  have z : H5 q = some (.tup [.int y]) := (s4.trans s5) _ _ (sq3 _ _ hq0)
  have n9 : q ≠ z2 := ne_of_none ((upd_ne nq).trans z) hz2
  show upd _ c _ q = _
  rw [upd_ne nq, upd_ne n9, upd_ne nq]
  exact z
end
end Xq

namespace Xq
open PySem PySem.Spec PyProof.Rows L2
/-- how often the sign changes -/
def chg (x y t : Int) : Int := if y * t + x < 0 then 1 else 0
section
variable {P : Program} {w : World} {K : PySem.W.Frag} {mg : Str → Option Value} {base : Heap}
abbrev nCh : List Str := ["chain", "top", "bottom", "values", "signs", "terms", "value", "left", "right"]
theorem s37 : FnScope nCh ["chain", "top", "bottom"] (defScope (top 37)) := (⟨rfl, rfl, rfl, by decide +kernel, rfl, by decide +kernel, by decide +kernel⟩)
abbrev spVal : Sp := OrS spVal1 spVal2
abbrev spChg : Sp := Prm (α := Addr × Addr × Addr × Int × Int × Int) (fun a => [.ref a.1, .int a.2.2.2.2.2, .int 1]) (fun a H => Ch H a.1 a.2.1 a.2.2.1 a.2.2.2.1 a.2.2.2.2.1 ∧ Eqn a.2.2.2.1 a.2.2.2.2.1) (fun a H v H' => v = .int (chg a.2.2.2.1 a.2.2.2.2.1 a.2.2.2.2.2))
theorem c_chg (D : Df K mg "changes" (top 37)) (B : Bl mg) (C : Cal P w K mg base 1 "value_at" ["terms", "top", "bottom"] spVal) : Cal P w K mg base 2 "changes" ["chain", "top", "bottom"] spChg := by
  refine mkC D s37 (fun _ _ _ _ _ _ us hl => match us, hl with | [_, _, _], _ => rfl) (fun _ => rfl) (fun f cdv A outer s H a Q E hr h k => ?_)
  obtain ⟨c, p, q, x, y, t⟩ := a
  obtain ⟨hc, he⟩ := h
  have he : Eqn x y := he
  obtain ⟨hc, hp, hq⟩ := hc
  have hc : H c = some (.lst [.ref p, .ref q]) := hc
  have hp : TI H p [x, y] := hp
  have hq : TI H q [y] := hq
  have k : ∀ v H', Same H H' → v = .int (chg x y t) → Q v H' := k
  refine ⟨_, pss_cons (ps_setLc (i := 3) (own := [("terms", 5)]) (g := gName 5) (tt := tYes) (te := tCall spVal [] E0 (tCons (tVar 5) (tCons (tVar 1) (tCons (tVar 2) tNil)))) rfl s37.nd rfl rfl (sw_true rfl rfl rfl (by decide +kernel)) (pi_list (pv 0))
      (blkOk_by (N := nCh) (sc := defScope (top 37)) (by decide +kernel)) (fun _ _ _ _ _ => (pg_name (i := 5) (FnScope.nd s37) rfl (Or.inl rfl))) (fun _ _ _ _ _ => pts_nil)
      (fun _ _ _ _ _ => pe_cl C hr (pa_cons (pv 5) (pa_cons (pv 1) (pa_cons (pv 2) pa_nil)))))
    (pss_cons (ps_setLc (i := 4) (own := [("value", 6)]) (g := gName 6) (tt := tTest (tOp rNe (tVar 6) (tC (.int 0)))) (te := tOp (rI0 fun i j => .bl (decide (j < i))) (tVar 6) (tC (.int 0))) rfl s37.nd rfl rfl (sw_true rfl rfl rfl (by decide +kernel)) (pi_list (pv 3))
      (blkOk_by (N := nCh) (sc := defScope (top 37)) (by decide +kernel)) (fun _ _ _ _ _ => (pg_name (i := 6) (FnScope.nd s37) rfl (Or.inl rfl))) (fun _ _ _ _ _ => pts_one ((pt_cmpR op_ne (pv 6) pe_int (nomark _))))
      (fun _ _ _ _ _ => pe_cmpR op_gt (pv 6) pe_int (nomark _)))
    (pss_one (ps_ret ((pe_callB call_len_seq (by rfl) (Bl.len_ B) PySem.boot_len (pa_cons (pe_lc (own := [("left", 7), ("right", 8)]) (g := gTup K 2 (gCons (gName 7) (gCons (gName 8) gNil))) (tt := tTest (tOp rNe (tVar 7) (tVar 8))) (te := tVar 7) rfl s37.nd (pi_zip (by rfl) B.zip_ (pa_cons (pv 4) (pa_cons (pe_slice sl_list (pv 4) (po_some pe_int) po_none) pa_nil)))
      (blkOk_by (N := nCh) (sc := defScope (top 37)) (by decide +kernel)) (fun _ _ _ _ _ => pg_tup rfl (pgs_cons ((pg_name (i := 7) (FnScope.nd s37) rfl (Or.inl rfl))) (pgs_cons ((pg_name (i := 8) (FnScope.nd s37) rfl (Or.inl rfl))) pgs_nil))) (fun _ _ _ _ _ => pts_one ((pt_cmpR op_ne (pv 7) (pv 8) (nomark _))))
      (fun _ _ _ _ _ => pv 7)) pa_nil)))))), ?_⟩
  -- the values
  refine ⟨_, rfl, c, rfl, ⟨_, SqL.of hc⟩, fun D hD => lc_yes (G := fun H => SqL K H c [.ref p, .ref q]) (xs := [.ref p, .ref q]) walk_list ?_⟩
  have s1 := same_new (o := .lst []) hD
  have d1 : ∀ HH : Hp, ∀ o, (upd HH D o) D = some o := fun _ _ => upd_same
  refine ⟨SqL.of (s1 _ _ hc), rfl, _, rfl, _, rfl, _, rfl, ?_⟩
  refine .inr ⟨(p, x, y, t), rfl, ⟨TI.same s1 hp, ?_, ?_⟩, ?_⟩
  · obtain ⟨_, _, z, _⟩ := he
    exact Int.le_trans (by decide) (Int.le_of_lt z)
  · exact he.2.2.2
  rintro _ H2 s2 rfl
  refine ⟨_, s2 _ _ (d1 _ _), by decide, ?_⟩
  have t3 := Same.put (o := .lst [.int (y * t + x)]) (s1.trans s2) hD
  refine ⟨SqL.of (t3 _ _ hc), rfl, _, rfl, _, rfl, _, rfl, ?_⟩
  refine .inl ⟨(q, y, t, 1), rfl, .inr (TI.same t3 hq), ?_⟩
  rintro _ H3 s3 rfl
  refine ⟨_, s3 _ _ (d1 _ _), (by show 1 < sizeLine; decide), ?_⟩
  have t4 := Same.put (o := .lst [.int (y * t + x), .int y]) (t3.trans s3) hD
  have d4 : ∀ HH : Hp, (upd HH D (.lst [.int (y * t + x), .int y])) D = some (.lst [.int (y * t + x), .int y]) := fun _ => upd_same
  refine ⟨SqL.of (t4 _ _ hc), ?_⟩
  -- the signs
  refine ⟨_, rfl, D, rfl, ⟨_, SqL.of (d4 _)⟩, fun G hG => lc_unr (G := fun H => SqL K H D [.int (y * t + x), .int y]) (xs := [.int (y * t + x), .int y]) walk_list ?_⟩
  have sD := same_new (o := .lst []) hG
  have t5 := Same.new (o := .lst []) t4 hG
  have g0 : H G = none := new_of t4 hG
  have yp : 0 < y := he.2.2.1
  -- what follows, from the signs bs at G
  have rest : ∀ (bs : List Bool) (n : Nat) (H7 : Hp), (bs = [true] ∨ bs = [true, true] ∨ bs = [false, true]) → (chg x y t = if bs = [false, true] then 1 else 0) → Same H H7 → H7 G = some (.lst (bs.map V.bl)) →
      tRet (tCB (fun xs H Q => ∃ p ys, xs = [.ref p] ∧ (SqL K H p ys ∨ SqT K H p ys) ∧ Q (.int ys.length) H) (tCons (tLc (iZip K (tCons (tVar 4) (tCons (tSl (rSlL K) (tVar 4) (tPart (tC (.int 1))) tNoPart) tNil))) (gTup K 2 (gCons (gName 7) (gCons (gName 8) gNil))) (tTest (tOp rNe (tVar 7) (tVar 8))) (tVar 7) [7, 8]) tNil)) { nx := fun _ H' => Q .non H', rt := Q } ((List.set (L2.start nCh [.ref c, .int t, .int 1]) 3 (some (.ref D))).set 4 (some (.ref G))) H7 := by
    intro bs n H7 hb hch s7 hG7
    refine ⟨_, rfl, _, rfl, _, rfl, G, _, rfl, SqL.of hG7, fun R hR => ?_⟩
    have s8 := Same.new (o := .lst (cutV (bs.map V.bl) (some 1) none)) s7 hR
    have g8 := same_new (o := .lst (cutV (bs.map V.bl) (some 1) none)) hR _ _ hG7
    have gR : G ≠ R := ne_of_none hG7 hR
    refine ⟨G, R, _, _, rfl, SqL.of g8, SqL.of upd_same, fun M hM => lc_unrZ (xs := bs.map V.bl) (ys := cutV (bs.map V.bl) (some 1) none) ?_⟩
    have m0 : H M = none := new_of s8 hM
    have s9 := Same.new (o := .lst []) s8 hM
    have z9 := same_new (o := .lst []) hM
    have g9 := z9 _ _ g8
    have r9 := z9 R (.lst (cutV (bs.map V.bl) (some 1) none)) upd_same
    have m9 : ∀ HH : Hp, ∀ o, (upd HH M o) M = some o := fun _ _ => upd_same
    rcases hb with rfl | rfl | rfl
    · refine ⟨⟨SqL.of g9, SqL.of r9⟩, M, [], rfl, .inl (SqL.of upd_same), k _ _ s9 ?_⟩
      rw [hch]
      rfl
    · refine ⟨⟨SqL.of g9, SqL.of r9⟩, fun T hT => ?_⟩
      have z10 := Same.new (o := .tup [.bl true, .bl true]) z9 hT
      have s10 := Same.new (o := .tup [.bl true, .bl true]) s9 hT
      have nM : M ≠ T := ne_of_none (m9 _ _) hT
      refine ⟨T, _, rfl, SqT.of upd_same, rfl, _, _, rfl, _, _, rfl, rfl, rfl, _, rfl, _, rfl, rfl, _, rfl, ?_⟩
      refine ⟨⟨SqL.of (z10 _ _ g8), SqL.of (z10 R (.lst (cutV ([true, true].map V.bl) (some 1) none)) upd_same)⟩, M, [], rfl, .inl (SqL.of ((upd_ne nM).trans upd_same)), k _ _ s10 ?_⟩
      rw [hch]
      rfl
    · refine ⟨⟨SqL.of g9, SqL.of r9⟩, fun T hT => ?_⟩
      have z10 := Same.new (o := .tup [.bl false, .bl true]) z9 hT
      have s10 := Same.new (o := .tup [.bl false, .bl true]) s9 hT
      have nM : M ≠ T := ne_of_none (m9 _ _) hT
      refine ⟨T, _, rfl, SqT.of upd_same, rfl, _, _, rfl, _, _, rfl, rfl, rfl, _, rfl, _, rfl, rfl, _, rfl, ?_⟩
      refine ⟨_, rfl, _, (upd_ne nM).trans upd_same, by decide, ?_⟩
      have s11 := Same.put (o := .lst [.bl false]) s10 m0
      have z11 := Same.put (o := .lst [.bl false]) z10 hM
      refine ⟨⟨SqL.of (z11 _ _ g8), SqL.of (z11 R (.lst (cutV ([false, true].map V.bl) (some 1) none)) upd_same)⟩, M, [.bl false], rfl, .inl (SqL.of upd_same), k _ _ s11 ?_⟩
      rw [hch]
      rfl
  have z5 := same_new (o := .lst []) hG
  have d5 := z5 _ _ (d4 H3)
  have nDG : D ≠ G := ne_of_none (d4 _) hG
  have g5 : ∀ HH : Hp, ∀ o, (upd HH G o) G = some o := fun _ _ => upd_same
  have v2 : (y > 0) := yp
  have v2n : ¬ (y = 0) := by omega
  have ne_int : ∀ i : Int, ¬ (i = 0) → (!decide (V.int i = V.int 0)) = true := fun i hi => by rw [dec_int]; simpa using hi
  have eq_int : ∀ i : Int, i = 0 → (!decide (V.int i = V.int 0)) = false := fun i hi => by rw [dec_int]; simpa using hi
  refine ⟨SqL.of d5, rfl, _, rfl, rfl, _, rfl, ?_⟩
  by_cases h0 : y * t + x = 0
  · rw [eq_int _ h0]
    refine iteF ⟨SqL.of d5, rfl, _, rfl, rfl, _, rfl, ?_⟩
    rw [ne_int _ v2n]
    refine iteT ⟨_, rfl, _, _, rfl, rfl, _, g5 _ _, by decide, ?_⟩
    rw [upd_upd]
    refine ⟨SqL.of ((upd_ne nDG).trans (d4 _)), rest [true] 0 _ (.inl rfl) ?_ (Same.new t4 hG) ?_⟩
    · unfold chg
      rw [if_neg (by omega), if_neg (by decide)]
    · refine upd_same.trans ?_
      show some (HO.lst [.bl (decide (0 < y))]) = _
      rw [decide_eq_true v2]
      rfl
  · rw [ne_int _ h0]
    refine iteT ⟨_, rfl, _, _, rfl, rfl, _, g5 _ _, by decide, ?_⟩
    rw [upd_upd]
    have z6 := same_new (o := .lst [.bl (decide (0 < y * t + x))]) hG
    refine ⟨SqL.of (z6 _ _ (d4 _)), rfl, _, rfl, rfl, _, rfl, ?_⟩
    rw [ne_int _ v2n]
    refine iteT ⟨_, rfl, _, _, rfl, rfl, _, g5 _ _, (by show 1 < sizeLine; decide), ?_⟩
    rw [upd_upd]
    by_cases hp0 : 0 < y * t + x
    · have e : decide (0 < y * t + x) = true := decide_eq_true hp0
      have z7 := same_new (o := .lst [.bl true, .bl true]) hG
      refine ⟨SqL.of ?_, ?_⟩
      · exact (upd_ne nDG).trans (d4 _)
      · refine rest [true, true] 0 _ (.inr (.inl rfl)) ?_ (Same.new t4 hG) ?_
        · unfold chg
          rw [if_neg (by omega), if_neg (by decide)]
        · refine upd_same.trans ?_
          show some (HO.lst [.bl (decide (0 < y * t + x)), .bl (decide (0 < y))]) = _
          rw [e, decide_eq_true v2]
          rfl
    · have e : decide (0 < y * t + x) = false := decide_eq_false hp0
      refine ⟨SqL.of ?_, ?_⟩
      · exact (upd_ne nDG).trans (d4 _)
      · refine rest [false, true] 0 _ (.inr (.inr rfl)) ?_ (Same.new t4 hG) ?_
        · unfold chg
          rw [if_pos (by omega), if_pos rfl]
        · refine upd_same.trans ?_
          show some (HO.lst [.bl (decide (0 < y * t + x)), .bl (decide (0 < y))]) = _
          rw [e, decide_eq_true v2]
          rfl
theorem s38 : FnScope ["terms", "term"] ["terms"] (defScope (top 38)) := (⟨rfl, rfl, rfl, by decide +kernel, rfl, by decide +kernel, by decide +kernel⟩)
abbrev spReach : Sp := Prm (α := Addr × Int × Int) (fun a => [.ref a.1]) (fun a H => pre2 a H ∧ Eqn a.2.1 a.2.2) (fun a H v H' => ∃ m, v = .int m ∧ -a.2.1 < m ∧ a.2.2 < m ∧ m ≤ 1001)
theorem c_reach (D : Df K mg "reach" (top 38)) (B : Bl mg) : Cal P w K mg base 1 "reach" ["terms"] spReach := by
  refine mkC D s38 (fun _ _ _ _ _ _ us hl => match us, hl with | [_], _ => rfl) (fun _ => rfl) (fun f cdv A outer s H a Q E hr h k => ?_)
  obtain ⟨p, x, y⟩ := a
  obtain ⟨h1, he⟩ := h
  have h10 : H p = some (.tup [.int x, .int y]) := h1
  obtain ⟨e1, e2, e3, e4⟩ := (show Eqn x y from he)
  refine ⟨_, pss_one (ps_ret (pe_op op_add pe_int (pe_callB (cr_max rfl) (by rfl) B.max_ PyProof.Rows.boot_max (pa_cons
    (pe_lc (own := [("term", 1)]) (g := gName 1) (tt := tYes) (te := tCB (fun xs H Q => ∃ i, xs = [.int i] ∧ Q (.int (if i < 0 then -i else i)) H) (tCons (tVar 1) tNil)) rfl s38.nd (pi_tup (pv 0))
      (blkOk_by (N := ["terms", "term"]) (sc := defScope (top 38)) (by decide +kernel)) (fun _ _ _ _ _ => (pg_name (i := 1) (FnScope.nd s38) rfl (Or.inl rfl))) (fun _ _ _ _ _ => pts_nil)
      (fun _ _ _ _ _ => pe_callB call_abs (by rfl) B.abs_ PyProof.Rows.boot_abs (pa_cons (pv 1) pa_nil))) pa_nil)))), ?_⟩
  refine ⟨_, rfl, p, rfl, ⟨_, SqT.of h10⟩, fun D hD => lc_yes (G := fun H => SqT K H p [.int x, .int y]) (xs := [.int x, .int y]) walk_tup ?_⟩
  have s1 := same_new (o := .lst []) hD
  refine ⟨SqT.of (s1 _ _ h10), rfl, _, rfl, x, rfl, _, upd_same, by decide, ?_⟩
  rw [upd_upd]
  have s2 := same_new (o := .lst [.int (if x < 0 then -x else x)]) hD
  refine ⟨SqT.of (s2 _ _ h10), rfl, _, rfl, y, rfl, _, upd_same, (by show 1 < sizeLine; decide), ?_⟩
  rw [upd_upd]
  have s3 := same_new (o := .lst [.int (if x < 0 then -x else x), .int (if y < 0 then -y else y)]) hD
  refine ⟨SqT.of (s3 _ _ h10), D, [if x < 0 then -x else x, if y < 0 then -y else y], rfl, SqL.of upd_same, (by show 0 < 2; decide), fun m hm hle => ?_⟩
  refine ⟨_, _, rfl, rfl, k _ _ s3 ⟨1 + m, rfl, ?_⟩⟩
  have a1 := hle (if x < 0 then -x else x) (by simp)
  have a2 := hle (if y < 0 then -y else y) (by simp)
  rw [if_pos e2] at a1
  rw [if_neg (by omega)] at a2
  have a3 : m ≤ 1000 := by
    rcases List.mem_cons.mp hm with z | z
    · rw [z, if_pos e2]; omega
    · rw [List.mem_singleton.mp z, if_neg (by omega)]; omega
  show -x < 1 + m ∧ y < 1 + m ∧ 1 + m ≤ 1001
  exact ⟨by omega, by omega, by omega⟩
end
end Xq

namespace Xq
open PySem PySem.Spec PyProof.Rows L2
section
variable {P : Program} {w : World} {K : PySem.W.Frag} {mg : Str → Option Value} {base : Heap}
theorem s39 : FnScope ["chain", "top", "bottom"] ["chain", "top", "bottom"] (defScope (top 39)) := (⟨rfl, rfl, rfl, by decide +kernel, rfl, by decide +kernel, by decide +kernel⟩)
abbrev spUpTo : Sp := Prm (α := Addr × Addr × Addr × Int × Int × Int) (fun a => [.ref a.1, .int a.2.2.2.2.2, .int 1]) (fun a H => Ch H a.1 a.2.1 a.2.2.1 a.2.2.2.1 a.2.2.2.2.1 ∧ Eqn a.2.2.2.1 a.2.2.2.2.1) (fun a H v H' => v = .int (1 - chg a.2.2.2.1 a.2.2.2.2.1 a.2.2.2.2.2))
theorem c_upto (D : Df K mg "roots_up_to" (top 39)) (C : Cal P w K mg base 2 "changes" ["chain", "top", "bottom"] spChg) (CR : Cal P w K mg base 1 "reach" ["terms"] spReach) : Cal P w K mg base 3 "roots_up_to" ["chain", "top", "bottom"] spUpTo := by
  refine mkC D s39 (fun _ _ _ _ _ _ us hl => match us, hl with | [_, _, _], _ => rfl) (fun _ => rfl) (fun f cdv A outer s H a Q E hr h k => ?_)
  obtain ⟨c, p, q, x, y, t⟩ := a
  obtain ⟨hc, he⟩ := h
  have he : Eqn x y := he
  have hc : Ch H c p q x y := hc
  have k : ∀ v H', Same H H' → v = .int (1 - chg x y t) → Q v H' := k
  refine ⟨_, pss_one (ps_ret (pe_op op_sub (pe_cl C hr (pa_cons (pv 0) (pa_cons (pe_un un_neg (pe_cl CR hr (pa_cons ((pe_ix ix_list (pv 0) pe_int (fun _ _ => rfl))) pa_nil))) (pa_cons pe_int pa_nil)))) (pe_cl C hr (pa_cons (pv 0) (pa_cons (pv 1) (pa_cons (pv 2) pa_nil)))))), ?_⟩
  refine ⟨_, rfl, _, rfl, c, _, _, .ref p, rfl, rfl, SqL.of hc.1, atI_nat (j := 0) rfl, ?_⟩
  refine ⟨(p, x, y), rfl, ⟨hc.2.1, he⟩, ?_⟩
  rintro _ H1 s1 ⟨m, rfl, hm1, hm2, hm3⟩
  have hm1 : -x < m := hm1
  refine ⟨m, rfl, (c, p, q, x, y, -m), rfl, ⟨hc.same s1, he⟩, ?_⟩
  rintro _ H2 s2 rfl
  refine ⟨_, rfl, _, rfl, _, rfl, (c, p, q, x, y, t), rfl, ⟨hc.same (s1.trans s2), he⟩, ?_⟩
  rintro _ H3 s3 rfl
  refine ⟨_, _, rfl, rfl, k _ _ (s1.trans (s2.trans s3)) ?_⟩
  have e : chg x y (-m) = 1 := by
    unfold chg
    rw [if_pos]
    obtain ⟨e1, e2, e3, e4⟩ := he
    have : 0 < y * m := Int.mul_pos e3 (by omega)
    rw [Int.mul_neg]
    omega
  show V.int (chg x y (-m) - chg x y t) = _
  rw [e]
theorem s40 : FnScope ["chain"] ["chain"] (defScope (top 40)) := (⟨rfl, rfl, rfl, by decide +kernel, rfl, by decide +kernel, by decide +kernel⟩)
abbrev spAll : Sp := Prm (α := Addr × Addr × Addr × Int × Int) (fun a => [.ref a.1]) (fun a H => Ch H a.1 a.2.1 a.2.2.1 a.2.2.2.1 a.2.2.2.2 ∧ Eqn a.2.2.2.1 a.2.2.2.2) (fun a H v H' => v = .int 1)
theorem c_all (D : Df K mg "roots_in_all" (top 40)) (C : Cal P w K mg base 3 "roots_up_to" ["chain", "top", "bottom"] spUpTo) (CR : Cal P w K mg base 1 "reach" ["terms"] spReach) : Cal P w K mg base 4 "roots_in_all" ["chain"] spAll := by
  refine mkC D s40 (fun _ _ _ _ _ _ us hl => match us, hl with | [_], _ => rfl) (fun _ => rfl) (fun f cdv A outer s H a Q E hr h k => ?_)
  obtain ⟨c, p, q, x, y⟩ := a
  obtain ⟨hc, he⟩ := h
  have he : Eqn x y := he
  have hc : Ch H c p q x y := hc
  refine ⟨_, pss_one (ps_ret (pe_cl C hr (pa_cons (pv 0) (pa_cons (pe_cl CR hr (pa_cons ((pe_ix ix_list (pv 0) pe_int (fun _ _ => rfl))) pa_nil)) (pa_cons pe_int pa_nil))))), ?_⟩
  refine ⟨_, rfl, _, rfl, c, _, _, .ref p, rfl, rfl, SqL.of hc.1, atI_nat (j := 0) rfl, ?_⟩
  refine ⟨(p, x, y), rfl, ⟨hc.2.1, he⟩, ?_⟩
  rintro _ H1 s1 ⟨m, rfl, hm1, hm2, hm3⟩
  have hm1 : -x < m := hm1
  refine ⟨(c, p, q, x, y, m), rfl, ⟨hc.same s1, he⟩, ?_⟩
  rintro _ H2 s2 rfl
  refine k _ _ (s1.trans s2) ?_
  have e : chg x y m = 0 := by
    unfold chg
    rw [if_neg]
    obtain ⟨e1, e2, e3, e4⟩ := he
    have : 1 * m ≤ y * m := Int.mul_le_mul_of_nonneg_right (by omega) (by omega)
    omega
  show V.int (1 - chg x y m) = _
  rw [e]
  rfl
abbrev nR : List Str := ["equation", "near", "bits", "wanted", "step", "closer"]
theorem s45 : FnScope nR ["equation", "near", "bits", "wanted"] (defScope (top 45)) := (⟨rfl, rfl, rfl, by decide +kernel, rfl, by decide +kernel, by decide +kernel⟩)
def flr (x y : Int) : Int := (-x * 2 ^ 64) / y
abbrev spRef : Sp := Prm (α := Addr × Int × Int × Int × Int) (fun a => [.ref a.1, .int a.2.2.2.1, .int a.2.2.2.2, .int 64]) (fun a H => TI H a.1 [a.2.1, a.2.2.1] ∧ Eqn a.2.1 a.2.2.1) (fun a H v H' => v = .int (flr a.2.1 a.2.2.1))
theorem c_ref (D : Df K mg "refined" (top 45)) (B : Bl mg) : Cal P w K mg base 1 "refined" ["equation", "near", "bits", "wanted"] spRef := by
  refine mkC D s45 (fun _ _ _ _ _ _ us hl => match us, hl with | [_, _, _, _], _ => rfl) (fun _ => rfl) (fun f cdv A outer s H a Q E hr h k => ?_)
  obtain ⟨p, x, y, u, v⟩ := a
  obtain ⟨h, he⟩ := h
  have he : Eqn x y := he
  have h0 : H p = some (.tup [.int x, .int y]) := h
  refine ⟨_, pss_cons (ps_if ((pt_cmpR op_eq ((pe_callB call_len_seq (by rfl) (Bl.len_ B) PySem.boot_len (pa_cons (pv 0) pa_nil))) pe_int (nomark _))) (pss_one (ps_ret (pe_op op_fdiv (pe_op op_shl (pe_un un_neg ((pe_ix ix_tup (pv 0) pe_int (fun _ _ => rfl)))) (pv 3)) ((pe_ix ix_tup (pv 0) pe_int (fun _ _ => rfl)))))) pss_nil) pss_nv, ?_⟩
  refine ⟨_, rfl, p, _, rfl, .inr (SqT.of h0), rfl, _, rfl, ?_⟩
  refine iteT ⟨_, rfl, p, _, _, .int x, rfl, rfl, SqT.of h0, atI_nat (j := 0) rfl, _, rfl, _, rfl, _, _, rfl, rfl, ⟨by decide, by decide, ?_⟩, ?_⟩
  · obtain ⟨e1, e2, e3, e4⟩ := he
    show (-x).natAbs < 2 ^ 64
    omega
  refine ⟨_, rfl, p, _, _, .int y, rfl, rfl, SqT.of h0, atI_nat (j := 1) rfl, _, _, rfl, rfl, ⟨he.2.2.1, ?_⟩, k _ _ (Same.refl _) rfl⟩
  obtain ⟨e1, e2, e3, e4⟩ := he
  omega
abbrev nL : List Str := ["equation", "rank", "chain", "low", "high", "bits", "middle"]
theorem s44 : FnScope nL ["equation", "rank"] (defScope (top 44)) := (⟨rfl, rfl, rfl, by decide +kernel, rfl, by decide +kernel, by decide +kernel⟩)
abbrev spLone : Sp := Prm (α := Addr × Int × Int) (fun a => [.ref a.1, .int 0]) (fun a H => pre2 a H ∧ Eqn a.2.1 a.2.2) (fun a H v H' => ∃ r lo, v = .ref r ∧ TI H' r [lo, 0])
theorem chg_le (x y t : Int) : 0 ≤ chg x y t ∧ chg x y t ≤ 1 := by
  unfold chg
  split <;> decide
theorem c_lone (D : Df K mg "lonely_stretch" (top 44)) (CS : Cal P w K mg base 4 "sturm_chain" ["terms"] spSturm) (CR : Cal P w K mg base 1 "reach" ["terms"] spReach) (CC : Cal P w K mg base 2 "changes" ["chain", "top", "bottom"] spChg) (CU : Cal P w K mg base 3 "roots_up_to" ["chain", "top", "bottom"] spUpTo) : Cal P w K mg base 5 "lonely_stretch" ["equation", "rank"] spLone := by
  refine mkC D s44 (fun _ _ _ _ _ _ us hl => match us, hl with | [_, _], _ => rfl) (fun _ => rfl) (fun f cdv A outer s H a Q E hr h k => ?_)
  obtain ⟨p, x, y⟩ := a
  obtain ⟨h, he⟩ := h
  have he : Eqn x y := he
  have h : TI H p [x, y] := h
  refine ⟨_, pss_cons ((ps_set (i := 2) (FnScope.nd s44) rfl (Or.inl rfl) (pe_cl CS hr (pa_cons (pv 0) pa_nil))))
    (pss_cons (ps_par3 (i := 3) (j := 4) (l := 5) rfl s44.nd rfl rfl rfl (by decide) (by decide) (by decide) rfl rfl rfl (pa_cons pe_int (pa_cons (pe_cl CR hr (pa_cons (pv 0) pa_nil)) (pa_cons pe_int pa_nil))) rfl)
    (pss_cons (ps_whB PassesOwn.never (PW.pt (pw_or ((pt_cmpR op_gt (pe_op op_sub (pv 4) (pv 3)) pe_int (nomark _))) (pw_or1 ((pt_cmpR op_gt (pe_op op_sub (pe_cl CC hr (pa_cons (pv 2) (pa_cons (pv 3) (pa_cons (pe_op op_shl pe_int (pv 5)) pa_nil)))) (pe_cl CC hr (pa_cons (pv 2) (pa_cons (pv 4) (pa_cons (pe_op op_shl pe_int (pv 5)) pa_nil))))) pe_int (nomark _))))))
      (pss_cons (ps_if ((pt_cmpR op_eq (pe_op op_sub (pv 4) (pv 3)) pe_int (nomark _))) pss_nv pss_nil)
      (pss_cons ((ps_set (i := 6) (FnScope.nd s44) rfl (Or.inl rfl) (pe_op op_fdiv (pe_op op_add (pv 3) (pv 4)) pe_int)))
      (pss_one (ps_if ((pt_cmpR op_gt (pe_cl CU hr (pa_cons (pv 2) (pa_cons (pv 6) (pa_cons (pe_op op_shl pe_int (pv 5)) pa_nil)))) (pv 1) (nomark _))) (pss_one ((ps_set (i := 4) (FnScope.nd s44) rfl (Or.inl rfl) (pv 6)))) (pss_one ((ps_set (i := 3) (FnScope.nd s44) rfl (Or.inl rfl) (pv 6)))))))))
    (pss_one (ps_ret (pe_tup (pa_cons (pv 3) (pa_cons (pv 5) pa_nil))))))), ?_⟩
  refine ⟨_, rfl, (p, x, y), rfl, ⟨h, he⟩, ?_⟩
  rintro _ H1 s1 ⟨c, q, rfl, hc⟩
  have hc : Ch H1 c p q x y := hc
  refine ⟨_, rfl, (p, x, y), rfl, ⟨TI.same s1 h, he⟩, ?_⟩
  rintro _ H2 s2 ⟨m, rfl, hm1, hm2, hm3⟩
  have hm1 : -x < m := hm1
  have hm3 : m ≤ 1001 := hm3
  refine ⟨_, _, _, rfl, ?_⟩
  refine ⟨fun σ H' => Same H2 H' ∧ ∃ lo hi z, σ = [some (.ref p), some (.int 0), some (.ref c), some (.int lo), some (.int hi), some (.int 0), z] ∧ lo < hi,
    fun σ _ => (match σ with | [_, _, _, some (.int lo), some (.int hi), _, _] => (hi - lo).toNat | _ => 0), ⟨Same.refl _, 0, m, none, rfl, ?_⟩, ?_⟩
  · obtain ⟨e1, e2, e3, e4⟩ := he
    omega
  rintro σ H3 ⟨s3, lo, hi, z, rfl, hlt⟩
  have hc3 := (hc.same s2).same s3
  refine ⟨_, rfl, _, rfl, _, _, rfl, rfl, _, _, rfl, rfl, _, rfl, ?_⟩
  refine ite2 (fun hb => ?_) (fun hb => ?_)
  · have hb2 : hi - lo > 1 := of_decide_eq_true hb
    have hb3 : ¬ (hi - lo = 1) := by omega
    refine ⟨_, rfl, _, rfl, _, _, rfl, rfl, rfl, _, rfl, ?_⟩
    rw [dec_int, show (hi - lo == 1) = false from by simpa using hb3]
    refine iteF ⟨_, rfl, _, rfl, _, _, rfl, rfl, _, _, rfl, rfl, ⟨by decide, by decide⟩, ?_⟩
    refine ⟨_, rfl, _, rfl, _, rfl, _, _, rfl, rfl, ⟨by decide, by decide, by decide⟩, (c, p, q, x, y, (lo + hi) / 2), rfl, ⟨hc3, he⟩, ?_⟩
    rintro _ H4 s4 rfl
    refine ⟨_, rfl, _, _, rfl, rfl, _, rfl, ?_⟩
    refine ite2 (fun hd => ?_) (fun hd => ?_)
    · refine ⟨_, rfl, ⟨s3.trans s4, lo, (lo + hi) / 2, some (.int ((lo + hi) / 2)), rfl, by omega⟩, ?_⟩
      show ((lo + hi) / 2 - lo).toNat < (hi - lo).toNat
      omega
    · refine ⟨_, rfl, ⟨s3.trans s4, (lo + hi) / 2, hi, some (.int ((lo + hi) / 2)), rfl, by omega⟩, ?_⟩
      show (hi - (lo + hi) / 2).toNat < (hi - lo).toNat
      omega
  · refine ⟨_, rfl, _, rfl, _, rfl, _, _, rfl, rfl, ⟨by decide, by decide, by decide⟩, (c, p, q, x, y, lo), rfl, ⟨hc3, he⟩, ?_⟩
    rintro _ H4 s4 rfl
    refine ⟨_, rfl, _, rfl, _, rfl, _, _, rfl, rfl, ⟨by decide, by decide, by decide⟩, (c, p, q, x, y, hi), rfl, ⟨hc3.same s4, he⟩, ?_⟩
    rintro _ H5 s5 rfl
    refine ⟨_, _, rfl, rfl, _, _, rfl, rfl, _, rfl, ?_⟩
    have n1 : ¬ (chg x y lo - chg x y hi > 1) := by
      have a := chg_le x y lo
      have b := chg_le x y hi
      omega
    refine ite2 (fun hd => absurd (of_decide_eq_true hd) n1) (fun _ => ?_)
    refine ⟨_, rfl, _, rfl, (by show 2 ≤ sizeLine; decide), fun r hr2 => ?_⟩
    refine k _ _ (s1.trans (s2.trans (s3.trans (s4.trans (Same.new s5 hr2))))) ⟨r, lo, rfl, upd_same⟩
abbrev nS : List Str := ["equation", "rank", "near", "bits", "wanted"]
theorem s43 : FnScope nS ["equation", "rank"] (defScope (top 43)) := (⟨rfl, rfl, rfl, by decide +kernel, rfl, by decide +kernel, by decide +kernel⟩)
abbrev spStr : Sp := Prm (α := Addr × Int × Int) (fun a => [.ref a.1, .int 0]) (fun a H => pre2 a H ∧ Eqn a.2.1 a.2.2) (fun a H v H' => ∃ r, v = .ref r ∧ TI H' r [flr a.2.1 a.2.2, 64])
theorem c_str (D : Df K mg "stretch_of" (top 43)) (B : Bl mg) (CL : Cal P w K mg base 5 "lonely_stretch" ["equation", "rank"] spLone) (CF : Cal P w K mg base 1 "refined" ["equation", "near", "bits", "wanted"] spRef) : Cal P w K mg base 6 "stretch_of" ["equation", "rank"] spStr := by
  refine mkC D s43 (fun _ _ _ _ _ _ us hl => match us, hl with | [_, _], _ => rfl) (fun _ => rfl) (fun f cdv A outer s H a Q E hr h k => ?_)
  obtain ⟨p, x, y⟩ := a
  obtain ⟨h, he⟩ := h
  have he : Eqn x y := he
  have h : TI H p [x, y] := h
  obtain ⟨tb, htb⟩ := B.bits_
  refine ⟨_, pss_cons (ps_asg (pe_cl CL hr (pa_cons (pv 0) (pa_cons (pv 1) pa_nil))) (pg_tup rfl (pgs_cons ((pg_name (i := 2) (FnScope.nd s43) rfl (Or.inl rfl))) (pgs_cons ((pg_name (i := 3) (FnScope.nd s43) rfl (Or.inl rfl))) pgs_nil))))
    (pss_cons ((ps_set (i := 4) (FnScope.nd s43) rfl (Or.inl rfl) (pe_callB (call_max2 rfl) (by rfl) B.max_ PyProof.Rows.boot_max (pa_cons (pv 3) (pa_cons (pe_glob (v := .int 64) (by rfl) htb ⟨_, rfl⟩) pa_nil)))))
    (pss_one (ps_ret (pe_tup (pa_cons (pe_cl CF hr (pa_cons (pv 0) (pa_cons (pv 2) (pa_cons (pv 3) (pa_cons (pv 4) pa_nil))))) (pa_cons (pv 4) pa_nil)))))), ?_⟩
  refine ⟨_, rfl, _, rfl, (p, x, y), rfl, ⟨h, he⟩, ?_⟩
  rintro _ H1 s1 ⟨r, lo, rfl, hr1⟩
  refine ⟨r, _, rfl, SqT.of hr1, rfl, _, _, rfl, _, _, rfl, rfl, ?_⟩
  refine ⟨_, rfl, _, _, rfl, ?_⟩
  refine ⟨_, rfl, _, rfl, _, rfl, _, rfl, (p, x, y, lo, 0), rfl, ⟨TI.same s1 h, he⟩, ?_⟩
  rintro _ H2 s2 rfl
  refine ⟨_, rfl, (by show 2 ≤ sizeLine; decide), fun r2 hr2 => ?_⟩
  exact k _ _ (s1.trans (Same.new s2 hr2)) ⟨r2, rfl, upd_same⟩
end
end Xq

namespace Xq
open PySem PySem.Spec PyProof.Rows L2
/-! ### texts of ints -/
/-- the text of an int -/
abbrev W (i : Int) : Str := Str.ofString (toString i)
theorem tlW_nat (n : Nat) : TL.tl (W (n : Int)) = TL.numL n := TL.tl_num n
theorem tlW_neg {i : Int} (h : i < 0) : TL.tl (W i) = 45 :: TL.numL i.natAbs := by
  obtain ⟨m, rfl⟩ : ∃ m : Nat, i = Int.negSucc m := by
    cases i with
    | ofNat k => exact absurd h (by have := Int.natCast_nonneg k; show ¬ ((k : Int) < 0); omega)
    | negSucc m => exact ⟨m, rfl⟩
  rw [TL.tl_ofString]
  have e : (toString (Int.negSucc m) : String) = "-" ++ Nat.repr (m + 1) := rfl
  rw [e, String.toList_append, List.map_append, Nat.toList_repr]
  rfl
theorem tlW (i : Int) : TL.tl (W i) = (if i < 0 then [45] else []) ++ TL.numL i.natAbs := by
  by_cases h : i < 0
  · rw [if_pos h, tlW_neg h]
    rfl
  · rw [if_neg h, List.nil_append]
    have e : i = ((i.natAbs : Nat) : Int) := by omega
    have q := tlW_nat i.natAbs
    rw [← e] at q
    exact q
theorem free32 (i : Int) : 32 ∉ TL.tl (W i) := int_text_free' 32 ⟨by decide, by decide⟩ i
theorem len4 {i : Int} (h : i.natAbs ≤ 1000) : (TL.numL i.natAbs).length ≤ 4 := TL.numL_len (by decide) (by omega)
/-- the digits of it -/
def Dg (i : Int) : Str := ⟨(TL.numL i.natAbs).toArray⟩
theorem rm_minus (i : Int) : Txt.removeprefix (W i) (Str.ofString "-") = Dg i := by
  have e1 : (Str.ofString "-").cps.toList = [45] := rfl
  have e2 : (Str.ofString "-").length = 1 := rfl
  unfold Txt.removeprefix
  rw [PySem.StrLaws.subAt_eq, e1, e2, List.drop_zero]
  by_cases h : i < 0
  · have q : (W i).cps.toList = 45 :: TL.numL i.natAbs := tlW_neg h
    rw [q]
    have e3 : (List.take 1 (45 :: TL.numL i.natAbs) == [45]) = true := by simp
    rw [e3, if_pos rfl]
    unfold Txt.affix
    have hl : (W i).length = (TL.numL i.natAbs).length + 1 := by
      rw [TL.len_tl, show TL.tl (W i) = _ from q]
      rfl
    rw [hl]
    have e4 : ((TL.numL i.natAbs).length + 1 - 1 == (TL.numL i.natAbs).length + 1) = false := by
      rw [beq_eq_false_iff_ne]
      omega
    show (if ((TL.numL i.natAbs).length + 1 - 1 == (TL.numL i.natAbs).length + 1) = true then _ else _) = _
    rw [e4, if_neg (by decide)]
    refine TL.ext_tl ?_
    rw [TL.tl_strSub, show TL.tl (W i) = _ from q]
    show List.take ((TL.numL i.natAbs).length + 1 - 1) (TL.numL i.natAbs) = TL.numL i.natAbs
    rw [Nat.add_sub_cancel, List.take_length]
  · have q : (W i).cps.toList = TL.numL i.natAbs := by
      have z := tlW i
      rw [if_neg h] at z
      exact z
    rw [q]
    have e3 : (List.take 1 (TL.numL i.natAbs) == [45]) = false := by
      have hn := TL.numL_ne i.natAbs
      have hf := TL.numL_free (n := i.natAbs) (s := 45) (.inl (by decide))
      cases e : TL.numL i.natAbs with
      | nil => exact absurd e hn
      | cons a r =>
        rw [e] at hf
        rw [beq_eq_false_iff_ne]
        intro z
        have z2 : a = 45 := by simpa using z
        exact hf (by rw [z2]; exact List.mem_cons_self)
    rw [e3, if_neg (by decide)]
    show W i = _
    exact TL.ext_tl q
theorem dg_ascii (i : Int) : Txt.isascii (Dg i) = true := by
  unfold Txt.isascii Dg
  rw [List.all_toArray, List.all_eq_true]
  intro c hc
  have h := TL.numL_digits _ c hc
  exact decide_eq_true (by omega)
theorem ten_digits : ∀ k, k < 10 → Unicode.isDigit (48 + k) = true := by decide +kernel
theorem dg_digit (i : Int) : Txt.isdigit (Dg i) = true := by
  unfold Txt.isdigit
  have hl : (Dg i).length > 0 := by
    rw [TL.len_tl]
    exact List.length_pos_iff.mpr (TL.numL_ne _)
  rw [decide_eq_true hl, Bool.true_and]
  unfold Dg
  rw [List.all_toArray, List.all_eq_true]
  intro c hc
  have h := TL.numL_digits _ c hc
  obtain ⟨k, rfl⟩ : ∃ k, c = 48 + k := ⟨c - 48, by omega⟩
  exact ten_digits k (by omega)
theorem dg_len {i : Int} (h : i.natAbs ≤ 1000) : (Dg i).length ≤ 4 := by
  rw [TL.len_tl]
  exact len4 h
theorem w_len {i : Int} (h : i.natAbs ≤ 1000) : (W i).length ≤ 5 := by
  rw [TL.len_tl, tlW]
  have q := len4 h
  rw [List.length_append]
  split
  · show 1 + _ ≤ 5
    omega
  · show 0 + _ ≤ 5
    omega
theorem w_int {i : Int} (h : i.natAbs ≤ 1000) : PySem.intText? (W i) = some i := by
  have hl := w_len h
  by_cases hi : i < 0
  · have e := PySem.intText_neg (x := W i) (cs := TL.numL i.natAbs) (tlW_neg hi) (TL.numL_digits _) (TL.numL_ne _) (by omega)
    rw [TL.numL_val] at e
    refine e.trans ?_
    congr 1
    omega
  · have e : i = ((i.natAbs : Nat) : Int) := by omega
    have q := TL.int_num (n := i.natAbs) (by have := len4 h; omega)
    rw [← e] at q
    exact q
theorem len1000 : (W 1000).length = 4 := by decide +kernel
/-- the text of a fraction's shape -/
def ST (x y : Int) : Str := Str.ofString "root 0 of " ++ W x ++ Str.ofString " " ++ W y
theorem st_join (x y : Int) : ST x y = Txt.join (Str.ofString " ") [Str.ofString "root", Str.ofString "0", Str.ofString "of", W x, W y] := by
  refine TL.ext_tl ?_
  unfold ST
  rw [TL.join_eq, TL.tl_join, TL.tl_append, TL.tl_append, TL.tl_append]
  show TL.tl (Str.ofString "root 0 of ") ++ TL.tl (W x) ++ TL.tl (Str.ofString " ") ++ TL.tl (W y) =
    TL.tl (Str.ofString "root") ++ (TL.tl (Str.ofString " ") ++ (TL.tl (Str.ofString "0") ++ (TL.tl (Str.ofString " ") ++ (TL.tl (Str.ofString "of") ++ (TL.tl (Str.ofString " ") ++ (TL.tl (W x) ++ (TL.tl (Str.ofString " ") ++ TL.tl (W y))))))))
  have e : TL.tl (Str.ofString "root 0 of ") = TL.tl (Str.ofString "root") ++ (TL.tl (Str.ofString " ") ++ (TL.tl (Str.ofString "0") ++ (TL.tl (Str.ofString " ") ++ (TL.tl (Str.ofString "of") ++ TL.tl (Str.ofString " "))))) := by decide +kernel
  rw [e]
  simp only [List.append_assoc]
theorem st_split (x y : Int) : Txt.split (ST x y) (Str.ofString " ") = [Str.ofString "root", Str.ofString "0", Str.ofString "of", W x, W y] := by
  rw [st_join]
  refine TL.split_join (s := 32) (S := []) (by decide +kernel) (by decide +kernel) (by simp) ?_
  intro p hp
  simp only [List.mem_cons, List.mem_nil_iff, or_false] at hp
  rcases hp with rfl | rfl | rfl | rfl | rfl
  · decide +kernel
  · decide +kernel
  · decide +kernel
  · exact free32 x
  · exact free32 y
theorem st_len {x y : Int} (hx : x.natAbs ≤ 1000) (hy : y.natAbs ≤ 1000) : (ST x y).length ≤ 21 := by
  have a := w_len hx
  have b := w_len hy
  rw [TL.len_tl] at a b ⊢
  unfold ST
  rw [TL.tl_append, TL.tl_append, TL.tl_append, List.length_append, List.length_append, List.length_append]
  have e : (TL.tl (Str.ofString "root 0 of ")).length = 10 := by decide +kernel
  have e2 : (TL.tl (Str.ofString " ")).length = 1 := by decide +kernel
  omega
end Xq

namespace Xq
open PySem PySem.Spec PyProof.Rows L2
section
variable {P : Program} {w : World} {K : PySem.W.Frag} {mg : Str → Option Value} {base : Heap}
theorem s63 : FnScope ["word", "digits"] ["word"] (defScope (top 63)) := (⟨rfl, rfl, rfl, by decide +kernel, rfl, by decide +kernel, by decide +kernel⟩)
abbrev spIntOf : Sp := Prm (α := Int) (fun i => [.str (W i)]) (fun i _ => i.natAbs ≤ 1000) (fun i H v H' => v = .int i ∧ H' = H)
theorem c_intof (D : Df K mg "integer_of" (top 63)) (B : Bl mg) : Cal P w K mg base 1 "integer_of" ["word"] spIntOf := by
  refine mkC D s63 (fun _ _ _ _ _ _ us hl => match us, hl with | [_], _ => rfl) (fun _ => rfl) (fun f cdv A outer s H i Q E hr h k => ?_)
  have h : i.natAbs ≤ 1000 := h
  obtain ⟨tt, htt⟩ := B.term_
  refine ⟨_, pss_cons ((ps_set (i := 1) (FnScope.nd s63) rfl (Or.inl rfl) (pe_m1 PySem.F.slot_str_removeprefix PySem.F.type_str_removeprefix mt_removeprefix (pv 0) pe_str)))
    (pss_cons (ps_if (PW.pt (pw_or (pt_not (pt_val (pe_m0 PySem.F.slot_str_isascii PySem.F.type_str_isascii mt_isascii (pv 1))))
      (pw_or (pt_not (pt_val (pe_m0 PySem.F.slot_str_isdigit PySem.F.type_str_isdigit mt_isdigit (pv 1))))
      (pw_or1 ((pt_cmpR op_gt ((pe_callB call_len_str (by rfl) (Bl.len_ B) PySem.boot_len (pa_cons (pv 1) pa_nil))) ((pe_callB call_len_str (by rfl) (Bl.len_ B) PySem.boot_len (pa_cons (pe_callTy call_str_int (by rfl) B.str_ PyProof.Rows.boot_str (pa_cons (pe_glob (v := .int 1000) (by rfl) htt ⟨_, rfl⟩) pa_nil)) pa_nil))) (nomark _))))))) pss_nv pss_nil)
    (pss_one (ps_ret (pe_ifExp ((pt_cmpR op_eq (pe_callTy call_str_int (by rfl) B.str_ PyProof.Rows.boot_str (pa_cons (pe_callTy call_int_str (by rfl) B.int_ PyProof.Rows.boot_int (pa_cons (pv 0) pa_nil)) pa_nil)) (pv 0) (nomark _)))
      (pe_callTy call_int_str (by rfl) B.int_ PyProof.Rows.boot_int (pa_cons (pv 0) pa_nil)) pe_nv)))), ?_⟩
  have w5 := w_len h
  have sl : (640 : Nat) ≤ sizeLine := by decide
  refine ⟨_, rfl, ⟨_, rfl⟩, _, _, rfl, rfl, by omega, ?_⟩
  rw [rm_minus]
  refine ⟨_, rfl, ⟨_, rfl⟩, _, rfl, rfl, trivial, _, rfl, ?_⟩
  rw [dg_ascii]
  refine iteF ⟨_, rfl, ⟨_, rfl⟩, _, rfl, rfl, trivial, _, rfl, ?_⟩
  rw [dg_digit]
  have d4 := dg_len h
  refine iteF ⟨_, rfl, _, rfl, by omega, _, rfl, (by decide +kernel), _, rfl, ?_, _, _, rfl, rfl, _, rfl, ?_⟩
  · rw [show Str.length (Str.ofString (toString (1000 : Int))) = 4 from len1000]
    omega
  have ng : ¬ (((Dg i).length : Int) > (((W 1000).length : Nat) : Int)) := by
    rw [len1000]
    omega
  refine ite2 (fun hb => absurd (of_decide_eq_true hb) ng) (fun _ => ?_)
  have l2 : i.natAbs.log2 < 1920 := Nat.lt_of_lt_of_le (PySem.Flt.log2_lt_of (show 0 < 10 by decide) (show i.natAbs < 2 ^ 10 by omega)) (by decide)
  refine ⟨_, rfl, _, i, rfl, w_int h, by omega, i, rfl, l2, _, rfl, rfl, _, rfl, ?_⟩
  rw [decide_eq_true rfl]
  exact iteT ⟨_, rfl, _, i, rfl, w_int h, by omega, k _ _ (Same.refl _) ⟨rfl, rfl⟩⟩
theorem s50 : FnScope ["terms", "found"] ["terms"] (defScope (top 50)) := (⟨rfl, rfl, rfl, by decide +kernel, rfl, by decide +kernel, by decide +kernel⟩)
abbrev spLF : Sp := Prm (α := Addr × Int × Int) (fun a => [.ref a.1]) pre2 (fun a H v H' => v = .ref a.1 ∧ H' = H)
theorem c_lf (D : Df K mg "least_factor" (top 50)) (B : Bl mg) : Cal P w K mg base 1 "least_factor" ["terms"] spLF := by
  refine mkC D s50 (fun _ _ _ _ _ _ us hl => match us, hl with | [_], _ => rfl) (fun _ => rfl) (fun f cdv A outer s H a Q E hr h k => ?_)
  obtain ⟨p, x, y⟩ := a
  have h0 : H p = some (.tup [.int x, .int y]) := h
  refine ⟨_, pss_cons (ps_if ((pt_cmpR op_eq ((pe_callB call_len_seq (by rfl) (Bl.len_ B) PySem.boot_len (pa_cons (pv 0) pa_nil))) pe_int (nomark _))) (pss_one (ps_ret (pv 0))) pss_nil) pss_nv, ?_⟩
  exact ⟨_, rfl, p, _, rfl, .inr (SqT.of h0), rfl, _, rfl, iteT ⟨_, rfl, k _ _ (Same.refl _) ⟨rfl, rfl⟩⟩⟩
theorem s48 : FnScope ["equation"] ["equation"] (defScope (top 48)) := (⟨rfl, rfl, rfl, by decide +kernel, rfl, by decide +kernel, by decide +kernel⟩)
abbrev spLeast : Sp := Prm (α := Addr × Int × Int) (fun a => [.ref a.1]) (fun a H => pre2 a H ∧ Eqn a.2.1 a.2.2 ∧ gcdL [a.2.1, a.2.2] = 1) (fun a H v H' => v = .bl true ∧ H' = H)
theorem c_least (D : Df K mg "is_least" (top 48)) (CG : Cal P w K mg base 1 "common_divisor" ["terms"] spGcd) (CL : Cal P w K mg base 1 "least_factor" ["terms"] spLF) : Cal P w K mg base 2 "is_least" ["equation"] spLeast := by
  refine mkC D s48 (fun _ _ _ _ _ _ us hl => match us, hl with | [_], _ => rfl) (fun _ => rfl) (fun f cdv A outer s H a Q E hr h k => ?_)
  obtain ⟨p, x, y⟩ := a
  obtain ⟨h, he, hg⟩ := h
  have he : Eqn x y := he
  have hg : gcdL [x, y] = 1 := hg
  have h : TI H p [x, y] := h
  have h0 : H p = some (.tup [.int x, .int y]) := h
  have hu : (A.deeper (envOfC "is_least" (defScope (top 48)) s.heap.objs.size f cdv)).units + 64 < cLine := by have := hr.un; omega
  refine ⟨_, pss_cons (ps_if (PW.pt (pw_or ((pt_cmpR op_lt ((pe_ix ix_tup (pv 0) (pe_un un_neg pe_int) (fun _ _ => rfl))) pe_int (nomark _))) (pw_or1 ((pt_cmpR op_ne (pe_cl CG hr (pa_cons (pv 0) pa_nil)) pe_int (nomark _)))))) pss_nv pss_nil)
    (pss_one (ps_ret (pe_cmpR (op_eqD hu) (pe_cl CL hr (pa_cons (pv 0) pa_nil)) (pv 0) (nomark _)))), ?_⟩
  refine ⟨_, rfl, _, rfl, p, _, _, .int y, rfl, rfl, SqT.of h0, atl2 _ _, _, _, rfl, rfl, _, rfl, ?_⟩
  rw [decide_eq_false (show ¬ (y < 0) from by have := he.2.2.1; omega)]
  refine iteF ⟨_, rfl, (p, [x, y]), rfl, .inr h, ?_⟩
  rintro _ _ - ⟨rfl, rfl⟩
  refine ⟨rfl, _, rfl, ?_⟩
  show (if (!decide (V.int ((gcdL [x, y] : Nat) : Int) = V.int 1)) = true then _ else _)
  rw [hg]
  refine iteF ⟨_, rfl, (p, x, y), rfl, h, ?_⟩
  rintro _ _ - ⟨rfl, rfl⟩
  refine ⟨_, rfl, .tuple [.int x, .int y], .tuple [.int x, .int y], .tup (SqT.of h0) (.cons (.int x) (.cons (.int y) .nil)), .tup (SqT.of h0) (.cons (.int x) (.cons (.int y) .nil)), rfl, rfl, k _ _ (Same.refl _) ⟨?_, rfl⟩⟩
  rw [SeqAt.eqv_refl]
  rfl
abbrev nT : List Str := ["text", "words", "rank", "equation", "chain", "word"]
theorem s62 : FnScope nT ["text"] (defScope (top 62)) := (⟨rfl, rfl, rfl, by decide +kernel, rfl, by decide +kernel, by decide +kernel⟩)
abbrev spTold : Sp := Prm (α := Int × Int) (fun a => [.str (ST a.1 a.2)]) (fun a H => Eqn a.1 a.2 ∧ gcdL [a.1, a.2] = 1) (fun a H v H' => ∃ r q, v = .ref r ∧ H' r = some (.tup [.int 0, .ref q]) ∧ TI H' q [a.1, a.2])
theorem c_told (D : Df K mg "told_by" (top 62)) (B : Bl mg) (CI : Cal P w K mg base 1 "integer_of" ["word"] spIntOf) (CW : Cal P w K mg base 3 "wrong_term" ["equation"] spWrong)
    (CL : Cal P w K mg base 2 "is_least" ["equation"] spLeast) (CS : Cal P w K mg base 4 "sturm_chain" ["terms"] spSturm) (CU : Cal P w K mg base 3 "roots_up_to" ["chain", "top", "bottom"] spUpTo) (CA : Cal P w K mg base 4 "roots_in_all" ["chain"] spAll) :
    Cal P w K mg base 5 "told_by" ["text"] spTold := by
  refine mkC D s62 (fun _ _ _ _ _ _ us hl => match us, hl with | [_], _ => rfl) (fun _ => rfl) (fun f cdv A outer s H a Q E hr h k => ?_)
  obtain ⟨x, y⟩ := a
  obtain ⟨he, hg⟩ := h
  have he : Eqn x y := he
  have hg : gcdL [x, y] = 1 := hg
  obtain ⟨e1, e2, e3, e4⟩ := (show Eqn x y from he)
  have bx : x.natAbs ≤ 1000 := by omega
  have bY : y.natAbs ≤ 1000 := by omega
  have zero : (.str (Str.ofString "0") : V) = .str (W 0) := by decide +kernel
  refine ⟨_, pss_cons ((ps_set (i := 1) (FnScope.nd s62) rfl (Or.inl rfl) (pe_ifExp (pt_val (pe_isi (v := .ty "str") (by rfl) B.isinstance_ (pv 0) (by rfl) B.str_ PyProof.Rows.boot_str rfl)) (pe_split (pv 0) pe_str) pe_nv)))
    (pss_cons (ps_if (PW.pt (pw_or ((pt_cmpR op_lt ((pe_callB call_len_seq (by rfl) (Bl.len_ B) PySem.boot_len (pa_cons (pv 1) pa_nil))) pe_int (nomark _))) (pw_or ((pt_cmpR op_ne ((pe_ix ix_list (pv 1) pe_int (fun _ _ => rfl))) pe_str (nomark _))) (pw_or1 ((pt_cmpR op_ne ((pe_ix ix_list (pv 1) pe_int (fun _ _ => rfl))) pe_str (nomark _))))))) pss_nv pss_nil)
    (pss_cons (ps_par (i := 2) (j := 3) rfl s62.nd rfl rfl (by decide) rfl rfl (pa_cons (pe_cl CI hr (pa_cons ((pe_ix ix_list (pv 1) pe_int (fun _ _ => rfl))) pa_nil)) (pa_cons (pe_callTy call_tuple_of (by rfl) B.tuple_ PyProof.Rows.boot_tuple (pa_cons
        (pe_lc (own := [("word", 5)]) (g := gName 5) (tt := tYes) (te := tCall spIntOf [] E0 (tCons (tVar 5) tNil)) rfl s62.nd (pi_list (pe_slice sl_list (pv 1) (po_some pe_int) po_none))
          (blkOk_by (N := nT) (sc := defScope (top 62)) (by decide +kernel)) (fun _ _ _ _ _ => (pg_name (i := 5) (FnScope.nd s62) rfl (Or.inl rfl))) (fun _ _ _ _ _ => pts_nil)
          (fun _ _ _ _ _ => pe_cl CI hr (pa_cons (pv 5) pa_nil))) pa_nil)) pa_nil)) rfl)
    (pss_cons (ps_if (PW.pt (pw_or (pt_cmpR op_isN (pv 2) pe_non (nomark _)) (pw_or ((pt_cmpR op_lt ((pe_callB call_len_seq (by rfl) (Bl.len_ B) PySem.boot_len (pa_cons (pv 3) pa_nil))) pe_int (nomark _))) (pw_or (pt_cmpR op_notN (pe_cl CW hr (pa_cons (pv 3) pa_nil)) pe_non (nomark _)) (pw_or1 (pt_not (pt_val (pe_cl CL hr (pa_cons (pv 3) pa_nil))))))))) pss_nv pss_nil)
    (pss_cons ((ps_set (i := 4) (FnScope.nd s62) rfl (Or.inl rfl) (pe_cl CS hr (pa_cons (pv 3) pa_nil))))
    (pss_cons (ps_if (pt_not (pt_chain op_le op_lt (pe_cl CU hr (pa_cons (pv 4) (pa_cons pe_int (pa_cons pe_int pa_nil)))) (pv 2) (pe_cl CA hr (pa_cons (pv 4) pa_nil)))) pss_nv pss_nil)
    (pss_one (ps_ret (pe_tup (pa_cons (pv 2) (pa_cons (pv 3) pa_nil)))))))))), ?_⟩
  have sl : (640 : Nat) ≤ sizeLine := by decide
  have l21 := st_len bx bY
  refine ⟨_, rfl, _, _, _, _, true, rfl, .ty _, .base (.str _), kit_ty (by decide +kernel), _, rfl, iteT ?_⟩
  refine ⟨_, rfl, ⟨_, rfl⟩, _, _, rfl, rfl, rfl, (by show (ST x y).length + 2 ≤ sizeLine; omega), fun ws hws => ?_⟩
  rw [st_split]
  have s1 := same_new (o := .lst [.str (Str.ofString "root"), .str (Str.ofString "0"), .str (Str.ofString "of"), .str (W x), .str (W y)]) hws
  have w1 : ∀ HH : Hp, (upd HH ws (.lst [.str (Str.ofString "root"), .str (Str.ofString "0"), .str (Str.ofString "of"), .str (W x), .str (W y)])) ws = some (.lst [.str (Str.ofString "root"), .str (Str.ofString "0"), .str (Str.ofString "of"), .str (W x), .str (W y)]) := fun _ => upd_same
  refine ⟨_, rfl, ws, _, rfl, .inl (SqL.of (w1 _)), _, _, rfl, rfl, _, rfl, iteF ?_⟩
  refine ⟨_, rfl, ws, _, _, .str (Str.ofString "root"), rfl, rfl, SqL.of (w1 _), atI_nat (j := 0) rfl, rfl, _, rfl, ?_⟩
  rw [decide_eq_true (show (.str (Str.ofString "root") : V) = .str "root" from rfl)]
  refine iteF ⟨_, rfl, ws, _, _, .str (Str.ofString "of"), rfl, rfl, SqL.of (w1 _), atI_nat (j := 2) rfl, rfl, _, rfl, ?_⟩
  rw [decide_eq_true (show (.str (Str.ofString "of") : V) = .str "of" from rfl)]
  refine iteF ⟨_, rfl, ws, _, _, .str (Str.ofString "0"), rfl, rfl, SqL.of (w1 _), atI_nat (j := 1) rfl, ?_⟩
  refine ⟨0, ?_, (by show (0 : Int).natAbs ≤ 1000; decide), ?_⟩
  · show [V.str (Str.ofString "0")] = _
    rw [zero]
  rintro _ _ - ⟨rfl, rfl⟩
  refine ⟨_, rfl, _, rfl, ws, _, rfl, SqL.of (w1 _), fun t ht => ?_⟩
  have s2 := Same.new (o := .lst [.str (W x), .str (W y)]) s1 ht
  refine ⟨t, rfl, ⟨_, SqL.of upd_same⟩, fun D2 hD => lc_yes (G := fun H => SqL K H t [.str (W x), .str (W y)]) (xs := [.str (W x), .str (W y)]) walk_list ?_⟩
  have z1 := same_new (o := .lst []) hD
  refine ⟨SqL.of (z1 t (.lst [.str (W x), .str (W y)]) upd_same), rfl, _, rfl, x, rfl, bx, ?_⟩
  rintro _ _ - ⟨rfl, rfl⟩
  refine ⟨_, upd_same, by decide, ?_⟩
  rw [upd_upd]
  have z2 := same_new (o := .lst [.int x]) hD
  refine ⟨SqL.of (z2 t (.lst [.str (W x), .str (W y)]) upd_same), rfl, _, rfl, y, rfl, bY, ?_⟩
  rintro _ _ - ⟨rfl, rfl⟩
  refine ⟨_, upd_same, (by show 1 < sizeLine; decide), ?_⟩
  rw [upd_upd]
  have z3 := same_new (o := .lst [.int x, .int y]) hD
  refine ⟨SqL.of (z3 t (.lst [.str (W x), .str (W y)]) upd_same), D2, _, rfl, .inl ⟨SqL.of upd_same, fun q hq => ?_⟩⟩
  have s3 := Same.new (o := .lst [.int x, .int y]) s2 hD
  have s4 := Same.new (o := .tup [.int x, .int y]) s3 hq
  have q4 : ∀ HH : Hp, (upd HH q (.tup [.int x, .int y])) q = some (.tup [.int x, .int y]) := fun _ => upd_same
  refine ⟨_, _, rfl, ?_⟩
  refine ⟨_, rfl, rfl, _, rfl, iteF ?_⟩
  refine ⟨_, rfl, q, _, rfl, .inr (SqT.of (q4 _)), _, _, rfl, rfl, _, rfl, iteF ?_⟩
  refine ⟨_, rfl, (q, x, y), rfl, ⟨q4 _, ⟨e1, (by show x ≤ 1000; omega)⟩, ⟨(by show -1000 ≤ y; omega), e4⟩, by show y ≠ 0; omega⟩, ?_⟩
  rintro _ H5 s5 rfl
  refine ⟨rfl, _, rfl, iteF ?_⟩
  have q5 : TI H5 q [x, y] := s5 _ _ (q4 _)
  refine ⟨_, rfl, (q, x, y), rfl, ⟨q5, he, hg⟩, ?_⟩
  rintro _ _ - ⟨rfl, rfl⟩
  refine ⟨_, rfl, iteF ?_⟩
  refine ⟨_, rfl, (q, x, y), rfl, ⟨q5, he⟩, ?_⟩
  rintro _ H6 s6 ⟨c, q', rfl, hc⟩
  have hc : Ch H6 c q q' x y := hc
  refine ⟨_, rfl, (c, q, q', x, y, 0), rfl, ⟨hc, he⟩, ?_⟩
  rintro _ H7 s7 rfl
  have c0 : chg x y 0 = 1 := by
    unfold chg
    rw [if_pos (by rw [Int.mul_zero]; omega)]
  refine ⟨_, rfl, _, _, rfl, rfl, _, rfl, ?_⟩
  show (if decide (1 - chg x y 0 ≤ 0) = true then _ else _)
  rw [c0]
  refine iteT ⟨_, rfl, (c, q, q', x, y), rfl, ⟨hc.same s7, he⟩, ?_⟩
  rintro _ H8 s8 rfl
  refine ⟨_, _, rfl, rfl, _, rfl, iteF ?_⟩
  refine ⟨_, rfl, _, rfl, (by show 2 ≤ sizeLine; decide), fun r hr9 => ?_⟩
  refine k _ _ (s4.trans (s5.trans (s6.trans (s7.trans (Same.new s8 hr9))))) ⟨r, q, rfl, upd_same, ?_⟩
  exact (s6.trans (s7.trans (Same.new s8 hr9))) _ _ q5
end
end Xq

/-! The class Shape, for fractions. -/
namespace Xq
open PySem PySem.Spec PyProof.Rows L2
/-- o.f as a target -/
def gFld (K : PySem.W.Frag) (to : TE) (f : Str) : TG := fun v σ H Q => to σ H fun x H2 => ∃ a C dx fs, x = .ref a ∧ H2 a = some (.ins C dx fs) ∧ Cls K C ∧ NoAttr K C f ∧ fs.length < 1000 ∧ Q σ (upd H2 a (.ins C dx (putF f v fs)))
theorem pg_fld {X : Cx} {o : Expr} {f : Str} {pos : Pos} {to : TE} (ho : PE X o to) : PG X (.Attribute o f pos) (gFld X.K to f) := by
  refine ⟨fun pins s σ H v u Q I r h => ?_⟩
  refine PySem.W.kas_attr (thn (ho.run pins s σ H _ I h) fun ov s2 ⟨x, H2, I2, rx, a, C, dx, fs, ex, ea, c, n, l, q2⟩ => ?_)
  subst ex
  obtain rfl : ov = Value.ref a := rx
  exact setattr_ok I2 ea c n l r fun s3 I3 => ⟨σ, _, I3, q2⟩
/-- the class as it stands behind the top -/
structure ShC (K : PySem.W.Frag) (mg : Str → Option Value) (C : Addr) : Prop where
  cl : Cls K C
  n1 : NoAttr K C "_text"
  n2 : NoAttr K C "_rank"
  n3 : NoAttr K C "_equation"
  n4 : NoAttr K C "_near"
  n5 : NoAttr K C "_bits"
  mgC : mg "Shape" = some (.ref C)
  mkS : ∃ f fd, Mk K C f ∧ Fun K "__init__" "Shape.__init__" (inClass (top 57) 0) f fd
  eqn : ∃ p f fd, PropOf K C "equation" p f ∧ Fun K "equation" "Shape.equation" (inClass (top 57) 3) f fd
  deg : ∃ p f fd, PropOf K C "degree" p f ∧ Fun K "degree" "Shape.degree" (inClass (top 57) 4) f fd
  flo : ∃ f fd, Meth K C "floor_at" f ∧ Fun K "floor_at" "Shape.floor_at" (inClass (top 57) 6) f fd
  c1 : PySem.W.findIn K (.ref C) "__class__" = some (some (.builtin "object.__class__"))
  c2 : PySem.W.specialIn K (.builtin "object.__class__") "__get__" = some (some (.builtin "getset_descriptor.__get__"))
  c3 : PySem.W.takesIn K (.builtin "object.__class__") = some true
  c4 : PySem.W.mroIn K C (.type "object") = some true
  kit : PySem.W.kitOne K (.ref C) (.ref C) = some true
def fsS (t : Str) (q : Addr) (x y : Int) : List (Str × V) := [("_text", .str t), ("_rank", .int 0), ("_equation", .ref q), ("_near", .int (flr x y)), ("_bits", .int 64)]
/-- a fraction's shape at a -/
def Shp (C : Addr) (H : Hp) (a : Addr) (x y : Int) : Prop := ∃ dx q t, H a = some (.ins C dx (fsS t q x y)) ∧ TI H q [x, y] ∧ Eqn x y
theorem Shp.same {C : Addr} {H H' : Hp} {a : Addr} {x y : Int} (s : Same H H') (h : Shp C H a x y) : Shp C H' a x y := by
  obtain ⟨dx, q, t, h1, h2, h3⟩ := h
  exact ⟨dx, q, t, s _ _ h1, s _ _ h2, h3⟩
section
variable {P : Program} {w : World} {K : PySem.W.Frag} {mg : Str → Option Value} {base : Heap} {C : Addr}
theorem sI : FnScope ["self", "text", "told"] ["self", "text"] (defScope (inClass (top 57) 0)) := (⟨rfl, rfl, rfl, by decide +kernel, rfl, by decide +kernel, by decide +kernel⟩)
def spInit (C : Addr) : Sp := fun vs H Q _ => ∃ (H0 : Hp) (a dx : Addr) (x y : Int), vs = [.ref a, .str (ST x y)] ∧ Same H0 H ∧ H0 a = none ∧ H a = some (.ins C dx []) ∧ Eqn x y ∧ gcdL [x, y] = 1 ∧ ∀ H', Same H0 H' → Shp C H' a x y → Q .non H'
theorem ok_init {f : Addr} {fd : FuncData} (F : Fun K "__init__" "Shape.__init__" (inClass (top 57) 0) f fd) (S : ShC K mg C) (CT : Cal P w K mg base 5 "told_by" ["text"] spTold) (CS : Cal P w K mg base 6 "stretch_of" ["equation", "rank"] spStr) :
    FnOk P w K mg base CX0 7 f fd ["self", "text"] (spInit C) := by
  refine F.ok sI (fun vs H Q E h => ?_) (fun cdv A outer s H vs Q E hr h => ?_)
  · obtain ⟨H0, a, dx, x, y, rfl, _⟩ := h
    rfl
  · obtain ⟨H0, a, dx, x, y, rfl, s0, a0, ha, he, hg, k⟩ := h
    refine ⟨_, pss_cons ((ps_set (i := 2) (FnScope.nd sI) rfl (Or.inl rfl) (pe_cl CT hr (pa_cons (pv 1) pa_nil))))
      (pss_cons (ps_if (pt_cmpR op_isN (pv 2) pe_non (nomark _)) pss_nv pss_nil)
      (pss_cons (ps_fld (pv 0) (pv 1) rfl)
      (pss_cons (ps_asg (pv 2) (pg_tup rfl (pgs_cons (pg_fld (pv 0)) (pgs_cons (pg_fld (pv 0)) pgs_nil))))
      (pss_one (ps_asg (pe_cl CS hr (pa_cons (pe_fld (pv 0) rfl) (pa_cons (pe_fld (pv 0) rfl) pa_nil))) (pg_tup rfl (pgs_cons (pg_fld (pv 0)) (pgs_cons (pg_fld (pv 0)) pgs_nil)))))))), ?_⟩
    refine ⟨_, rfl, (x, y), rfl, ⟨he, hg⟩, ?_⟩
    rintro _ H1 s1 ⟨r, q, rfl, hr1, hq1⟩
    have hq1 : TI H1 q [x, y] := hq1
    have a1 := s1 _ _ ha
    have nr : r ≠ a := fun e => by rw [e, a1] at hr1; cases hr1
    have nq : q ≠ a := fun e => by
      have z : H1 q = some (.tup [.int x, .int y]) := hq1
      rw [e, a1] at z
      cases z
    refine ⟨_, rfl, rfl, _, rfl, iteF ?_⟩
    refine ⟨_, rfl, _, rfl, a, C, dx, _, rfl, a1, S.cl, S.n1, by decide, ?_⟩
    have t2 := Same.put (o := .ins C dx [("_text", .str (ST x y))]) (s0.trans s1) a0
    refine ⟨_, rfl, r, _, rfl, SqT.of ((upd_ne nr).trans hr1), rfl, ?_⟩
    refine ⟨_, _, rfl, _, rfl, a, C, dx, _, rfl, upd_same, S.cl, S.n2, (by show 1 < 1000; decide), ?_⟩
    refine ⟨_, _, rfl, _, rfl, a, C, dx, _, rfl, upd_same, S.cl, S.n3, (by show 2 < 1000; decide), rfl, ?_⟩
    have t4 := Same.put (o := .ins C dx [("_text", .str (ST x y)), ("_rank", .int 0), ("_equation", .ref q)]) (Same.put (o := .ins C dx [("_text", .str (ST x y)), ("_rank", .int 0)]) t2 a0) a0
    have a4 : ∀ HH : Hp, (upd HH a (.ins C dx [("_text", .str (ST x y)), ("_rank", .int 0), ("_equation", .ref q)])) a = some (.ins C dx [("_text", .str (ST x y)), ("_rank", .int 0), ("_equation", .ref q)]) := fun _ => upd_same
    refine ⟨_, rfl, a, C, dx, _, _, rfl, a4 _, S.cl, S.n3, rfl, ?_⟩
    refine ⟨_, rfl, a, C, dx, _, _, rfl, a4 _, S.cl, S.n2, rfl, ?_⟩
    refine ⟨(q, x, y), rfl, ⟨?_, he⟩, ?_⟩
    · show upd _ a _ q = _
      rw [upd_ne nq, upd_ne nq, upd_ne nq]
      exact hq1
    rintro _ H5 s5 ⟨r2, rfl, hr2⟩
    have hr2 : H5 r2 = some (.tup [.int (flr x y), .int 64]) := hr2
    have a5 := s5 _ _ (a4 _)
    have nr2 : r2 ≠ a := fun e => by rw [e, a5] at hr2; cases hr2
    refine ⟨r2, _, rfl, SqT.of hr2, rfl, ?_⟩
    refine ⟨_, _, rfl, _, rfl, a, C, dx, _, rfl, a5, S.cl, S.n4, (by show 3 < 1000; decide), ?_⟩
    refine ⟨_, _, rfl, _, rfl, a, C, dx, _, rfl, upd_same, S.cl, S.n5, (by show 4 < 1000; decide), rfl, ?_⟩
    refine k _ (Same.put (Same.put (t4.trans s5) a0) a0) ⟨dx, q, ST x y, upd_same, ?_, he⟩
    show upd _ a _ q = _
    rw [upd_ne nq, upd_ne nq]
    refine s5 _ _ ?_
    rw [upd_ne nq, upd_ne nq, upd_ne nq]
    exact hq1
/-- the getters -/
def spGetE (C : Addr) : Sp := fun vs H Q _ => ∃ (a : Addr) (x y : Int), vs = [.ref a] ∧ Shp C H a x y ∧ ∀ q, TI H q [x, y] → Q (.ref q) H
def spGetD (C : Addr) : Sp := fun vs H Q _ => ∃ (a : Addr) (x y : Int), vs = [.ref a] ∧ Shp C H a x y ∧ Q (.int 1) H
theorem sE : FnScope ["self"] ["self"] (defScope (inClass (top 57) 3)) := (⟨rfl, rfl, rfl, by decide +kernel, rfl, by decide +kernel, by decide +kernel⟩)
theorem sD : FnScope ["self"] ["self"] (defScope (inClass (top 57) 4)) := (⟨rfl, rfl, rfl, by decide +kernel, rfl, by decide +kernel, by decide +kernel⟩)
theorem ok_eqn {f : Addr} {fd : FuncData} (F : Fun K "equation" "Shape.equation" (inClass (top 57) 3) f fd) (S : ShC K mg C) : FnOk P w K mg base CX0 1 f fd ["self"] (spGetE C) := by
  refine F.ok sE (fun vs H Q E h => ?_) (fun cdv A outer s H vs Q E hr h => ?_)
  · obtain ⟨a, x, y, rfl, _⟩ := h
    rfl
  · obtain ⟨a, x, y, rfl, ⟨dx, q, t, h1, h2, h3⟩, k⟩ := h
    exact ⟨_, pss_one (ps_ret (pe_fld (pv 0) rfl)), _, rfl, a, C, dx, _, _, rfl, h1, S.cl, S.n3, rfl, k q h2⟩
theorem ok_deg {f : Addr} {fd : FuncData} (F : Fun K "degree" "Shape.degree" (inClass (top 57) 4) f fd) (S : ShC K mg C) (B : Bl mg) : FnOk P w K mg base CX0 1 f fd ["self"] (spGetD C) := by
  refine F.ok sD (fun vs H Q E h => ?_) (fun cdv A outer s H vs Q E hr h => ?_)
  · obtain ⟨a, x, y, rfl, _⟩ := h
    rfl
  · obtain ⟨a, x, y, rfl, ⟨dx, q, t, h1, h2, h3⟩, k⟩ := h
    have h20 : H q = some (.tup [.int x, .int y]) := h2
    exact ⟨_, pss_one (ps_ret (pe_op op_sub ((pe_callB call_len_seq (by rfl) (Bl.len_ B) PySem.boot_len (pa_cons (pe_fld (pv 0) rfl) pa_nil))) pe_int)), _, rfl, a, C, dx, _, _, rfl, h1, S.cl, S.n3, rfl, q, _, rfl, .inr (SqT.of h20), _, _, rfl, rfl, k⟩
theorem sFl : FnScope ["self", "bits"] ["self", "bits"] (defScope (inClass (top 57) 6)) := (⟨rfl, rfl, rfl, by decide +kernel, rfl, by decide +kernel, by decide +kernel⟩)
def spFlo (C : Addr) : Sp := fun vs H Q _ => ∃ (a : Addr) (x y : Int), vs = [.ref a, .int 64] ∧ Shp C H a x y ∧ ∀ v : Int, Q (.int v) H
theorem ok_flo {f : Addr} {fd : FuncData} (F : Fun K "floor_at" "Shape.floor_at" (inClass (top 57) 6) f fd) (S : ShC K mg C) : FnOk P w K mg base CX0 1 f fd ["self", "bits"] (spFlo C) := by
  refine F.ok sFl (fun vs H Q E h => ?_) (fun cdv A outer s H vs Q E hr h => ?_)
  · obtain ⟨a, x, y, rfl, _⟩ := h
    rfl
  · obtain ⟨a, x, y, rfl, ⟨dx, q, t, h1, h2, h3⟩, k⟩ := h
    refine ⟨_, pss_cons (ps_if ((pt_cmpR op_eq (pv 1) (pe_fld (pv 0) rfl) (nomark _))) (pss_one (ps_ret (pe_fld (pv 0) rfl))) pss_nil) pss_nv, ?_⟩
    refine ⟨_, rfl, _, rfl, a, C, dx, _, _, rfl, h1, S.cl, S.n5, rfl, rfl, _, rfl, ?_⟩
    exact iteT ⟨_, rfl, a, C, dx, _, _, rfl, h1, S.cl, S.n4, rfl, k _⟩
/-! ### as they are used -/
section
variable {X : Cx} {e : Expr} {te : TE} {pos : Pos} {j : Nat}
theorem pe_eqn (S : ShC X.K X.mg C) (he : PE X e te) (hr : Room (j + 2) X.A) (hab : attributeBase e "equation" X.env (eval e X.env) = eval e X.env := by rfl) :
    PE X (.Attribute e "equation" pos) (tProp C (spGetE C) [] E0 te) := by
  obtain ⟨p, f, fd, hp, F⟩ := S.eqn
  exact pe_prop (pos := pos) he S.cl hp (ok_eqn (P := X.prog) (w := X.w) (base := X.base) F S) (hr.mono (by omega)) (F.binds (fun _ _ _ _ _ _ us hl => match us, hl with | [_], _ => rfl)) .nil pass0 hab
theorem pe_deg (S : ShC X.K X.mg C) (B : Bl X.mg) (he : PE X e te) (hr : Room (j + 2) X.A) (hab : attributeBase e "degree" X.env (eval e X.env) = eval e X.env := by rfl) :
    PE X (.Attribute e "degree" pos) (tProp C (spGetD C) [] E0 te) := by
  obtain ⟨p, f, fd, hp, F⟩ := S.deg
  exact pe_prop (pos := pos) he S.cl hp (ok_deg (P := X.prog) (w := X.w) (base := X.base) F S B) (hr.mono (by omega)) (F.binds (fun _ _ _ _ _ _ us hl => match us, hl with | [_], _ => rfl)) .nil pass0 hab
theorem pe_flo {apos : Pos} {e2 : Expr} {t : TE} {pl : Sem Bool} (S : ShC X.K X.mg C) (he : PE X e te) (h2 : PE X e2 t) (hr : Room (j + 1) X.A)
    (hst : starEach (e2 :: []) X.env = (false, eval e2 X.env) :: starEach [] X.env := by rfl)
    (ht : eval (.Call (.Attribute e "floor_at" apos) (e2 :: []) [] pos) X.env = (do
      let ov ← eval e X.env
      standAt apos.atName
      let (f, first) ← holding [ov] (getMethod ov "floor_at" pl)
      callWith pos f first (backTo pos (starEach (e2 :: []) X.env)) (backToKw pos (keywordEach [] X.env))) := by rfl) :
    PE X (.Call (.Attribute e "floor_at" apos) [e2] [] pos) (tMeth C "floor_at" (spFlo C) [] E0 te (tCons t tNil)) := by
  obtain ⟨f, fd, hm, F⟩ := S.flo
  exact pe_meth (pl := pl) he S.cl hm (ok_flo (P := X.prog) (w := X.w) (base := X.base) F S) (hr.mono (by omega)) (F.binds (fun _ _ _ _ _ _ us hl => match us, hl with | [_, _], _ => rfl)) .nil pass0 (pa_cons h2 pa_nil hst) hst rfl ht
theorem pe_mkS {p : Pos} {e2 : Expr} {t : TE} (S : ShC X.K X.mg C) (CT : Cal X.prog X.w X.K X.mg X.base 5 "told_by" ["text"] spTold) (CS : Cal X.prog X.w X.K X.mg X.base 6 "stretch_of" ["equation", "rank"] spStr) (h2 : PE X e2 t) (hr : Room (j + 8) X.A) (hg : Gl X "Shape")
    (hst : starEach (e2 :: []) X.env = (false, eval e2 X.env) :: starEach [] X.env := by rfl) :
    PE X (.Call (.Name "Shape" p) [e2] [] pos) (tMake C (spInit C) [] E0 (tCons t tNil)) := by
  obtain ⟨f, fd, hm, F⟩ := S.mkS
  exact pe_make hm (ok_init (P := X.prog) (w := X.w) (base := X.base) F S CT CS) (hr.mono (by omega)) hg S.mgC (F.binds (fun _ _ _ _ _ _ us hl => match us, hl with | [_, _], _ => rfl)) .nil pass0 (pa_cons h2 pa_nil hst) (by decide) hst rfl
end
theorem s58 : FnScope ["value"] ["value"] (defScope (top 58)) := (⟨rfl, rfl, rfl, by decide +kernel, rfl, by decide +kernel, by decide +kernel⟩)
abbrev spChk (C : Addr) : Sp := Prm (α := Addr × Int × Int) (fun a => [.ref a.1]) (fun a H => Shp C H a.1 a.2.1 a.2.2) (fun a H v H' => H' = H)
theorem c_chk (D : Df K mg "check_shape" (top 58)) (B : Bl mg) (S : ShC K mg C) : Cal P w K mg base 1 "check_shape" ["value"] (spChk C) := by
  refine mkC D s58 (fun _ _ _ _ _ _ us hl => match us, hl with | [_], _ => rfl) (fun _ => rfl) (fun f cdv A outer s H a Q E hr h k => ?_)
  obtain ⟨a, x, y⟩ := a
  obtain ⟨dx, q, t, h1, h2, h3⟩ := h
  refine ⟨_, pss_one (ps_if (pt_not (pt_val (pe_callB call_isi (by rfl) B.isinstance_ (by decide +kernel) (pa_cons (pv 0) (pa_cons (pe_glob (v := .ref C) (by rfl) S.mgC rfl) pa_nil))))) pss_nv pss_nil), ?_⟩
  refine ⟨_, rfl, _, _, _, _, true, rfl, .own _, .base (.ins h1 S.cl S.c1 S.c2 S.c3 S.c4), S.kit, _, rfl, iteF ?_⟩
  exact k _ _ (Same.refl _) rfl
end
end Xq

/-! Numbers of fractions. -/
namespace Xq
open PySem PySem.Spec PyProof.Rows L2
/-- the divisor that is taken out, with the bottom's sign -/
def cs (b t : Int) : Int := if b < 0 then -((gcdL [b, t] : Nat) : Int) else ((gcdL [b, t] : Nat) : Int)
def low (b t : Int) : List Int := [b.fdiv (cs b t), t.fdiv (cs b t)]
theorem gcdL2 (b t : Int) : gcdL [b, t] = Nat.gcd b.natAbs t.natAbs := by
  show Nat.gcd (Nat.gcd 0 b.natAbs) t.natAbs = _
  rw [Nat.gcd_zero_left]
theorem cs_ne {b t : Int} (h : b ≠ 0) : cs b t ≠ 0 := by
  have g : 0 < gcdL [b, t] := by
    rw [gcdL2]
    exact Nat.gcd_pos_of_pos_left _ (by omega)
  unfold cs
  split <;> omega
theorem cs_sm {b t : Int} {n : Nat} (h : b ≠ 0) (hb : Sm n b) : (cs b t).natAbs < 2 ^ n := by
  have g : gcdL [b, t] ≤ b.natAbs := by
    rw [gcdL2]
    exact Nat.gcd_le_left _ (by omega)
  have e : (cs b t).natAbs = gcdL [b, t] := by
    unfold cs
    split
    · rw [Int.natAbs_neg, Int.natAbs_natCast]
    · rw [Int.natAbs_natCast]
  rw [e]
  exact Nat.lt_of_le_of_lt g hb
theorem cs_div {b t i : Int} {n : Nat} (h : b ≠ 0) (hb : Sm n b) (h0 : 0 < n) (h9 : n ≤ 9000) : CDivX i (cs b t) :=
  ⟨cs_ne h, Nat.lt_of_lt_of_le (PySem.Flt.log2_lt_of h0 (cs_sm h hb)) h9⟩
/-- a fraction as a number -/
structure Num (H : Hp) (p : Addr) (d a : Int) : Prop where
  at_ : TI H p [d, a]
  pos : 1 ≤ d
  red : gcdL [d, a] = 1
theorem Num.same {H H' : Hp} {p : Addr} {d a : Int} (s : Same H H') (h : Num H p d a) : Num H' p d a := ⟨TI.same s h.at_, h.pos, h.red⟩
section
variable {P : Program} {w : World} {K : PySem.W.Frag} {mg : Str → Option Value} {base : Heap} {C : Addr}
theorem s74 : FnScope ["shape", "value"] ["shape", "value"] (defScope (top 74)) := (⟨rfl, rfl, rfl, by decide +kernel, rfl, by decide +kernel, by decide +kernel⟩)
abbrev spIsNum (C : Addr) : Sp := Prm (α := Addr × Int × Int × Addr × Int × Int) (fun a => [.ref a.1, .ref a.2.2.2.1]) (fun a H => Shp C H a.1 a.2.1 a.2.2.1 ∧ Num H a.2.2.2.1 a.2.2.2.2.1 a.2.2.2.2.2) (fun a H v H' => v = .bl true)
theorem c_isnum (D : Df K mg "is_number" (top 74)) (B : Bl mg) (S : ShC K mg C) (CA : Cal P w K mg base 2 "are_integers" ["values"] spAreInts) (CG : Cal P w K mg base 1 "common_divisor" ["terms"] spGcd) : Cal P w K mg base 3 "is_number" ["shape", "value"] (spIsNum C) := by
  refine mkC D s74 (fun _ _ _ _ _ _ us hl => match us, hl with | [_, _], _ => rfl) (fun _ => rfl) (fun f cdv A outer s H a Q E hr h k => ?_)
  obtain ⟨sh, x, y, p, d, a⟩ := a
  obtain ⟨hs, hn⟩ := h
  have hs : Shp C H sh x y := hs
  have hn : Num H p d a := hn
  have h0 : H p = some (.tup [.int d, .int a]) := hn.at_
  obtain ⟨dx, q, t, z1, z2, z3⟩ := (show Shp C H sh x y from hs)
  refine ⟨_, pss_cons (ps_if (PW.pt (pw_or (pt_not (pt_val (pe_isi (v := .ty "tuple") (by rfl) B.isinstance_ (pv 1) (by rfl) B.tuple_ PyProof.Rows.boot_tuple rfl)))
      (pw_or ((pt_cmpR op_ne ((pe_callB call_len_seq (by rfl) (Bl.len_ B) PySem.boot_len (pa_cons (pv 1) pa_nil))) (pe_op op_add (pe_deg (j := 0) S B (pv 0) hr) pe_int) (nomark _))) (pw_or1 (pt_not (pt_val (pe_cl CA hr (pa_cons (pv 1) pa_nil)))))))) pss_nv pss_nil)
    (pss_one (ps_ret (pe_and (pe_cmpR op_ge ((pe_ix ix_tup (pv 1) pe_int (fun _ _ => rfl))) pe_int (nomark _)) (pe_one (pe_cmpR op_eq (pe_cl CG hr (pa_cons (pv 1) pa_nil)) pe_int (nomark _)))))), ?_⟩
  refine ⟨_, rfl, _, _, _, _, true, rfl, .ty _, .base (.tup h0), kit_ty (by decide +kernel), _, rfl, iteF ?_⟩
  refine ⟨_, rfl, p, _, rfl, .inr (SqT.of h0), _, rfl, sh, dx, _, rfl, z1, sh, x, y, rfl, hs, _, _, rfl, rfl, rfl, _, rfl, iteF ?_⟩
  refine ⟨_, rfl, (p, d, a), rfl, hn.at_, ?_⟩
  rintro _ H1 s1 rfl
  refine ⟨_, rfl, iteF ?_⟩
  refine ⟨_, rfl, p, _, _, .int d, rfl, rfl, SqT.of (s1 _ _ h0), atI_nat (j := 0) rfl, _, _, rfl, rfl, _, rfl, ?_⟩
  rw [decide_eq_true (show d ≥ 1 from hn.pos)]
  refine iteT ⟨_, rfl, (p, [d, a]), rfl, .inr (TI.same s1 hn.at_), ?_⟩
  rintro _ _ - ⟨rfl, rfl⟩
  refine ⟨rfl, k _ _ s1 ?_⟩
  show V.bl (decide (V.int ((gcdL [d, a] : Nat) : Int) = V.int 1)) = _
  rw [hn.red]
  rfl
theorem s75 : FnScope ["shape", "value"] ["shape", "value"] (defScope (top 75)) := (⟨rfl, rfl, rfl, by decide +kernel, rfl, by decide +kernel, by decide +kernel⟩)
abbrev spChkN (C : Addr) : Sp := Prm (α := Addr × Int × Int × Addr × Int × Int) (fun a => [.ref a.1, .ref a.2.2.2.1]) (fun a H => Shp C H a.1 a.2.1 a.2.2.1 ∧ Num H a.2.2.2.1 a.2.2.2.2.1 a.2.2.2.2.2) (fun a H v H' => True)
theorem c_chkn (D : Df K mg "check_number" (top 75)) (CN : Cal P w K mg base 3 "is_number" ["shape", "value"] (spIsNum C)) : Cal P w K mg base 4 "check_number" ["shape", "value"] (spChkN C) := by
  refine mkC D s75 (fun _ _ _ _ _ _ us hl => match us, hl with | [_, _], _ => rfl) (fun _ => rfl) (fun f cdv A outer s H a Q E hr h k => ?_)
  obtain ⟨sh, x, y, p, d, a⟩ := a
  refine ⟨_, pss_one (ps_if (pt_not (pt_val (pe_cl CN hr (pa_cons (pv 0) (pa_cons (pv 1) pa_nil))))) pss_nv pss_nil), ?_⟩
  refine ⟨_, rfl, _, rfl, (sh, x, y, p, d, a), rfl, h, ?_⟩
  rintro _ H1 s1 rfl
  exact ⟨_, rfl, iteF (k _ _ s1 trivial)⟩
abbrev nLow : List Str := ["shape", "bottom", "terms", "padded", "common", "part"]
theorem s76 : FnScope nLow ["shape", "bottom", "terms"] (defScope (top 76)) := (⟨rfl, rfl, rfl, by decide +kernel, rfl, by decide +kernel, by decide +kernel⟩)
abbrev spLow (C : Addr) : Sp := Prm (α := Addr × Int × Int × Int × Addr × Int) (fun a => [.ref a.1, .int a.2.2.2.1, .ref a.2.2.2.2.1]) (fun a H => Shp C H a.1 a.2.1 a.2.2.1 ∧ (TI H a.2.2.2.2.1 [a.2.2.2.2.2] ∨ TI H a.2.2.2.2.1 (tr1 a.2.2.2.2.2)) ∧ a.2.2.2.1 ≠ 0 ∧ Sm 900 a.2.2.2.1)
  (fun a H v H' => ∃ q, v = .ref q ∧ TI H' q (low a.2.2.2.1 a.2.2.2.2.2))
theorem c_low (D : Df K mg "lowest" (top 76)) (B : Bl mg) (S : ShC K mg C) (CG : Cal P w K mg base 1 "common_divisor" ["terms"] spGcd) : Cal P w K mg base 3 "lowest" ["shape", "bottom", "terms"] (spLow C) := by
  refine mkC D s76 (fun _ _ _ _ _ _ us hl => match us, hl with | [_, _, _], _ => rfl) (fun _ => rfl) (fun f cdv A outer s H a Q E hr h k => ?_)
  obtain ⟨sh, x, y, b, p, t⟩ := a
  obtain ⟨hs, ht, b0, bb⟩ := h
  have hs : Shp C H sh x y := hs
  have b0 : b ≠ 0 := b0
  have bb : Sm 900 b := bb
  have ht2 : TI H p [t] ∨ (TI H p [] ∧ t = 0) := by
    rcases ht with ht | ht
    · exact .inl ht
    · have ht : TI H p (tr1 t) := ht
      unfold tr1 at ht
      by_cases h0 : t = 0
      · rw [if_pos h0] at ht
        exact .inr ⟨ht, h0⟩
      · rw [if_neg h0] at ht
        exact .inl ht
  refine ⟨_, pss_cons ((ps_set (i := 3) (FnScope.nd s76) rfl (Or.inl rfl) (pe_op op_cat (pe_lst (pa_cons (pv 1) (StX.pa_star (pv 2) pa_nil))) (pe_op op_rep (pe_lst (pa_cons pe_int pa_nil)) (pe_op op_sub (pe_deg (j := 0) S B (pv 0) hr) ((pe_callB call_len_seq (by rfl) (Bl.len_ B) PySem.boot_len (pa_cons (pv 2) pa_nil))))))))
    (pss_cons (ps_set (i := 4) s76.nd rfl (Or.inr rfl) (pe_cl CG hr (pa_cons (pv 3) pa_nil)))
    (pss_cons (ps_if ((pt_cmpR op_lt (pv 1) pe_int (nomark _))) (pss_one (ps_set (i := 4) s76.nd rfl (Or.inr rfl) (pe_un un_neg (pv 4)))) pss_nil)
    (pss_one (ps_ret (pe_callTy call_tuple_of (by rfl) B.tuple_ PyProof.Rows.boot_tuple (pa_cons
      (pe_lc (own := [("part", 5)]) (g := gName 5) (tt := tYes) (te := tOp (rI CDivX fun i j => .int (i.fdiv j)) (tVar 5) (tVar 4)) rfl s76.nd (pi_list (pv 3))
        (blkOk_by (N := nLow) (sc := defScope (top 76)) (by decide +kernel)) (fun _ _ _ _ _ => (pg_name (i := 5) (FnScope.nd s76) rfl (Or.inl rfl))) (fun _ _ _ _ _ => pts_nil)
        (fun _ _ _ _ _ => pe_op op_fdivX (pv 5) (pv 4))) pa_nil)))))), ?_⟩
  obtain ⟨dx, q, tx, z1, z2, z3⟩ := (show Shp C H sh x y from hs)
  -- what follows, from the padded list at l
  have rest : ∀ (l : Addr) (H1 : Hp), Same H H1 → LI H1 l [b, t] →
      tSeq (tAsg (tCall spGcd [] E0 (tCons (tVar 3) tNil)) (gName 4)) (tSeq (tIfS (tTest (tOp (rI0 fun i j => .bl (decide (i < j))) (tVar 1) (tC (.int 0)))) (tAsg (tUn (rU fun i => .int (-i)) (tVar 4)) (gName 4)) tNext)
        (tRet (tCB (fun xs H Q => ∃ p ys, xs = [.ref p] ∧ ((SqL K H p ys ∧ ∀ l, H l = none → Q (.ref l) (upd H l (.tup ys))) ∨ (SqT K H p ys ∧ Q (.ref p) H)))
          (tCons (tLc (iList K (tVar 3)) (gName 5) tYes (tOp (rI CDivX fun i j => .int (i.fdiv j)) (tVar 5) (tVar 4)) [5]) tNil))))
        { nx := fun _ H' => Q .non H', rt := Q } [some (.ref sh), some (.int b), some (.ref p), some (.ref l), none, none] H1 := by
    intro l H1 s1 hl
    have hl0 : H1 l = some (.lst [.int b, .int t]) := hl
    refine ⟨_, rfl, (l, [b, t]), rfl, .inl hl, ?_⟩
    rintro _ _ - ⟨rfl, e⟩
    rw [e]
    refine ⟨_, rfl, _, _, rfl, rfl, _, rfl, ?_⟩
    have last : ∀ σ0 : L2.St, σ0 = [some (.ref sh), some (.int b), some (.ref p), some (.ref l), some (.int (cs b t)), none] →
        tRet (tCB (fun xs H Q => ∃ p ys, xs = [.ref p] ∧ ((SqL K H p ys ∧ ∀ l, H l = none → Q (.ref l) (upd H l (.tup ys))) ∨ (SqT K H p ys ∧ Q (.ref p) H)))
          (tCons (tLc (iList K (tVar 3)) (gName 5) tYes (tOp (rI CDivX fun i j => .int (i.fdiv j)) (tVar 5) (tVar 4)) [5]) tNil)) { nx := fun _ H' => Q .non H', rt := Q } σ0 H1 := by
      rintro σ0 rfl
      refine ⟨_, rfl, l, rfl, ⟨_, SqL.of hl0⟩, fun D2 hD => lc_yes (G := fun H => SqL K H l [.int b, .int t]) (xs := [.int b, .int t]) walk_list ?_⟩
      have y1 := same_new (o := .lst []) hD
      refine ⟨SqL.of (y1 _ _ hl0), rfl, _, rfl, _, rfl, _, _, rfl, rfl, cs_div b0 bb (by decide) (by decide), _, upd_same, by decide, ?_⟩
      rw [upd_upd]
      have y2 := same_new (o := .lst [.int (b.fdiv (cs b t))]) hD
      refine ⟨SqL.of (y2 _ _ hl0), rfl, _, rfl, _, rfl, _, _, rfl, rfl, cs_div b0 bb (by decide) (by decide), _, upd_same, (by show 1 < sizeLine; decide), ?_⟩
      rw [upd_upd]
      have y3 := same_new (o := .lst [.int (b.fdiv (cs b t)), .int (t.fdiv (cs b t))]) hD
      refine ⟨SqL.of (y3 _ _ hl0), D2, _, rfl, .inl ⟨SqL.of upd_same, fun q2 hq2 => ?_⟩⟩
      exact k _ _ (s1.trans (Same.new y3 hq2)) ⟨q2, rfl, upd_same⟩
    refine ite2 (fun hb => ?_) (fun hb => ?_)
    · have hb2 : b < 0 := of_decide_eq_true hb
      refine ⟨_, rfl, _, rfl, last _ ?_⟩
      unfold cs
      rw [if_pos hb2]
      rfl
    · have hb2 : ¬ (b < 0) := fun q => hb (decide_eq_true q)
      refine last _ ?_
      unfold cs
      rw [if_neg hb2]
      rfl
  clear ht
  rcases ht2 with ht | ⟨ht, rfl⟩
  · have h0 : H p = some (.tup [.int t]) := ht
    refine ⟨_, rfl, _, rfl, p, _, rfl, .inl (SqT.of h0), (by show 2 ≤ sizeLine; decide), fun l1 hl1 => ?_⟩
    have s1 := same_new (o := .lst [.int b, .int t]) hl1
    refine ⟨by decide, fun l2 hl2 => ?_⟩
    have s2 := Same.new (o := .lst [.int 0]) s1 hl2
    have n12 : l1 ≠ l2 := ne_of_none (a := l1) upd_same hl2
    refine ⟨_, rfl, sh, dx, _, rfl, s2 _ _ z1, sh, x, y, rfl, Shp.same s2 hs, _, rfl, p, _, rfl, .inr (SqT.of (s2 _ _ h0)), _, _, rfl, rfl, l2, _, _, rfl, rfl, upd_same, (by show -(2 ^ 63) ≤ (0 : Int); decide), (by show (0 : Int) < 2 ^ 63; decide), (by show 1 * 0 ≤ sizeLine; decide), fun l3 hl3 => ?_⟩
    have s3 := Same.new (o := .lst []) s2 hl3
    have n13 : l1 ≠ l3 := ne_of_none (a := l1) ((upd_ne n12).trans upd_same) hl3
    refine ⟨l1, l3, [.int b, .int t], [], rfl, rfl, (upd_ne n13).trans ((upd_ne n12).trans upd_same), upd_same, (by show 2 ≤ sizeLine; decide), fun l hl => ?_⟩
    exact rest l _ (Same.new s3 hl) upd_same
  · have h0 : H p = some (.tup []) := ht
    refine ⟨_, rfl, _, rfl, p, _, rfl, .inl (SqT.of h0), (by show 1 ≤ sizeLine; decide), fun l1 hl1 => ?_⟩
    have s1 := same_new (o := .lst [.int b]) hl1
    refine ⟨by decide, fun l2 hl2 => ?_⟩
    have s2 := Same.new (o := .lst [.int 0]) s1 hl2
    have n12 : l1 ≠ l2 := ne_of_none (a := l1) upd_same hl2
    refine ⟨_, rfl, sh, dx, _, rfl, s2 _ _ z1, sh, x, y, rfl, Shp.same s2 hs, _, rfl, p, _, rfl, .inr (SqT.of (s2 _ _ h0)), _, _, rfl, rfl, l2, _, _, rfl, rfl, upd_same, by decide, by decide, by decide, fun l3 hl3 => ?_⟩
    have s3 := Same.new (o := .lst [.int 0]) s2 hl3
    have n13 : l1 ≠ l3 := ne_of_none (a := l1) ((upd_ne n12).trans upd_same) hl3
    refine ⟨l1, l3, [.int b], [.int 0], rfl, rfl, (upd_ne n13).trans ((upd_ne n12).trans upd_same), upd_same, (by show 2 ≤ sizeLine; decide), fun l hl => ?_⟩
    exact rest l _ (Same.new s3 hl) upd_same
end
end Xq

namespace Xq
open PySem PySem.Spec PyProof.Rows L2
section
variable {P : Program} {w : World} {K : PySem.W.Frag} {mg : Str → Option Value} {base : Heap} {C : Addr}
theorem sm_zero (n : Nat) : Sm n 0 := Nat.pow_pos (by decide)
theorem sm_one {n : Nat} (h : 0 < n) : Sm n 1 := Nat.one_lt_pow (by omega) (by decide)
abbrev nF : List Str := ["shape", "bottom", "terms", "equation"]
theorem s77 : FnScope nF ["shape", "bottom", "terms"] (defScope (top 77)) := (⟨rfl, rfl, rfl, by decide +kernel, rfl, by decide +kernel, by decide +kernel⟩)
abbrev spFoldA (C : Addr) : Sp := Prm (α := Addr × Int × Int × Int × Addr × Int) (fun a => [.ref a.1, .int a.2.2.2.1, .ref a.2.2.2.2.1]) (fun a H => Shp C H a.1 a.2.1 a.2.2.1 ∧ TI H a.2.2.2.2.1 (tr1 a.2.2.2.2.2) ∧ a.2.2.2.1 ≠ 0 ∧ Sm 900 a.2.2.2.1)
  (fun a H v H' => ∃ q, v = .ref q ∧ TI H' q (low a.2.2.2.1 a.2.2.2.2.2))
theorem tr1_len (t : Int) : (tr1 t).length ≤ 1 := by
  unfold tr1
  split <;> simp
theorem c_foldA (D : Df K mg "folded" (top 77)) (B : Bl mg) (S : ShC K mg C) (CL : Cal P w K mg base 3 "lowest" ["shape", "bottom", "terms"] (spLow C)) : Cal P w K mg base 4 "folded" ["shape", "bottom", "terms"] (spFoldA C) := by
  refine mkC D s77 (fun _ _ _ _ _ _ us hl => match us, hl with | [_, _, _], _ => rfl) (fun _ => rfl) (fun f cdv A outer s H a Q E hr h k => ?_)
  obtain ⟨sh, x, y, b, p, t⟩ := a
  obtain ⟨hs, ht, b0, bb⟩ := h
  have hs : Shp C H sh x y := hs
  have ht : TI H p (tr1 t) := ht
  obtain ⟨dx, q, tx, z1, z2, z3⟩ := (show Shp C H sh x y from hs)
  refine ⟨_, pss_cons ((ps_set (i := 3) (FnScope.nd s77) rfl (Or.inl rfl) (pe_eqn (j := 0) S (pv 0) (hr.mono (by decide)))))
    (pss_cons (ps_whU PassesOwn.never ((pt_cmpR op_gt ((pe_callB call_len_seq (by rfl) (Bl.len_ B) PySem.boot_len (pa_cons (pv 2) pa_nil))) (pe_deg (j := 0) S B (pv 0) (hr.mono (by decide))) (nomark _))) pss_nv)
    (pss_one (ps_ret (pe_cl CL hr (pa_cons (pv 0) (pa_cons (pv 1) (pa_cons (pv 2) pa_nil))))))), ?_⟩
  refine ⟨_, rfl, sh, dx, _, rfl, z1, sh, x, y, rfl, hs, fun q2 hq2 => ?_⟩
  refine ⟨0, _, rfl, p, _, rfl, .inr (SqT.of ht), _, rfl, sh, dx, _, rfl, z1, sh, x, y, rfl, hs, _, _, rfl, rfl, _, rfl, ?_, ?_⟩
  · refine decide_eq_false ?_
    rw [List.length_map]
    have := tr1_len t
    omega
  refine ⟨_, rfl, _, rfl, _, rfl, (sh, x, y, b, p, t), rfl, ⟨hs, .inr ht, b0, bb⟩, ?_⟩
  rintro _ H1 s1 ⟨r, rfl, hr1⟩
  exact k _ _ s1 ⟨r, rfl, hr1⟩
/-- the root itself -/
abbrev spFoldB (C : Addr) : Sp := Prm (α := Addr × Int × Int × Addr) (fun a => [.ref a.1, .int 1, .ref a.2.2.2]) (fun a H => Shp C H a.1 a.2.1 a.2.2.1 ∧ TI H a.2.2.2 [0, 1])
  (fun a H v H' => ∃ q, v = .ref q ∧ TI H' q (low a.2.2.1 (-a.2.1)))
theorem c_foldB (D : Df K mg "folded" (top 77)) (B : Bl mg) (S : ShC K mg C) (CL : Cal P w K mg base 3 "lowest" ["shape", "bottom", "terms"] (spLow C)) (CC : Cal P w K mg base 2 "combined" ["factor", "one", "weight", "other", "shift"] spComb22) : Cal P w K mg base 4 "folded" ["shape", "bottom", "terms"] (spFoldB C) := by
  refine mkC D s77 (fun _ _ _ _ _ _ us hl => match us, hl with | [_, _, _], _ => rfl) (fun _ => rfl) (fun f cdv A outer s H a Q E hr h k => ?_)
  obtain ⟨sh, x, y, p⟩ := a
  obtain ⟨hs, ht⟩ := h
  have hs : Shp C H sh x y := hs
  have ht : TI H p [0, 1] := ht
  have ht0 : H p = some (.tup [.int 0, .int 1]) := ht
  obtain ⟨dx, q, tx, z1, z2, z3⟩ := (show Shp C H sh x y from hs)
  refine ⟨_, pss_cons ((ps_set (i := 3) (FnScope.nd s77) rfl (Or.inl rfl) (pe_eqn (j := 0) S (pv 0) (hr.mono (by decide)))))
    (pss_cons (ps_whU PassesOwn.never ((pt_cmpR op_gt ((pe_callB call_len_seq (by rfl) (Bl.len_ B) PySem.boot_len (pa_cons (pv 2) pa_nil))) (pe_deg (j := 0) S B (pv 0) (hr.mono (by decide))) (nomark _)))
      (pss_cons ((ps_set (i := 2) (FnScope.nd s77) rfl (Or.inl rfl) (pe_cl CC hr (pa_cons ((pe_ix ix_tup (pv 3) (pe_un un_neg pe_int) (fun _ _ => rfl))) (pa_cons (pv 2) (pa_cons ((pe_ix ix_tup (pv 2) (pe_un un_neg pe_int) (fun _ _ => rfl))) (pa_cons (pv 3) (pa_cons (pe_op op_sub ((pe_callB call_len_seq (by rfl) (Bl.len_ B) PySem.boot_len (pa_cons (pv 2) pa_nil))) ((pe_callB call_len_seq (by rfl) (Bl.len_ B) PySem.boot_len (pa_cons (pv 3) pa_nil)))) pa_nil))))))))
      (pss_one (ps_aug (i := 1) s77.nd rfl (Or.inl rfl) ((pe_ix ix_tup (pv 3) (pe_un un_neg pe_int) (fun _ _ => rfl))) iop_mul))))
    (pss_one (ps_ret (pe_cl CL hr (pa_cons (pv 0) (pa_cons (pv 1) (pa_cons (pv 2) pa_nil))))))), ?_⟩
  refine ⟨_, rfl, sh, dx, _, rfl, z1, sh, x, y, rfl, hs, fun q2 hq2 => ?_⟩
  have hq0 : H q2 = some (.tup [.int x, .int y]) := hq2
  refine ⟨1, _, rfl, p, _, rfl, .inr (SqT.of ht0), _, rfl, sh, dx, _, rfl, z1, sh, x, y, rfl, hs, _, _, rfl, rfl, _, rfl, ?_⟩
  refine iteT ⟨_, rfl, _, rfl, q2, _, _, .int y, rfl, rfl, SqT.of hq0, atl2 _ _, ?_⟩
  refine ⟨_, rfl, _, rfl, _, rfl, p, _, _, .int 1, rfl, rfl, SqT.of ht0, atl2 _ _, ?_⟩
  refine ⟨_, rfl, _, rfl, p, _, rfl, .inr (SqT.of ht0), _, rfl, q2, _, rfl, .inr (SqT.of hq0), _, _, rfl, rfl, ?_⟩
  have bx := z3.sx
  have bY := z3.sy
  refine ⟨(y, p, 1, q2, 0, 1, x, y), rfl, ⟨ht, hq2, sm_le bY (by decide), sm_one (by decide), sm_zero _, sm_one (by decide), sm_le bx (by decide), sm_le bY (by decide)⟩, ?_⟩
  rintro _ H1 s1 ⟨r, rfl, hr1⟩
  have e : trimI [y * 0 - 1 * x, y * 1 - 1 * y] = tr1 (-x) := by
    rw [Int.mul_one, Int.one_mul, Int.one_mul, Int.sub_self, Int.mul_zero, Int.zero_sub, trim_2]
  have hr2 : TI H1 r (tr1 (-x)) := by
    rw [← e]
    exact hr1
  have hq1 := s1 _ _ hq0
  refine ⟨_, rfl, _, rfl, _, rfl, q2, _, _, .int y, rfl, rfl, SqT.of hq1, atl2 _ _, _, _, rfl, rfl, .inl ⟨by decide, by decide⟩, ?_⟩
  refine ⟨_, rfl, r, _, rfl, .inr (SqT.of hr2), _, rfl, sh, dx, _, rfl, s1 _ _ z1, sh, x, y, rfl, hs.same s1, _, _, rfl, rfl, _, rfl, ?_, ?_⟩
  · refine decide_eq_false ?_
    rw [List.length_map]
    have := tr1_len (-x)
    omega
  refine ⟨_, rfl, _, rfl, _, rfl, (sh, x, y, 1 * y, r, -x), rfl, ⟨hs.same s1, .inr hr2, ?_, ?_⟩, ?_⟩
  · show 1 * y ≠ 0
    rw [Int.one_mul]
    have := z3.2.2.1
    omega
  · show Sm 900 (1 * y)
    rw [Int.one_mul]
    exact sm_le bY (by decide)
  rintro _ H2 s2 ⟨r2, rfl, hr3⟩
  refine k _ _ (s1.trans s2) ⟨r2, rfl, ?_⟩
  have hr4 : TI H2 r2 (low (1 * y) (-x)) := hr3
  rw [Int.one_mul] at hr4
  exact hr4
theorem s78 : FnScope ["equation", "divisor", "one", "left", "other", "right", "factor", "weight", "shift", "common", "smaller", "multiple", "term"] ["equation", "divisor"] (defScope (top 78)) := (⟨rfl, rfl, rfl, by decide +kernel, rfl, by decide +kernel, by decide +kernel⟩)
abbrev spRec : Sp := Prm (α := Addr × Addr × Int) (fun a => [.ref a.1, .ref a.2.1]) (fun a H => TI H a.2.1 [a.2.2]) (fun a H v H' => ∃ r q, v = .ref r ∧ H' r = some (.tup [.ref q, .int a.2.2]) ∧ TI H' q [1])
theorem c_rec (D : Df K mg "reciprocal" (top 78)) (B : Bl mg) : Cal P w K mg base 1 "reciprocal" ["equation", "divisor"] spRec := by
  refine mkC D s78 (fun _ _ _ _ _ _ us hl => match us, hl with | [_, _], _ => rfl) (fun _ => rfl) (fun f cdv A outer s H a Q E hr h k => ?_)
  obtain ⟨p, q, g⟩ := a
  have h0 : H q = some (.tup [.int g]) := h
  refine ⟨_, pss_cons (ps_asg (pe_tup (pa_cons (pv 0) (pa_cons (pe_tup pa_nil) (pa_cons (pv 1) (pa_cons (pe_tup (pa_cons pe_int pa_nil)) pa_nil))))) (pg_tup rfl (pgs_cons ((pg_name (i := 2) (FnScope.nd s78) rfl (Or.inl rfl))) (pgs_cons ((pg_name (i := 3) (FnScope.nd s78) rfl (Or.inl rfl))) (pgs_cons ((pg_name (i := 4) (FnScope.nd s78) rfl (Or.inl rfl))) (pgs_cons ((pg_name (i := 5) (FnScope.nd s78) rfl (Or.inl rfl))) pgs_nil))))))
    (pss_cons (ps_whU PassesOwn.never ((pt_cmpR op_gt ((pe_callB call_len_seq (by rfl) (Bl.len_ B) PySem.boot_len (pa_cons (pv 4) pa_nil))) pe_int (nomark _))) pss_nv)
    (pss_one (ps_ret (pe_tup (pa_cons (pv 5) (pa_cons ((pe_ix ix_tup (pv 4) pe_int (fun _ _ => rfl))) pa_nil)))))), ?_⟩
  refine ⟨_, rfl, by decide, fun l1 hl1 => ?_⟩
  have s1 := same_new (o := .tup []) hl1
  refine ⟨_, rfl, by decide, fun l2 hl2 => ?_⟩
  have s2 := Same.new (o := .tup [.int 1]) s1 hl2
  refine ⟨(by show 4 ≤ sizeLine; decide), fun l3 hl3 => ?_⟩
  have s3 := Same.new (o := .tup [.ref p, .ref l1, .ref q, .ref l2]) s2 hl3
  have n23 : l2 ≠ l3 := ne_of_none (a := l2) upd_same hl3
  have h3 := s3 _ _ h0
  refine ⟨l3, _, rfl, SqT.of upd_same, rfl, _, _, rfl, _, _, rfl, _, _, rfl, _, _, rfl, rfl, ?_⟩
  refine ⟨0, _, rfl, q, _, rfl, .inr (SqT.of h3), _, _, rfl, rfl, _, rfl, rfl, ?_⟩
  refine ⟨_, rfl, _, rfl, q, _, _, .int g, rfl, rfl, SqT.of h3, atI_nat (j := 0) rfl, (by show 2 ≤ sizeLine; decide), fun r hr2 => ?_⟩
  have s4 := Same.new (o := .tup [.ref l2, .int g]) s3 hr2
  have l23 : ∀ HH : Hp, (upd (upd HH l2 (.tup [.int 1])) l3 (.tup [.ref p, .ref l1, .ref q, .ref l2])) l2 = some (.tup [.int 1]) := fun _ => (upd_ne n23).trans upd_same
  have n2r : l2 ≠ r := ne_of_none (l23 _) hr2
  exact k _ _ s4 ⟨r, l2, rfl, upd_same, (upd_ne n2r).trans (l23 _)⟩
abbrev nE : List Str := ["number", "near", "bits", "bottom", "plus", "minus", "low", "high", "term"]
theorem s79 : FnScope nE ["number", "near", "bits"] (defScope (top 79)) := (⟨rfl, rfl, rfl, by decide +kernel, rfl, by decide +kernel, by decide +kernel⟩)
abbrev spEnds : Sp := Prm (α := Addr × Int × Int × Int) (fun a => [.ref a.1, .int a.2.2.2, .int 64]) (fun a H => TI H a.1 [a.2.1, a.2.2.1]) (fun a H v H' => ∃ r, v = .ref r ∧ TI H' r [a.2.2.1, a.2.2.1])
theorem c_ends (D : Df K mg "ends" (top 79)) (B : Bl mg) (CV : Cal P w K mg base 1 "value_at" ["terms", "top", "bottom"] spVal1) : Cal P w K mg base 2 "ends" ["number", "near", "bits"] spEnds := by
  refine mkC D s79 (fun _ _ _ _ _ _ us hl => match us, hl with | [_, _, _], _ => rfl) (fun _ => rfl) (fun f cdv A outer s H a Q E hr h k => ?_)
  obtain ⟨p, d, a, v⟩ := a
  have h0 : H p = some (.tup [.int d, .int a]) := h
  refine ⟨_, pss_cons ((ps_set (i := 3) (FnScope.nd s79) rfl (Or.inl rfl) (pe_op op_shl pe_int (pv 2))))
    (pss_cons (ps_setLc (i := 4) (own := [("term", 8)]) (g := gName 8) (tt := tYes) (te := tCB (fun xs H Q => ∃ i j, xs = [.int i, .int j] ∧ Q (.int (if j > i then j else i)) H) (tCons (tVar 8) (tCons (tC (.int 0)) tNil))) rfl s79.nd rfl rfl (sw_true rfl rfl rfl (by decide +kernel)) (pi_tup (pe_slice sl_tupA (pv 0) (po_some pe_int) po_none))
      (blkOk_by (N := nE) (sc := defScope (top 79)) (by decide +kernel)) (fun _ _ _ _ _ => (pg_name (i := 8) (FnScope.nd s79) rfl (Or.inl rfl))) (fun _ _ _ _ _ => pts_nil)
      (fun _ _ _ _ _ => pe_callB (call_max2 rfl) (by rfl) B.max_ PyProof.Rows.boot_max (pa_cons (pv 8) (pa_cons pe_int pa_nil))))
    (pss_cons (ps_setLc (i := 5) (own := [("term", 8)]) (g := gName 8) (tt := tYes) (te := tCB (fun xs H Q => ∃ i j, xs = [.int i, .int j] ∧ Q (.int (if j > i then j else i)) H) (tCons (tUn (rU fun i => .int (-i)) (tVar 8)) (tCons (tC (.int 0)) tNil))) rfl s79.nd rfl rfl (sw_true rfl rfl rfl (by decide +kernel)) (pi_tup (pe_slice sl_tupA (pv 0) (po_some pe_int) po_none))
      (blkOk_by (N := nE) (sc := defScope (top 79)) (by decide +kernel)) (fun _ _ _ _ _ => (pg_name (i := 8) (FnScope.nd s79) rfl (Or.inl rfl))) (fun _ _ _ _ _ => pts_nil)
      (fun _ _ _ _ _ => pe_callB (call_max2 rfl) (by rfl) B.max_ PyProof.Rows.boot_max (pa_cons (pe_un un_neg (pv 8)) (pa_cons pe_int pa_nil))))
    (pss_cons ((ps_set (i := 6) (FnScope.nd s79) rfl (Or.inl rfl) (pe_op op_sub (pe_cl CV hr (pa_cons (pv 4) (pa_cons (pv 1) (pa_cons (pv 3) pa_nil)))) (pe_cl CV hr (pa_cons (pv 5) (pa_cons (pe_op op_add (pv 1) pe_int) (pa_cons (pv 3) pa_nil)))))))
    (pss_cons ((ps_set (i := 7) (FnScope.nd s79) rfl (Or.inl rfl) (pe_op op_sub (pe_cl CV hr (pa_cons (pv 4) (pa_cons (pe_op op_add (pv 1) pe_int) (pa_cons (pv 3) pa_nil)))) (pe_cl CV hr (pa_cons (pv 5) (pa_cons (pv 1) (pa_cons (pv 3) pa_nil)))))))
    (pss_one (ps_ret (pe_tup (pa_cons (pv 6) (pa_cons (pv 7) pa_nil))))))))), ?_⟩
  refine ⟨_, rfl, _, _, rfl, rfl, ⟨by decide, by decide, by decide⟩, ?_⟩
  refine ⟨_, rfl, _, rfl, p, _, rfl, SqT.of h0, (fun z => absurd (show HT.sIx 2 0 (some 1) = 0 from z.1) (by decide)), fun _ u hu => ?_⟩
  have s1 := same_new (o := .tup [.int a]) hu
  refine ⟨u, rfl, ⟨_, SqT.of upd_same⟩, fun D1 hD1 => lc_yes (G := fun H => SqT K H u [.int a]) (xs := [.int a]) walk_tup ?_⟩
  have y1 := same_new (o := .lst []) hD1
  refine ⟨SqT.of (y1 u (.tup [.int a]) upd_same), rfl, _, rfl, _, _, rfl, _, upd_same, by decide, ?_⟩
  rw [upd_upd]
  have y2 := same_new (o := .lst [.int (if (0 : Int) > a then 0 else a)]) hD1
  have s2 := s1.trans y2
  have p5 : ∀ HH : Hp, LI (upd HH D1 (.lst [.int (if (0 : Int) > a then 0 else a)])) D1 [if (0 : Int) > a then 0 else a] := fun _ => upd_same
  refine ⟨SqT.of (y2 u (.tup [.int a]) upd_same), ?_⟩
  have h2 := s2 _ _ h0
  refine ⟨_, rfl, _, rfl, p, _, rfl, SqT.of h2, (fun z => absurd (show HT.sIx 2 0 (some 1) = 0 from z.1) (by decide)), fun _ u2 hu2 => ?_⟩
  have x3 := same_new (o := .tup [.int a]) hu2
  refine ⟨u2, rfl, ⟨_, SqT.of upd_same⟩, fun D2 hD2 => lc_yes (G := fun H => SqT K H u2 [.int a]) (xs := [.int a]) walk_tup ?_⟩
  have y3 := same_new (o := .lst []) hD2
  refine ⟨SqT.of (y3 u2 (.tup [.int a]) upd_same), rfl, _, rfl, _, rfl, _, _, rfl, _, upd_same, by decide, ?_⟩
  rw [upd_upd]
  have y4 := same_new (o := .lst [.int (if (0 : Int) > -a then 0 else -a)]) hD2
  have s4 := s2.trans (x3.trans y4)
  refine ⟨SqT.of (y4 u2 (.tup [.int a]) upd_same), ?_⟩
  have l5 := (x3.trans y4) _ _ (p5 _)
  have l6 : ∀ HH : Hp, LI (upd HH D2 (.lst [.int (if (0 : Int) > -a then 0 else -a)])) D2 [if (0 : Int) > -a then 0 else -a] := fun _ => upd_same
  refine ⟨_, rfl, _, rfl, _, rfl, (D1, if (0 : Int) > a then 0 else a, v, 2 ^ 64), rfl, .inl l5, ?_⟩
  rintro _ H5 s5 rfl
  refine ⟨_, rfl, _, rfl, _, _, rfl, rfl, _, rfl, (D2, if (0 : Int) > -a then 0 else -a, v + 1, 2 ^ 64), rfl, .inl (s5 _ _ (l6 _)), ?_⟩
  rintro _ H6 s6 rfl
  refine ⟨_, _, rfl, rfl, ?_⟩
  refine ⟨_, rfl, _, rfl, _, _, rfl, rfl, _, rfl, (D1, if (0 : Int) > a then 0 else a, v + 1, 2 ^ 64), rfl, .inl ((s5.trans s6) _ _ l5), ?_⟩
  rintro _ H7 s7 rfl
  refine ⟨_, rfl, _, rfl, _, rfl, (D2, if (0 : Int) > -a then 0 else -a, v, 2 ^ 64), rfl, .inl ((s5.trans (s6.trans s7)) _ _ (l6 _)), ?_⟩
  rintro _ H8 s8 rfl
  refine ⟨_, _, rfl, rfl, ?_⟩
  refine ⟨_, rfl, _, rfl, (by show 2 ≤ sizeLine; decide), fun r hr9 => ?_⟩
  have e : (if (0 : Int) > a then 0 else a) - (if (0 : Int) > -a then 0 else -a) = a := by
    split <;> split <;> omega
  refine k _ _ (s4.trans (s5.trans (s6.trans (s7.trans (Same.new s8 hr9))))) ⟨r, rfl, ?_⟩
  refine (upd_same (a := r)).trans ?_
  show some (HO.tup [.int ((if (0 : Int) > a then 0 else a) - (if (0 : Int) > -a then 0 else -a)), .int ((if (0 : Int) > a then 0 else a) - (if (0 : Int) > -a then 0 else -a))]) = _
  rw [e]
  rfl
end
end Xq

namespace Xq
open PySem PySem.Spec PyProof.Rows L2
section
variable {P : Program} {w : World} {K : PySem.W.Frag} {mg : Str → Option Value} {base : Heap} {C : Addr}
theorem s66 : FnScope ["shape", "fraction"] ["shape", "fraction"] (defScope (top 66)) := (⟨rfl, rfl, rfl, by decide +kernel, rfl, by decide +kernel, by decide +kernel⟩)
abbrev spNumOf (C : Addr) : Sp := Prm (α := Addr × Int × Int × Addr × Int × Int) (fun a => [.ref a.1, .ref a.2.2.2.1]) (fun a H => Shp C H a.1 a.2.1 a.2.2.1 ∧ TI H a.2.2.2.1 [a.2.2.2.2.2, a.2.2.2.2.1] ∧ 1 ≤ a.2.2.2.2.1 ∧ gcdL [a.2.2.2.2.1, a.2.2.2.2.2] = 1 ∧ Sm 400 a.2.2.2.2.1)
  (fun a H v H' => ∃ q, v = .ref q ∧ TI H' q (low a.2.2.2.2.1 a.2.2.2.2.2))
theorem c_numof (D : Df K mg "number_of" (top 66)) (CK : Cal P w K mg base 1 "check_shape" ["value"] (spChk C)) (CF : Cal P w K mg base 3 "is_fraction" ["value"] spIsFrac) (CL : Cal P w K mg base 3 "lowest" ["shape", "bottom", "terms"] (spLow C)) : Cal P w K mg base 4 "number_of" ["shape", "fraction"] (spNumOf C) := by
  refine mkC D s66 (fun _ _ _ _ _ _ us hl => match us, hl with | [_, _], _ => rfl) (fun _ => rfl) (fun f cdv A outer s H a Q E hr h k => ?_)
  obtain ⟨sh, x, y, p, d, a⟩ := a
  obtain ⟨hs, hp, hd, hg, bd⟩ := h
  have hs : Shp C H sh x y := hs
  have hp0 : H p = some (.tup [.int a, .int d]) := hp
  have hd : 1 ≤ d := hd
  have hg : gcdL [d, a] = 1 := hg
  have bd : Sm 400 d := bd
  refine ⟨_, pss_cons (ps_expr (pe_cl CK hr (pa_cons (pv 0) pa_nil)))
    (pss_cons (ps_if (pt_not (pt_val (pe_cl CF hr (pa_cons (pv 1) pa_nil)))) pss_nv pss_nil)
    (pss_one (ps_ret (pe_cl CL hr (pa_cons (pv 0) (pa_cons ((pe_ix ix_tup (pv 1) pe_int (fun _ _ => rfl))) (pa_cons (pe_tup (pa_cons ((pe_ix ix_tup (pv 1) pe_int (fun _ _ => rfl))) pa_nil)) pa_nil))))))), ?_⟩
  refine ⟨_, rfl, (sh, x, y), rfl, hs, ?_⟩
  rintro _ _ - rfl
  refine ⟨_, rfl, (p, a, d), rfl, ⟨hp, hd, ?_⟩, ?_⟩
  · rw [gcdL2] at hg
    rw [Nat.gcd_comm]
    exact hg
  rintro _ H1 s1 rfl
  have h1 := s1 _ _ hp0
  refine ⟨_, rfl, iteF ?_⟩
  refine ⟨_, rfl, _, rfl, p, _, _, .int d, rfl, rfl, SqT.of h1, atI_nat (j := 1) rfl, _, rfl, p, _, _, .int a, rfl, rfl, SqT.of h1, atI_nat (j := 0) rfl, (by show 1 ≤ sizeLine; decide), fun u hu => ?_⟩
  have s2 := Same.new (o := .tup [.int a]) s1 hu
  refine ⟨(sh, x, y, d, u, a), rfl, ⟨hs.same s2, .inl upd_same, by show d ≠ 0; omega, sm_le bd (by decide)⟩, ?_⟩
  rintro _ H3 s3 ⟨r, rfl, hr3⟩
  exact k _ _ (s2.trans s3) ⟨r, rfl, hr3⟩
theorem s67 : FnScope ["shape"] ["shape"] (defScope (top 67)) := (⟨rfl, rfl, rfl, by decide +kernel, rfl, by decide +kernel, by decide +kernel⟩)
abbrev spRoot (C : Addr) : Sp := Prm (α := Addr × Int × Int) (fun a => [.ref a.1]) (fun a H => Shp C H a.1 a.2.1 a.2.2) (fun a H v H' => ∃ q, v = .ref q ∧ TI H' q (low a.2.2 (-a.2.1)))
theorem c_root (D : Df K mg "root" (top 67)) (CK : Cal P w K mg base 1 "check_shape" ["value"] (spChk C)) (CF : Cal P w K mg base 4 "folded" ["shape", "bottom", "terms"] (spFoldB C)) : Cal P w K mg base 5 "root" ["shape"] (spRoot C) := by
  refine mkC D s67 (fun _ _ _ _ _ _ us hl => match us, hl with | [_], _ => rfl) (fun _ => rfl) (fun f cdv A outer s H a Q E hr h k => ?_)
  obtain ⟨sh, x, y⟩ := a
  have hs : Shp C H sh x y := h
  refine ⟨_, pss_cons (ps_expr (pe_cl CK hr (pa_cons (pv 0) pa_nil)))
    (pss_one (ps_ret (pe_cl CF hr (pa_cons (pv 0) (pa_cons pe_int (pa_cons (pe_tup (pa_cons pe_int (pa_cons pe_int pa_nil))) pa_nil)))))), ?_⟩
  refine ⟨_, rfl, (sh, x, y), rfl, hs, ?_⟩
  rintro _ _ - rfl
  refine ⟨_, rfl, by decide, fun u hu => ?_⟩
  have s2 := same_new (o := .tup [.int 0, .int 1]) hu
  refine ⟨(sh, x, y, u), rfl, ⟨hs.same s2, upd_same⟩, ?_⟩
  rintro _ H3 s3 ⟨r, rfl, hr3⟩
  exact k _ _ (s2.trans s3) ⟨r, rfl, hr3⟩
/-- two numbers of a shape -/
abbrev A2 := Addr × Int × Int × Addr × Int × Int × Addr × Int × Int
abbrev args2 : A2 → List V := fun ⟨sh, x, y, p, d, a, q, e, b⟩ => [.ref sh, .ref p, .ref q]
abbrev preN2 (C : Addr) : A2 → Hp → Prop := fun ⟨sh, x, y, p, d, a, q, e, b⟩ H => Shp C H sh x y ∧ Num H p d a ∧ Num H q e b ∧ Sm 150 d ∧ Sm 150 a ∧ Sm 150 e ∧ Sm 150 b
theorem pos_mul {d e : Int} (h : 1 ≤ d) (h2 : 1 ≤ e) : d * e ≠ 0 := by
  have := Int.mul_pos (show 0 < d by omega) (show 0 < e by omega)
  omega
theorem s68 : FnScope ["shape", "first", "second"] ["shape", "first", "second"] (defScope (top 68)) := (⟨rfl, rfl, rfl, by decide +kernel, rfl, by decide +kernel, by decide +kernel⟩)
abbrev spTotal (C : Addr) : Sp := Prm (α := A2) args2 (preN2 C) (fun ⟨sh, x, y, p, d, a, q, e, b⟩ H v H' => ∃ r, v = .ref r ∧ TI H' r (low (d * e) (a * e + b * d)))
theorem c_total (D : Df K mg "total" (top 68)) (CK : Cal P w K mg base 1 "check_shape" ["value"] (spChk C)) (CN : Cal P w K mg base 4 "check_number" ["shape", "value"] (spChkN C)) (CL : Cal P w K mg base 3 "lowest" ["shape", "bottom", "terms"] (spLow C)) (CC : Cal P w K mg base 2 "combined" ["factor", "one", "weight", "other", "shift"] spComb11) :
    Cal P w K mg base 5 "total" ["shape", "first", "second"] (spTotal C) := by
  refine mkC D s68 (fun _ _ _ _ _ _ us hl => match us, hl with | [_, _, _], _ => rfl) (fun _ => rfl) (fun f cdv A outer s H a Q E hr h k => ?_)
  obtain ⟨sh, x, y, p, d, a, q, e, b⟩ := a
  obtain ⟨hs, hp, hq, bd, ba, be, bb⟩ := h
  have hp0 : H p = some (.tup [.int d, .int a]) := hp.at_
  have hq0 : H q = some (.tup [.int e, .int b]) := hq.at_
  refine ⟨_, pss_cons (ps_expr (pe_cl CK hr (pa_cons (pv 0) pa_nil)))
    (pss_cons (ps_expr (pe_cl CN hr (pa_cons (pv 0) (pa_cons (pv 1) pa_nil))))
    (pss_cons (ps_expr (pe_cl CN hr (pa_cons (pv 0) (pa_cons (pv 2) pa_nil))))
    (pss_one (ps_ret (pe_cl CL hr (pa_cons (pv 0) (pa_cons (pe_op op_mulW ((pe_ix ix_tup (pv 1) pe_int (fun _ _ => rfl))) ((pe_ix ix_tup (pv 2) pe_int (fun _ _ => rfl)))) (pa_cons (pe_cl CC hr (pa_cons ((pe_ix ix_tup (pv 2) pe_int (fun _ _ => rfl))) (pa_cons (pe_slice sl_tupA (pv 1) (po_some pe_int) po_none) (pa_cons (pe_un un_neg ((pe_ix ix_tup (pv 1) pe_int (fun _ _ => rfl)))) (pa_cons (pe_slice sl_tupA (pv 2) (po_some pe_int) po_none) (pa_cons pe_int pa_nil)))))) pa_nil)))))))), ?_⟩
  refine ⟨_, rfl, (sh, x, y), rfl, hs, ?_⟩
  rintro _ _ - rfl
  refine ⟨_, rfl, _, rfl, (sh, x, y, p, d, a), rfl, ⟨hs, hp⟩, ?_⟩
  rintro _ H1 s1 -
  refine ⟨_, rfl, _, rfl, (sh, x, y, q, e, b), rfl, ⟨hs.same s1, hq.same s1⟩, ?_⟩
  rintro _ H2 s2 -
  have t2 := s1.trans s2
  have hp2 := t2 _ _ hp0
  have hq2 := t2 _ _ hq0
  refine ⟨_, rfl, _, rfl, p, _, _, .int d, rfl, rfl, SqT.of hp2, atI_nat (j := 0) rfl, _, rfl, q, _, _, .int e, rfl, rfl, SqT.of hq2, atI_nat (j := 0) rfl, _, _, rfl, rfl, cm bd be, ?_⟩
  refine ⟨_, rfl, q, _, _, .int e, rfl, rfl, SqT.of hq2, atI_nat (j := 0) rfl, ?_⟩
  refine ⟨_, rfl, _, rfl, p, _, rfl, SqT.of hp2, (fun z => absurd (show HT.sIx 2 0 (some 1) = 0 from z.1) (by decide)), fun _ u hu => ?_⟩
  have t3 := Same.new (o := .tup [.int a]) t2 hu
  have n3 := same_new (o := .tup [.int a]) hu
  refine ⟨_, rfl, p, _, _, .int d, rfl, rfl, SqT.of (t3 _ _ hp0), atI_nat (j := 0) rfl, _, rfl, ?_⟩
  refine ⟨_, rfl, _, rfl, q, _, rfl, SqT.of (t3 _ _ hq0), (fun z => absurd (show HT.sIx 2 0 (some 1) = 0 from z.1) (by decide)), fun _ u2 hu2 => ?_⟩
  have t4 := Same.new (o := .tup [.int b]) t3 hu2
  have n4 := same_new (o := .tup [.int b]) hu2
  refine ⟨(e, u, -d, u2, a, b), rfl, ⟨n4 u (.tup [.int a]) upd_same, upd_same, sm_le be (by decide), sm_le (sm_neg bd) (by decide), sm_le ba (by decide), sm_le bb (by decide)⟩, ?_⟩
  rintro _ H5 s5 ⟨r, rfl, hr5⟩
  have t5 := t4.trans s5
  have ee : e * a - -d * b = a * e + b * d := by
    rw [Int.neg_mul, Int.sub_neg, Int.mul_comm e a, Int.mul_comm d b]
  have hr6 : TI H5 r (tr1 (a * e + b * d)) := by
    rw [← ee, ← trim_1]
    exact hr5
  refine ⟨(sh, x, y, d * e, r, a * e + b * d), rfl, ⟨hs.same t5, .inr hr6, pos_mul hp.pos hq.pos, sm_le (sm_mul bd be) (by decide)⟩, ?_⟩
  rintro _ H6 s6 ⟨r2, rfl, hr7⟩
  exact k _ _ (t5.trans s6) ⟨r2, rfl, hr7⟩
theorem s69 : FnScope ["shape", "first", "second"] ["shape", "first", "second"] (defScope (top 69)) := (⟨rfl, rfl, rfl, by decide +kernel, rfl, by decide +kernel, by decide +kernel⟩)
abbrev spProd (C : Addr) : Sp := Prm (α := A2) args2 (preN2 C) (fun ⟨sh, x, y, p, d, a, q, e, b⟩ H v H' => ∃ r, v = .ref r ∧ TI H' r (low (d * e) (a * b)))
theorem c_prod (D : Df K mg "product" (top 69)) (CK : Cal P w K mg base 1 "check_shape" ["value"] (spChk C)) (CN : Cal P w K mg base 4 "check_number" ["shape", "value"] (spChkN C)) (CF : Cal P w K mg base 4 "folded" ["shape", "bottom", "terms"] (spFoldA C)) (CM : Cal P w K mg base 2 "multiplied" ["one", "other"] spMul) :
    Cal P w K mg base 5 "product" ["shape", "first", "second"] (spProd C) := by
  refine mkC D s69 (fun _ _ _ _ _ _ us hl => match us, hl with | [_, _, _], _ => rfl) (fun _ => rfl) (fun f cdv A outer s H a Q E hr h k => ?_)
  obtain ⟨sh, x, y, p, d, a, q, e, b⟩ := a
  obtain ⟨hs, hp, hq, bd, ba, be, bb⟩ := h
  have hp0 : H p = some (.tup [.int d, .int a]) := hp.at_
  have hq0 : H q = some (.tup [.int e, .int b]) := hq.at_
  refine ⟨_, pss_cons (ps_expr (pe_cl CK hr (pa_cons (pv 0) pa_nil)))
    (pss_cons (ps_expr (pe_cl CN hr (pa_cons (pv 0) (pa_cons (pv 1) pa_nil))))
    (pss_cons (ps_expr (pe_cl CN hr (pa_cons (pv 0) (pa_cons (pv 2) pa_nil))))
    (pss_one (ps_ret (pe_cl CF hr (pa_cons (pv 0) (pa_cons (pe_op op_mulW ((pe_ix ix_tup (pv 1) pe_int (fun _ _ => rfl))) ((pe_ix ix_tup (pv 2) pe_int (fun _ _ => rfl)))) (pa_cons (pe_cl CM hr (pa_cons (pe_slice sl_tupA (pv 1) (po_some pe_int) po_none) (pa_cons (pe_slice sl_tupA (pv 2) (po_some pe_int) po_none) pa_nil))) pa_nil)))))))), ?_⟩
  refine ⟨_, rfl, (sh, x, y), rfl, hs, ?_⟩
  rintro _ _ - rfl
  refine ⟨_, rfl, _, rfl, (sh, x, y, p, d, a), rfl, ⟨hs, hp⟩, ?_⟩
  rintro _ H1 s1 -
  refine ⟨_, rfl, _, rfl, (sh, x, y, q, e, b), rfl, ⟨hs.same s1, hq.same s1⟩, ?_⟩
  rintro _ H2 s2 -
  have t2 := s1.trans s2
  have hp2 := t2 _ _ hp0
  have hq2 := t2 _ _ hq0
  refine ⟨_, rfl, _, rfl, p, _, _, .int d, rfl, rfl, SqT.of hp2, atI_nat (j := 0) rfl, _, rfl, q, _, _, .int e, rfl, rfl, SqT.of hq2, atI_nat (j := 0) rfl, _, _, rfl, rfl, cm bd be, ?_⟩
  refine ⟨_, rfl, _, rfl, p, _, rfl, SqT.of hp2, (fun z => absurd (show HT.sIx 2 0 (some 1) = 0 from z.1) (by decide)), fun _ u hu => ?_⟩
  have t3 := Same.new (o := .tup [.int a]) t2 hu
  refine ⟨_, rfl, _, rfl, q, _, rfl, SqT.of (t3 _ _ hq0), (fun z => absurd (show HT.sIx 2 0 (some 1) = 0 from z.1) (by decide)), fun _ u2 hu2 => ?_⟩
  have t4 := Same.new (o := .tup [.int b]) t3 hu2
  have n4 := same_new (o := .tup [.int b]) hu2
  refine ⟨(u, u2, some a, b), rfl, ⟨n4 u (.tup [.int a]) upd_same, upd_same, fun z hz => ?_, sm_le bb (by decide)⟩, ?_⟩
  · cases hz
    exact sm_le ba (by decide)
  rintro _ H5 s5 ⟨r, rfl, hr5⟩
  have t5 := t4.trans s5
  refine ⟨(sh, x, y, d * e, r, a * b), rfl, ⟨hs.same t5, hr5, pos_mul hp.pos hq.pos, sm_le (sm_mul bd be) (by decide)⟩, ?_⟩
  rintro _ H6 s6 ⟨r2, rfl, hr7⟩
  exact k _ _ (t5.trans s6) ⟨r2, rfl, hr7⟩
theorem s70 : FnScope ["shape", "first", "second", "divisor", "terms", "bottom"] ["shape", "first", "second"] (defScope (top 70)) := (⟨rfl, rfl, rfl, by decide +kernel, rfl, by decide +kernel, by decide +kernel⟩)
abbrev spQuot (C : Addr) : Sp := Prm (α := A2) args2 (fun a H => preN2 C a H ∧ a.2.2.2.2.2.2.2.2 ≠ 0) (fun ⟨sh, x, y, p, d, a, q, e, b⟩ H v H' => ∃ r, v = .ref r ∧ TI H' r (low (d * b) (a * e)))
theorem c_quot (D : Df K mg "quotient" (top 70)) (S : ShC K mg C) (CK : Cal P w K mg base 1 "check_shape" ["value"] (spChk C)) (CN : Cal P w K mg base 4 "check_number" ["shape", "value"] (spChkN C)) (CF : Cal P w K mg base 4 "folded" ["shape", "bottom", "terms"] (spFoldA C)) (CM : Cal P w K mg base 2 "multiplied" ["one", "other"] spMul)
    (CT : Cal P w K mg base 1 "trimmed" ["terms"] spTrim) (CR : Cal P w K mg base 1 "reciprocal" ["equation", "divisor"] spRec) : Cal P w K mg base 5 "quotient" ["shape", "first", "second"] (spQuot C) := by
  refine mkC D s70 (fun _ _ _ _ _ _ us hl => match us, hl with | [_, _, _], _ => rfl) (fun _ => rfl) (fun f cdv A outer s H a Q E hr h k => ?_)
  obtain ⟨sh, x, y, p, d, a, q, e, b⟩ := a
  obtain ⟨⟨hs, hp, hq, bd, ba, be, bb⟩, b0⟩ := h
  have b0 : b ≠ 0 := b0
  have hp0 : H p = some (.tup [.int d, .int a]) := hp.at_
  have hq0 : H q = some (.tup [.int e, .int b]) := hq.at_
  have hu : (A.deeper (envOfC "quotient" (defScope (top 70)) s.heap.objs.size f cdv)).units + 64 < cLine := by have := hr.un; omega
  refine ⟨_, pss_cons (ps_expr (pe_cl CK hr (pa_cons (pv 0) pa_nil)))
    (pss_cons (ps_expr (pe_cl CN hr (pa_cons (pv 0) (pa_cons (pv 1) pa_nil))))
    (pss_cons (ps_expr (pe_cl CN hr (pa_cons (pv 0) (pa_cons (pv 2) pa_nil))))
    (pss_cons ((ps_set (i := 3) (FnScope.nd s70) rfl (Or.inl rfl) (pe_cl CT hr (pa_cons (pe_slice sl_tupA (pv 2) (po_some pe_int) po_none) pa_nil))))
    (pss_cons (ps_if (pt_cmpR (op_eqD hu) (pv 3) (pe_tup pa_nil) (nomark _)) pss_nv pss_nil)
    (pss_cons (ps_asg (pe_cl CR hr (pa_cons (pe_eqn (j := 0) S (pv 0) (hr.mono (by decide))) (pa_cons (pv 3) pa_nil))) (pg_tup rfl (pgs_cons ((pg_name (i := 4) (FnScope.nd s70) rfl (Or.inl rfl))) (pgs_cons ((pg_name (i := 5) (FnScope.nd s70) rfl (Or.inl rfl))) pgs_nil))))
    (pss_cons ((ps_set (i := 4) (FnScope.nd s70) rfl (Or.inl rfl) (pe_cl CM hr (pa_cons (pe_cl CM hr (pa_cons (pe_slice sl_tupA (pv 1) (po_some pe_int) po_none) (pa_cons (pv 4) pa_nil))) (pa_cons (pe_tup (pa_cons ((pe_ix ix_tup (pv 2) pe_int (fun _ _ => rfl))) pa_nil)) pa_nil)))))
    (pss_one (ps_ret (pe_cl CF hr (pa_cons (pv 0) (pa_cons (pe_op op_mulW ((pe_ix ix_tup (pv 1) pe_int (fun _ _ => rfl))) (pv 5)) (pa_cons (pv 4) pa_nil)))))))))))), ?_⟩
  refine ⟨_, rfl, (sh, x, y), rfl, hs, ?_⟩
  rintro _ _ - rfl
  refine ⟨_, rfl, _, rfl, (sh, x, y, p, d, a), rfl, ⟨hs, hp⟩, ?_⟩
  rintro _ H1 s1 -
  refine ⟨_, rfl, _, rfl, (sh, x, y, q, e, b), rfl, ⟨hs.same s1, hq.same s1⟩, ?_⟩
  rintro _ H2 s2 -
  have t2 := s1.trans s2
  have hp2 := t2 _ _ hp0
  have hq2 := t2 _ _ hq0
  refine ⟨_, rfl, _, rfl, q, _, rfl, SqT.of hq2, (fun z => absurd (show HT.sIx 2 0 (some 1) = 0 from z.1) (by decide)), fun _ u hu1 => ?_⟩
  have t3 := Same.new (o := .tup [.int b]) t2 hu1
  refine ⟨(u, [b]), rfl, .inr upd_same, ?_⟩
  rintro _ H4 s4 ⟨v, rfl, hv⟩
  have t4 := t3.trans s4
  have hv4 : TI H4 v [b] := by
    have e1 : trimI [b] = [b] := by
      rw [trim_1]
      unfold tr1
      rw [if_neg b0]
    rw [← e1]
    exact hv
  have hv40 : H4 v = some (.tup [.int b]) := hv4
  refine ⟨_, rfl, by decide, fun z hz => ?_⟩
  have t5 := Same.new (o := .tup []) t4 hz
  have n5 := same_new (o := .tup []) hz
  refine ⟨.tuple [.int b], .tuple [], .tup (SqT.of (n5 _ _ hv40)) (.cons (.int b) .nil), .tup (SqT.of upd_same) .nil, rfl, rfl, _, rfl, iteF ?_⟩
  have hs5 := hs.same t5
  obtain ⟨dx, eq, tx, z1, z2, z3⟩ := (show Shp C _ sh x y from hs5)
  refine ⟨_, rfl, sh, dx, _, rfl, z1, sh, x, y, rfl, hs5, fun q2 hq2e => ?_⟩
  refine ⟨_, rfl, (q2, v, b), rfl, n5 _ _ hv40, ?_⟩
  rintro _ H6 s6 ⟨r, w1, rfl, hr6, hw6⟩
  have hr6 : H6 r = some (.tup [.ref w1, .int b]) := hr6
  have t6 := t5.trans s6
  refine ⟨r, _, rfl, SqT.of hr6, rfl, _, _, rfl, _, _, rfl, rfl, ?_⟩
  refine ⟨_, rfl, _, rfl, p, _, rfl, SqT.of (t6 _ _ hp0), (fun z => absurd (show HT.sIx 2 0 (some 1) = 0 from z.1) (by decide)), fun _ u3 hu3 => ?_⟩
  have t7 := Same.new (o := .tup [.int a]) t6 hu3
  have n7 := same_new (o := .tup [.int a]) hu3
  refine ⟨_, rfl, (u3, w1, some a, 1), rfl, ⟨upd_same, n7 _ _ hw6, fun z hz => ?_, sm_one (by decide)⟩, ?_⟩
  · cases hz
    exact sm_le ba (by decide)
  rintro _ H8 s8 ⟨m1, rfl, hm1⟩
  have hm1 : TI H8 m1 (tr1 (a * 1)) := hm1
  rw [Int.mul_one] at hm1
  have t8 := t7.trans s8
  refine ⟨_, rfl, q, _, _, .int e, rfl, rfl, SqT.of (t8 _ _ hq0), atI_nat (j := 0) rfl, (by show 1 ≤ sizeLine; decide), fun u4 hu4 => ?_⟩
  have t9 := Same.new (o := .tup [.int e]) t8 hu4
  have n9 := same_new (o := .tup [.int e]) hu4
  have oa : TI H8 m1 ((if a = 0 then none else some a : Option Int).toList) := by
    unfold tr1 at hm1
    by_cases ha : a = 0
    · rw [if_pos ha] at hm1 ⊢
      exact hm1
    · rw [if_neg ha] at hm1 ⊢
      exact hm1
  refine ⟨(m1, u4, (if a = 0 then none else some a), e), rfl, ⟨n9 _ _ oa, upd_same, fun z hz => ?_, sm_le be (by decide)⟩, ?_⟩
  · have hz : z ∈ (if a = 0 then none else some a : Option Int) := hz
    by_cases ha : a = 0
    · rw [if_pos ha] at hz
      cases hz
    · rw [if_neg ha] at hz
      cases hz
      exact sm_le ba (by decide)
  rintro _ H10 s10 ⟨m2, rfl, hm2⟩
  have t10 := t9.trans s10
  have hm3 : TI H10 m2 (tr1 (a * e)) := by
    by_cases ha : a = 0
    · have hm2 : TI H10 m2 (match (if a = 0 then none else some a : Option Int) with | some x => tr1 (x * e) | none => []) := hm2
      rw [if_pos ha] at hm2
      unfold tr1
      rw [if_pos (by rw [ha, Int.zero_mul])]
      exact hm2
    · have hm2 : TI H10 m2 (match (if a = 0 then none else some a : Option Int) with | some x => tr1 (x * e) | none => []) := hm2
      rw [if_neg ha] at hm2
      exact hm2
  refine ⟨_, rfl, _, rfl, p, _, _, .int d, rfl, rfl, SqT.of (t10 _ _ hp0), atI_nat (j := 0) rfl, _, rfl, _, _, rfl, rfl, cm bd bb, ?_⟩
  have db : d * b ≠ 0 := by
    intro z
    rcases Int.mul_eq_zero.mp z with z | z
    · have := hp.pos
      omega
    · exact b0 z
  refine ⟨_, rfl, (sh, x, y, d * b, m2, a * e), rfl, ⟨hs.same t10, hm3, db, sm_le (sm_mul bd bb) (by decide)⟩, ?_⟩
  rintro _ H11 s11 ⟨r2, rfl, hr11⟩
  exact k _ _ (t10.trans s11) ⟨r2, rfl, hr11⟩
/-- one number of a shape -/
abbrev A1 := Addr × Int × Int × Addr × Int × Int
theorem s71 : FnScope ["shape", "number"] ["shape", "number"] (defScope (top 71)) := (⟨rfl, rfl, rfl, by decide +kernel, rfl, by decide +kernel, by decide +kernel⟩)
abbrev spOpp (C : Addr) : Sp := Prm (α := A1) (fun ⟨sh, x, y, p, d, a⟩ => [.ref sh, .ref p]) (fun ⟨sh, x, y, p, d, a⟩ H => Shp C H sh x y ∧ Num H p d a) (fun ⟨sh, x, y, p, d, a⟩ H v H' => ∃ r, v = .ref r ∧ TI H' r [d, -a])
theorem c_opp (D : Df K mg "opposite" (top 71)) (CK : Cal P w K mg base 1 "check_shape" ["value"] (spChk C)) (CN : Cal P w K mg base 4 "check_number" ["shape", "value"] (spChkN C)) (CG : Cal P w K mg base 1 "negative" ["terms"] spNeg) : Cal P w K mg base 5 "opposite" ["shape", "number"] (spOpp C) := by
  refine mkC D s71 (fun _ _ _ _ _ _ us hl => match us, hl with | [_, _], _ => rfl) (fun _ => rfl) (fun f cdv A outer s H a Q E hr h k => ?_)
  obtain ⟨sh, x, y, p, d, a⟩ := a
  obtain ⟨hs, hp⟩ := h
  have hp0 : H p = some (.tup [.int d, .int a]) := hp.at_
  refine ⟨_, pss_cons (ps_expr (pe_cl CK hr (pa_cons (pv 0) pa_nil)))
    (pss_cons (ps_expr (pe_cl CN hr (pa_cons (pv 0) (pa_cons (pv 1) pa_nil))))
    (pss_one (ps_ret (pe_op op_catT (pe_tup (pa_cons ((pe_ix ix_tup (pv 1) pe_int (fun _ _ => rfl))) pa_nil)) (pe_cl CG hr (pa_cons (pe_slice sl_tupA (pv 1) (po_some pe_int) po_none) pa_nil)))))), ?_⟩
  refine ⟨_, rfl, (sh, x, y), rfl, hs, ?_⟩
  rintro _ _ - rfl
  refine ⟨_, rfl, _, rfl, (sh, x, y, p, d, a), rfl, ⟨hs, hp⟩, ?_⟩
  rintro _ H1 s1 -
  have hp1 := s1 _ _ hp0
  refine ⟨_, rfl, p, _, _, .int d, rfl, rfl, SqT.of hp1, atI_nat (j := 0) rfl, (by show 1 ≤ sizeLine; decide), fun u hu => ?_⟩
  have t2 := Same.new (o := .tup [.int d]) s1 hu
  refine ⟨_, rfl, _, rfl, p, _, rfl, SqT.of (t2 _ _ hp0), (fun z => absurd (show HT.sIx 2 0 (some 1) = 0 from z.1) (by decide)), fun _ u2 hu2 => ?_⟩
  have t3 := Same.new (o := .tup [.int a]) t2 hu2
  have n3 := same_new (o := .tup [.int a]) hu2
  refine ⟨(u2, [a]), rfl, ⟨upd_same, by show 1 ≤ 1; decide⟩, ?_⟩
  rintro _ H4 s4 ⟨g, rfl, hg⟩
  have hg : H4 g = some (.tup [.int (-a)]) := hg
  refine ⟨u, g, [.int d], [.int (-a)], rfl, rfl, SqT.of ((n3.trans s4) u _ upd_same), SqT.of hg, by simp, (by show 2 ≤ sizeLine; decide), fun z => absurd z (by simp), fun _ r hr5 => ?_⟩
  exact k _ _ (t3.trans (Same.new s4 hr5)) ⟨r, rfl, upd_same⟩
theorem s72 : FnScope ["shape", "number", "bits", "low", "high"] ["shape", "number"] (defScope (top 72)) := (⟨rfl, rfl, rfl, by decide +kernel, rfl, by decide +kernel, by decide +kernel⟩)
def sgn (a : Int) : Int := if a = 0 then 0 else if 0 < a then 1 else -1
abbrev spSign (C : Addr) : Sp := Prm (α := A1) (fun ⟨sh, x, y, p, d, a⟩ => [.ref sh, .ref p]) (fun ⟨sh, x, y, p, d, a⟩ H => Shp C H sh x y ∧ Num H p d a) (fun ⟨sh, x, y, p, d, a⟩ H v H' => v = .int (sgn a))
theorem c_sign (D : Df K mg "sign" (top 72)) (B : Bl mg) (S : ShC K mg C) (CK : Cal P w K mg base 1 "check_shape" ["value"] (spChk C)) (CN : Cal P w K mg base 4 "check_number" ["shape", "value"] (spChkN C)) (CT : Cal P w K mg base 1 "trimmed" ["terms"] spTrim) (CE : Cal P w K mg base 2 "ends" ["number", "near", "bits"] spEnds) :
    Cal P w K mg base 5 "sign" ["shape", "number"] (spSign C) := by
  refine mkC D s72 (fun _ _ _ _ _ _ us hl => match us, hl with | [_, _], _ => rfl) (fun _ => rfl) (fun f cdv A outer s H a Q E hr h k => ?_)
  obtain ⟨sh, x, y, p, d, a⟩ := a
  obtain ⟨hs, hp⟩ := h
  have hp0 : H p = some (.tup [.int d, .int a]) := hp.at_
  have hu : (A.deeper (envOfC "sign" (defScope (top 72)) s.heap.objs.size f cdv)).units + 64 < cLine := by have := hr.un; omega
  obtain ⟨tb, htb⟩ := B.bits_
  refine ⟨_, pss_cons (ps_expr (pe_cl CK hr (pa_cons (pv 0) pa_nil)))
    (pss_cons (ps_expr (pe_cl CN hr (pa_cons (pv 0) (pa_cons (pv 1) pa_nil))))
    (pss_cons (ps_if (pt_cmpR (op_eqD hu) (pe_cl CT hr (pa_cons (pe_slice sl_tupA (pv 1) (po_some pe_int) po_none) pa_nil)) (pe_tup pa_nil) (nomark _)) (pss_one (ps_ret pe_int)) pss_nil)
    (pss_cons ((ps_set (i := 2) (FnScope.nd s72) rfl (Or.inl rfl) (pe_glob (v := .int 64) (by rfl) htb ⟨_, rfl⟩)))
    (pss_cons (ps_asg (pe_cl CE hr (pa_cons (pv 1) (pa_cons (pe_flo (j := 0) S (pv 0) (pv 2) (hr.mono (by decide))) (pa_cons (pv 2) pa_nil)))) (pg_tup rfl (pgs_cons ((pg_name (i := 3) (FnScope.nd s72) rfl (Or.inl rfl))) (pgs_cons ((pg_name (i := 4) (FnScope.nd s72) rfl (Or.inl rfl))) pgs_nil))))
    (pss_cons (ps_whU PassesOwn.never (pt_chain op_le op_le (pv 3) pe_int (pv 4)) pss_nv)
    (pss_one (ps_ret (pe_ifExp ((pt_cmpR op_gt (pv 3) pe_int (nomark _))) pe_int (pe_un un_neg pe_int))))))))), ?_⟩
  refine ⟨_, rfl, (sh, x, y), rfl, hs, ?_⟩
  rintro _ _ - rfl
  refine ⟨_, rfl, _, rfl, (sh, x, y, p, d, a), rfl, ⟨hs, hp⟩, ?_⟩
  rintro _ H1 s1 -
  have hp1 := s1 _ _ hp0
  refine ⟨_, rfl, _, rfl, p, _, rfl, SqT.of hp1, (fun z => absurd (show HT.sIx 2 0 (some 1) = 0 from z.1) (by decide)), fun _ u hu1 => ?_⟩
  have t2 := Same.new (o := .tup [.int a]) s1 hu1
  refine ⟨(u, [a]), rfl, .inr upd_same, ?_⟩
  rintro _ H3 s3 ⟨v, rfl, hv⟩
  have hv : TI H3 v (trimI [a]) := hv
  rw [trim_1] at hv
  have t3 := t2.trans s3
  refine ⟨by decide, fun z hz => ?_⟩
  have t4 := Same.new (o := .tup []) t3 hz
  have n4 := same_new (o := .tup []) hz
  by_cases ha : a = 0
  · have hv2 : H3 v = some (.tup []) := by
      unfold tr1 at hv
      rw [if_pos ha] at hv
      exact hv
    refine ⟨.tuple [], .tuple [], .tup (SqT.of (n4 _ _ hv2)) .nil, .tup (SqT.of upd_same) .nil, rfl, rfl, _, rfl, iteT (k _ _ t4 ?_)⟩
    show V.int 0 = .int (sgn a)
    unfold sgn
    rw [if_pos ha]
  · have hv2 : H3 v = some (.tup [.int a]) := by
      unfold tr1 at hv
      rw [if_neg ha] at hv
      exact hv
    refine ⟨.tuple [.int a], .tuple [], .tup (SqT.of (n4 _ _ hv2)) (.cons (.int a) .nil), .tup (SqT.of upd_same) .nil, rfl, rfl, _, rfl, iteF ?_⟩
    obtain ⟨dx4, q4, tx4, z14, z24, z34⟩ := (show Shp C _ sh x y from hs.same t4)
    refine ⟨_, rfl, _, rfl, sh, dx4, _, rfl, z14, rfl, _, rfl, sh, x, y, rfl, hs.same t4, fun vv => ⟨_, rfl, (p, d, a, vv), rfl, t4 _ _ hp0, ?_⟩⟩
    rintro _ H5 s5 ⟨r, rfl, hr5⟩
    have hr5 : H5 r = some (.tup [.int a, .int a]) := hr5
    have t5 := t4.trans s5
    refine ⟨r, _, rfl, SqT.of hr5, rfl, _, _, rfl, _, _, rfl, rfl, ?_⟩
    refine ⟨0, _, rfl, _, _, rfl, rfl, _, rfl, ?_⟩
    have fin : (tRet (tIf (tTest (tOp (rI0 fun i j => V.bl (decide (j < i))) (tVar 3) (tC (.int 0)))) (tC (.int 1)) (tUn (rU fun i => .int (-i)) (tC (.int 1))))) { nx := fun _ H' => Q .non H', rt := Q } [some (.ref sh), some (.ref p), some (.int 64), some (.int a), some (.int a)] H5 := by
      refine ⟨_, rfl, _, _, rfl, rfl, _, rfl, ?_⟩
      refine ite2 (fun hb => ?_) (fun hb => ?_)
      · refine k _ _ t5 ?_
        show V.int 1 = .int (sgn a)
        unfold sgn
        rw [if_neg ha, if_pos (show 0 < a from of_decide_eq_true hb)]
      · refine ⟨_, rfl, k _ _ t5 ?_⟩
        show V.int (-1) = .int (sgn a)
        unfold sgn
        rw [if_neg ha, if_neg (fun q => hb (decide_eq_true (show a > 0 from q)))]
    refine ite2 (fun hb => ?_) (fun hb => ?_)
    · have hle : a ≤ 0 := of_decide_eq_true hb
      refine ⟨_, rfl, _, _, rfl, rfl, _, rfl, ?_, fin⟩
      exact decide_eq_false (by omega)
    · exact ⟨_, rfl, rfl, fin⟩
theorem s73 : FnScope ["shape", "number", "scale", "bits", "low", "high", "bottom", "least"] ["shape", "number", "scale"] (defScope (top 73)) := (⟨rfl, rfl, rfl, by decide +kernel, rfl, by decide +kernel, by decide +kernel⟩)
abbrev spFloor (C : Addr) : Sp := Prm (α := A1 × Int) (fun ⟨⟨sh, x, y, p, d, a⟩, t⟩ => [.ref sh, .ref p, .int t]) (fun ⟨⟨sh, x, y, p, d, a⟩, t⟩ H => Shp C H sh x y ∧ Num H p d a ∧ 1 ≤ t ∧ t ≤ 10 ^ 40 ∧ Sm 150 d ∧ Sm 150 a) (fun ⟨⟨sh, x, y, p, d, a⟩, t⟩ H v H' => v = .int ((a * t).fdiv d))
theorem c_floor (D : Df K mg "floor_of" (top 73)) (B : Bl mg) (S : ShC K mg C) (CK : Cal P w K mg base 1 "check_shape" ["value"] (spChk C)) (CN : Cal P w K mg base 4 "check_number" ["shape", "value"] (spChkN C)) (CI : Cal P w K mg base 1 "is_integer" ["value"] spIsInt) (CE : Cal P w K mg base 2 "ends" ["number", "near", "bits"] spEnds) :
    Cal P w K mg base 5 "floor_of" ["shape", "number", "scale"] (spFloor C) := by
  refine mkC D s73 (fun _ _ _ _ _ _ us hl => match us, hl with | [_, _, _], _ => rfl) (fun _ => rfl) (fun f cdv A outer s H a Q E hr h k => ?_)
  obtain ⟨⟨sh, x, y, p, d, a⟩, t⟩ := a
  obtain ⟨hs, hp, t1, t40, bd, ba⟩ := h
  have hp0 : H p = some (.tup [.int d, .int a]) := hp.at_
  obtain ⟨tb, htb⟩ := B.bits_
  obtain ⟨tsc, hsc⟩ := B.scale_
  have bt : Sm 140 t := Nat.lt_of_le_of_lt (show t.natAbs ≤ 10 ^ 40 by omega) (by decide)
  refine ⟨_, pss_cons (ps_expr (pe_cl CK hr (pa_cons (pv 0) pa_nil)))
    (pss_cons (ps_expr (pe_cl CN hr (pa_cons (pv 0) (pa_cons (pv 1) pa_nil))))
    (pss_cons (ps_if (PW.pt (pw_or (pt_not (pt_val (pe_cl CI hr (pa_cons (pv 2) pa_nil)))) (pw_or1 (pt_not (pt_chain op_le op_le pe_int (pv 2) (pe_glob (v := .int (10 ^ 40)) (by rfl) hsc ⟨_, rfl⟩)))))) pss_nv pss_nil)
    (pss_cons ((ps_set (i := 3) (FnScope.nd s73) rfl (Or.inl rfl) (pe_glob (v := .int 64) (by rfl) htb ⟨_, rfl⟩)))
    (pss_one (ps_whU PassesOwn.never (pt_val pe_bl)
      (pss_cons (ps_asg (pe_cl CE hr (pa_cons (pv 1) (pa_cons (pe_flo (j := 0) S (pv 0) (pv 3) (hr.mono (by decide))) (pa_cons (pv 3) pa_nil)))) (pg_tup rfl (pgs_cons ((pg_name (i := 4) (FnScope.nd s73) rfl (Or.inl rfl))) (pgs_cons ((pg_name (i := 5) (FnScope.nd s73) rfl (Or.inl rfl))) pgs_nil))))
      (pss_cons ((ps_set (i := 6) (FnScope.nd s73) rfl (Or.inl rfl) (pe_op op_shlW ((pe_ix ix_tup (pv 1) pe_int (fun _ _ => rfl))) (pe_op op_mul (pv 3) (pe_op op_sub (pe_deg (j := 0) S B (pv 0) (hr.mono (by decide))) pe_int)))))
      (pss_cons ((ps_set (i := 7) (FnScope.nd s73) rfl (Or.inl rfl) (pe_op op_fdivX (pe_op op_mulW (pv 4) (pv 2)) (pv 6))))
      (pss_cons (ps_if ((pt_cmpR op_eq (pv 7) (pe_op op_fdivX (pe_op op_mulW (pv 5) (pv 2)) (pv 6)) (nomark _))) (pss_one (ps_ret (pv 7))) pss_nil)
      pss_nv))))))))), ?_⟩
  refine ⟨_, rfl, (sh, x, y), rfl, hs, ?_⟩
  rintro _ _ - rfl
  refine ⟨_, rfl, _, rfl, (sh, x, y, p, d, a), rfl, ⟨hs, hp⟩, ?_⟩
  rintro _ H1 s1 -
  refine ⟨_, rfl, t, rfl, trivial, ?_⟩
  rintro _ _ - ⟨rfl, rfl⟩
  refine ⟨_, rfl, iteF ⟨_, rfl, _, _, rfl, rfl, _, rfl, ?_⟩⟩
  rw [decide_eq_true (show 1 ≤ t from t1)]
  refine iteT ⟨_, _, rfl, rfl, _, rfl, ?_⟩
  rw [decide_eq_true (show t ≤ 10 ^ 40 from t40)]
  refine iteF ?_
  refine ⟨1, _, rfl, iteT ?_⟩
  obtain ⟨dx4, q4, tx4, z14, z24, z34⟩ := (show Shp C _ sh x y from hs.same s1)
  refine ⟨_, rfl, _, rfl, sh, dx4, _, rfl, z14, rfl, _, rfl, sh, x, y, rfl, hs.same s1, fun vv => ⟨_, rfl, (p, d, a, vv), rfl, TI.same s1 hp.at_, ?_⟩⟩
  rintro _ H2 s2 ⟨r, rfl, hr2⟩
  have hr2 : H2 r = some (.tup [.int a, .int a]) := hr2
  have t2 := s1.trans s2
  refine ⟨r, _, rfl, SqT.of hr2, rfl, _, _, rfl, _, _, rfl, rfl, ?_⟩
  obtain ⟨dx, eq, tx, z1, z2, z3⟩ := (show Shp C _ sh x y from hs.same t2)
  refine ⟨_, rfl, p, _, _, .int d, rfl, rfl, SqT.of (t2 _ _ hp0), atI_nat (j := 0) rfl, ?_⟩
  refine ⟨_, rfl, _, rfl, sh, dx, _, rfl, z1, sh, x, y, rfl, hs.same t2, _, _, rfl, rfl, _, _, rfl, rfl, .inl ⟨by decide, by decide⟩, ?_⟩
  have e64 : (64 * (1 - 1) : Int) = ((0 : Nat) : Int) := rfl
  refine ⟨_, _, rfl, rfl, (by show CShl d ((0 : Nat) : Int); exact shl_ok (n := 150) bd (by decide)), ?_⟩
  have e2 : d * 2 ^ (64 * (1 - 1) : Int).toNat = d := by
    show d * 2 ^ 0 = d
    rw [Int.pow_zero, Int.mul_one]
  have cdx : CDivX (a * t) (d * 2 ^ (64 * (1 - 1) : Int).toNat) := by
    rw [e2]
    exact ⟨by have := hp.pos; omega, Nat.lt_of_lt_of_le (PySem.Flt.log2_lt_of (show 0 < 150 by decide) bd) (by decide)⟩
  refine ⟨_, rfl, _, rfl, _, _, rfl, rfl, cm ba bt, _, rfl, _, _, rfl, rfl, cdx, ?_⟩
  refine ⟨_, rfl, _, rfl, _, rfl, _, _, rfl, rfl, cm ba bt, _, rfl, _, _, rfl, rfl, cdx, rfl, _, rfl, ?_⟩
  rw [decide_eq_true rfl]
  refine iteT ⟨_, rfl, k _ _ t2 ?_⟩
  show V.int ((a * t).fdiv (d * 2 ^ (64 * (1 - 1) : Int).toNat)) = .int ((a * t).fdiv d)
  rw [e2]
end
end Xq

/-! What the law draws. -/
namespace Xq
open PySem PySem.Spec PyProof.Rows L2
/-- all but r stays -/
def SameX (r : Addr) (H H' : Hp) : Prop := ∀ b o, b ≠ r → H b = some o → H' b = some o
theorem SameX.of {r : Addr} {H H' : Hp} (k : Same H H') : SameX r H H' := fun b o _ e => k b o e
theorem SameX.trans {r : Addr} {H H1 H2 : Hp} (a : SameX r H H1) (b : SameX r H1 H2) : SameX r H H2 := fun c o n e => b c o n (a c o n e)
theorem SameX.put {r : Addr} {H : Hp} {o : HO} : SameX r H (upd H r o) := fun b u n e => by
  rw [upd_ne n]
  exact e
def noR (r : Addr) (H : Hp) : Hp := fun b => if b = r then none else H b
theorem noR_ne {r b : Addr} {H : Hp} (h : b ≠ r) : noR r H b = H b := if_neg h
theorem noR_same (r : Addr) (H : Hp) : Same (noR r H) H := fun b o e => by
  by_cases h : b = r
  · rw [h] at e
    have e2 : noR r H r = none := if_pos rfl
    rw [e2] at e
    cases e
  · rw [noR_ne h] at e
    exact e
theorem noR_mono {r : Addr} {H H' : Hp} (k : SameX r H H') : Same (noR r H) (noR r H') := fun b o e => by
  have h : b ≠ r := fun q => by
    rw [q] at e
    have e2 : noR r H r = none := if_pos rfl
    rw [e2] at e
    cases e
  rw [noR_ne h] at e ⊢
  exact k b o h e
def rk (a b c : Int) : HO := .lst [.int a, .int b, .int c]
section
variable {P : Program} {w : World} {K : PySem.W.Frag} {mg : Str → Option Value} {base : Heap} {f : Addr} {fd : FuncData}
abbrev sRack : Stmt := top 81
abbrev nRack : List Str := ["_law_cells", "_law_at", "_law_own", "_law_mixed", "_law_k"]
theorem scRk : FnScope nRack ["_law_cells", "_law_at"] (defScope sRack) := ⟨rfl, rfl, rfl, by decide +kernel, rfl, by decide +kernel, by decide +kernel⟩
def spRack (K : PySem.W.Frag) : Sp := fun vs H Q _ => ∃ (a : Addr) (ns : List Int) (j : Nat), vs = [.ref a, .int (j : Int)] ∧ SqL K H a (ns.map V.int) ∧ ns.length ≤ 63 ∧
  ∀ p x y H', Same H H' → H p = none → H' p = some (rk x y 7) → Q (.ref p) H'
theorem ok_rack (F : Fun K "_law_rack" "_law_rack" sRack f fd) (B : Bl mg) : FnOk P w K mg base CX0 1 f fd ["_law_cells", "_law_at"] (spRack K) := by
  refine F.ok scRk (fun vs H Q E h => ?_) (fun cdv A outer s H vs Q E hr h => ?_)
  · obtain ⟨a, ns, j, rfl, _⟩ := h
    rfl
  · obtain ⟨a, ns, j, rfl, hS, hlen, k⟩ := h
    refine ⟨_, pss_cons (ps_par (i := 2) (j := 3) rfl scRk.nd rfl rfl (by decide) rfl rfl (pa_cons (pe_ifExp (pt_cmpR op_lt (pv 1) (pe_callB call_len_seq (by rfl) B.len_ PySem.boot_len (pa_cons (pv 0) pa_nil)) (nomark _))
            (pe_ix ix_list (pv 0) (pv 1) (fun _ _ => rfl)) pe_int) (pa_cons (pe_op op_add pe_int (pe_op op_mul pe_int (pv 1))) pa_nil)) rfl)
      (pss_cons (ps_for PassesOwn.never rfl (pi_range1 (by rfl) B.range_ (pa_cons (pe_callB (call_min2 rfl) (by rfl) B.min_ PyProof.Rows.boot_min (pa_cons (pe_callB call_len_seq (by rfl) B.len_ PySem.boot_len (pa_cons (pv 0) pa_nil)) (pa_cons pe_int pa_nil))) pa_nil))
          (pg_name (i := 4) scRk.nd rfl (Or.inl rfl))
          (pss_one (ps_set (i := 3) scRk.nd rfl (Or.inl rfl) (pe_op op_mod (pe_callTy call_int1 (by rfl) B.int_ (by decide +kernel) (pa_cons (pe_op op_mul (pe_op op_add (pe_op op_add (pv 3) (pe_op op_mul pe_int (pe_ix ix_list (pv 0) (pv 4) (fun _ _ => rfl)))) pe_int)
            (pe_op op_add pe_int (pe_op op_mul pe_int (pv 4)))) pa_nil)) pe_int))))
      (pss_one (ps_ret (pe_lst (pa_cons (pe_ifExp (PW.pt (pw_or (pt_cmpR op_lt (pv 2) pe_int (nomark _)) (pw_or1 (pt_cmpR op_ge (pv 2) (pe_op op_pow pe_int pe_int) (nomark _)))))
            (pe_callB call_abs (by rfl) B.abs_ PyProof.Rows.boot_abs (pa_cons (pv 2) pa_nil)) pe_int)
          (pa_cons (pe_op op_mod (pe_callTy call_int1 (by rfl) B.int_ (by decide +kernel) (pa_cons (pe_op op_add (pv 3) (pe_op op_mul (pv 2) pe_int)) pa_nil)) pe_int) (pa_cons pe_int pa_nil))))))), ?_⟩
    have e0 : L2.start nRack [V.ref a, V.int (j : Int)] = [some (.ref a), some (.int (j : Int)), none, none, none] := rfl
    rw [e0]
    have mn : -(2 ^ 62) ≤ (if (8 : Int) < (((ns.map V.int).length : Nat) : Int) then 8 else (((ns.map V.int).length : Nat) : Int)) ∧
        (if (8 : Int) < (((ns.map V.int).length : Nat) : Int) then 8 else (((ns.map V.int).length : Nat) : Int)) < 2 ^ 62 ∧
        (if (8 : Int) < (((ns.map V.int).length : Nat) : Int) then 8 else (((ns.map V.int).length : Nat) : Int)).toNat ≤ ns.length := by
      rw [List.length_map]
      refine ⟨?_, ?_, ?_⟩ <;> split <;> omega
    refine ⟨_, rfl, _, rfl, a, _, rfl, .inl hS, _, _, rfl, rfl, _, rfl, ?_⟩
    refine ite2 (fun hb => ?_) (fun hb => ?_)
    · have hj : j < ns.length := by
        have q := of_decide_eq_true hb
        rw [List.length_map] at q
        omega
      have hx : (ns.map V.int)[j]? = some (.int ns[j]) := by rw [List.getElem?_map, List.getElem?_eq_getElem hj]; rfl
      refine ⟨_, rfl, _, rfl, a, _, _, .int ns[j], rfl, rfl, hS, atI_nat hx, ?_⟩
      refine ⟨_, rfl, _, _, rfl, rfl, .inl ⟨by decide, by decide⟩, _, _, rfl, rfl, _, _, rfl, ?_⟩
      refine ⟨_, rfl, a, _, rfl, .inl hS, _, _, rfl, _, rfl, mn.1, mn.2.1, for_range (fun i σ H' => H' = H ∧ ∃ m z, σ = [some (.ref a), some (.int (j : Int)), some (.int ns[j]), some (.int m), z])
        ⟨rfl, _, _, rfl⟩ ?_ ?_⟩
      · rintro i σ H' hi ⟨rfl, m, z, rfl⟩
        have hi2 : i < ns.length := Nat.lt_of_lt_of_le hi mn.2.2
        have hx : (ns.map V.int)[i]? = some (.int ns[i]) := by rw [List.getElem?_map, List.getElem?_eq_getElem hi2]; rfl
        refine ⟨_, rfl, _, rfl, _, rfl, a, _, _, .int ns[i], rfl, rfl, hS, (by rw [Int.zero_add]; exact atI_nat hx), _, _, rfl, rfl, .inl ⟨by decide, by decide⟩, ?_⟩
        refine ⟨_, _, rfl, rfl, _, _, rfl, rfl, _, rfl, _, _, rfl, rfl, .inl ⟨by decide, by decide⟩, _, _, rfl, rfl, ?_⟩
        refine ⟨_, _, rfl, rfl, .inr ⟨by omega, by omega⟩, .inl ⟨_, rfl, ?_⟩⟩
        refine ⟨_, _, rfl, rfl, (by show (0 : Int) < 2147483353; decide), rfl, _, _, rfl⟩
      · rintro σ H' ⟨rfl, m, z, rfl⟩
        refine ⟨_, rfl, _, _, rfl, rfl, _, rfl, ?_⟩
        refine ite2 (fun hb => ?_) (fun hb => ?_)
        · refine ite2 (fun _ => ?_) (fun q => absurd rfl q)
          refine ⟨_, rfl, _, rfl, _, rfl, _, rfl, _, _, rfl, rfl, .inr ⟨by decide, by decide⟩, _, _, rfl, rfl, .inl ⟨_, rfl, ?_⟩⟩
          refine ⟨_, _, rfl, rfl, (by show (0 : Int) < 2147483353; decide), (by show 3 ≤ sizeLine; decide), fun p hp => ?_⟩
          exact k p _ _ _ (same_new hp) hp upd_same
        · refine ⟨_, rfl, 10, 18, rfl, rfl, ⟨by decide, by decide, by decide⟩, _, _, rfl, rfl, _, rfl, ?_⟩
          refine ite2 (fun hb => ?_) (fun hb => ?_)
          · refine ⟨_, rfl, _, rfl, _, rfl, _, rfl, _, _, rfl, rfl, .inr ⟨by decide, by decide⟩, _, _, rfl, rfl, .inl ⟨_, rfl, ?_⟩⟩
            refine ⟨_, _, rfl, rfl, (by show (0 : Int) < 2147483353; decide), (by show 3 ≤ sizeLine; decide), fun p hp => ?_⟩
            exact k p _ _ _ (same_new hp) hp upd_same
          · refine ⟨_, rfl, _, rfl, _, _, rfl, rfl, .inr ⟨by decide, by decide⟩, _, _, rfl, rfl, .inl ⟨_, rfl, ?_⟩⟩
            refine ⟨_, _, rfl, rfl, (by show (0 : Int) < 2147483353; decide), (by show 3 ≤ sizeLine; decide), fun p hp => ?_⟩
            exact k p _ _ _ (same_new hp) hp upd_same
    · refine ⟨_, rfl, _, _, rfl, rfl, .inl ⟨by decide, by decide⟩, _, _, rfl, rfl, _, _, rfl, ?_⟩
      refine ⟨_, rfl, a, _, rfl, .inl hS, _, _, rfl, _, rfl, mn.1, mn.2.1, for_range (fun i σ H' => H' = H ∧ ∃ m z, σ = [some (.ref a), some (.int (j : Int)), some (.int 0), some (.int m), z])
        ⟨rfl, _, _, rfl⟩ ?_ ?_⟩
      · rintro i σ H' hi ⟨rfl, m, z, rfl⟩
        have hi2 : i < ns.length := Nat.lt_of_lt_of_le hi mn.2.2
        have hx : (ns.map V.int)[i]? = some (.int ns[i]) := by rw [List.getElem?_map, List.getElem?_eq_getElem hi2]; rfl
        refine ⟨_, rfl, _, rfl, _, rfl, a, _, _, .int ns[i], rfl, rfl, hS, (by rw [Int.zero_add]; exact atI_nat hx), _, _, rfl, rfl, .inl ⟨by decide, by decide⟩, ?_⟩
        refine ⟨_, _, rfl, rfl, _, _, rfl, rfl, _, rfl, _, _, rfl, rfl, .inl ⟨by decide, by decide⟩, _, _, rfl, rfl, ?_⟩
        refine ⟨_, _, rfl, rfl, .inr ⟨by omega, by omega⟩, .inl ⟨_, rfl, ?_⟩⟩
        refine ⟨_, _, rfl, rfl, (by show (0 : Int) < 2147483353; decide), rfl, _, _, rfl⟩
      · rintro σ H' ⟨rfl, m, z, rfl⟩
        refine ⟨_, rfl, _, _, rfl, rfl, _, rfl, ?_⟩
        refine ite2 (fun hb => ?_) (fun hb => ?_)
        · refine ite2 (fun _ => ?_) (fun q => absurd rfl q)
          refine ⟨_, rfl, _, rfl, _, rfl, _, rfl, _, _, rfl, rfl, .inr ⟨by decide, by decide⟩, _, _, rfl, rfl, .inl ⟨_, rfl, ?_⟩⟩
          refine ⟨_, _, rfl, rfl, (by show (0 : Int) < 2147483353; decide), (by show 3 ≤ sizeLine; decide), fun p hp => ?_⟩
          exact k p _ _ _ (same_new hp) hp upd_same
        · refine ⟨_, rfl, 10, 18, rfl, rfl, ⟨by decide, by decide, by decide⟩, _, _, rfl, rfl, _, rfl, ?_⟩
          refine ite2 (fun hb => ?_) (fun hb => ?_)
          · refine ⟨_, rfl, _, rfl, _, rfl, _, rfl, _, _, rfl, rfl, .inr ⟨by decide, by decide⟩, _, _, rfl, rfl, .inl ⟨_, rfl, ?_⟩⟩
            refine ⟨_, _, rfl, rfl, (by show (0 : Int) < 2147483353; decide), (by show 3 ≤ sizeLine; decide), fun p hp => ?_⟩
            exact k p _ _ _ (same_new hp) hp upd_same
          · refine ⟨_, rfl, _, rfl, _, _, rfl, rfl, .inr ⟨by decide, by decide⟩, _, _, rfl, rfl, .inl ⟨_, rfl, ?_⟩⟩
            refine ⟨_, _, rfl, rfl, (by show (0 : Int) < 2147483353; decide), (by show 3 ≤ sizeLine; decide), fun p hp => ?_⟩
            exact k p _ _ _ (same_new hp) hp upd_same
end
/-- the rack's three ints at r -/
def RkI (H : Hp) (r : Addr) : Prop := ∃ a b c, H r = some (rk a b c)
/-- as Prm, but the rack at r changes -/
def PrmR {α : Type} (args : α → Addr → List V) (pre : α → Hp → Prop) (post : α → Hp → V → Hp → Prop) : Sp := fun vs H Q _ => ∃ a r, vs = args a r ∧ RkI H r ∧ pre a H ∧ ∀ v H', SameX r H H' → RkI H' r → post a H v H' → Q v H'
theorem mkR {P : Program} {w : World} {K : PySem.W.Frag} {mg : Str → Option Value} {base : Heap} {α : Type} {args : α → Addr → List V} {pre : α → Hp → Prop} {post : α → Hp → V → Hp → Prop} {N ps : List Str} {x : Str} {st : Stmt} {k : Nat}
    (D : Df K mg x st) (S : FnScope N ps (defScope st))
    (hb : ∀ (kV doc pm : Value) (an : Option Addr) (cdv ct : Value) (us : List Value), us.length = ps.length → bindArgs (PySem.W.fnOf x x (defArgs st) (defBody st) (defScope st) .none kV doc pm an cdv ct) ⟨us, []⟩ = pure (ps.zip us))
    (hl : ∀ (a : α) (r : Addr), (args a r).length = ps.length)
    (h : ∀ (f : Addr) (cdv : Value) (A : Around) (outer : List Env) (s : Shared) (H : Hp) (a : α) (r : Addr) (Q : VK) (E : XK), Room k (A.deeper (envOfC x (defScope st) s.heap.objs.size f cdv)) → RkI H r → pre a H →
      (∀ v H', SameX r H H' → RkI H' r → post a H v H' → Q v H') →
      ∃ t, PSs (cxOf CX0 P w K mg base N x (defScope st) f cdv A outer s H E).nox (defBody st) t ∧ t { nx := fun _ H' => Q .non H', rt := Q } (L2.start N (args a r)) H) :
    Cal P w K mg base (k + 1) x ps (PrmR args pre post) := by
  obtain ⟨f, fd, F, m⟩ := D.ex
  have lk : ∃ oc od osl, K.lookup f = some ⟨oc, od, .func fd, osl⟩ := by
    obtain ⟨oc, od, kV, doc, pm, an, cdv, ct, osl, _, lk, _⟩ := F.ex
    exact ⟨oc, od, osl, lk⟩
  refine ⟨f, fd, F.ok S (fun vs H Q E h => ?_) (fun cdv A outer s H vs Q E hr hp => ?_), F.binds hb, m, F.kp, lk⟩
  · obtain ⟨a, r, rfl, _⟩ := h
    exact hl a r
  · obtain ⟨a, r, rfl, hk, hpre, hh⟩ := hp
    exact h f cdv A outer s H a r Q E hr hk hpre hh
theorem new_ne {r p : Addr} {H : Hp} (h : RkI H r) (hp : H p = none) : r ≠ p := by
  obtain ⟨a, b, c, e⟩ := h
  exact ne_of_none e hp
section
variable {P : Program} {w : World} {K : PySem.W.Frag} {mg : Str → Option Value} {base : Heap} {C : Addr}
theorem s82 : FnScope ["_law_rack_here", "_law_many", "_law_figure"] ["_law_rack_here", "_law_many"] (defScope (top 82)) := (⟨rfl, rfl, rfl, by decide +kernel, rfl, by decide +kernel, by decide +kernel⟩)
abbrev spPick : Sp := PrmR (α := Int) (fun m r => [.ref r, .int m]) (fun m _ => 1 ≤ m ∧ Sm 150 m) (fun m H v H' => ∃ n, v = .int n ∧ 0 ≤ n ∧ n < m)
theorem c_pick (D : Df K mg "_law_pick" (top 82)) (B : Bl mg) : Cal P w K mg base 1 "_law_pick" ["_law_rack_here", "_law_many"] spPick := by
  refine mkR D s82 (fun _ _ _ _ _ _ us hl => match us, hl with | [_, _], _ => rfl) (fun _ _ => rfl) (fun f cdv A outer s H m r Q E hr hR hm k => ?_)
  obtain ⟨a, b, c, hR⟩ := hR
  obtain ⟨m1, bm⟩ := hm
  have m1 : 1 ≤ m := m1
  have hR0 : H r = some (.lst [.int a, .int b, .int c]) := hR
  refine ⟨_, pss_cons (ps_if (pt_cmpR op_gt (pe_ix ix_list (pv 0) pe_int (fun _ _ => rfl)) pe_int (nomark _))
      (pss_cons (ps_asg (pe_callB call_divmodW (by rfl) B.divmod_ PyProof.Rows.boot_divmod (pa_cons (pe_ix ix_list (pv 0) pe_int (fun _ _ => rfl)) (pa_cons (pv 1) pa_nil)))
          (pg_tup rfl (pgs_cons (pg_sub (pv 0) pe_int set_list (fun _ => rfl)) (pgs_cons (pg_name (i := 2) s82.nd rfl (Or.inl rfl)) pgs_nil))))
        (pss_one (ps_ret (pv 2)))) pss_nil)
    (pss_cons (ps_asg (pe_op op_add (pe_ix ix_list (pv 0) pe_int (fun _ _ => rfl)) pe_int) (pg_sub (pv 0) pe_int set_list (fun _ => rfl)))
    (pss_cons (ps_asg (pe_op op_mod (pe_callTy call_int1 (by rfl) B.int_ (by decide +kernel) (pa_cons (pe_op op_add (pe_op op_add
          (pe_op op_mul (pe_ix ix_list (pv 0) pe_int (fun _ _ => rfl)) (pe_op op_add (pe_op op_mod (pe_callTy call_int1 (by rfl) B.int_ (by decide +kernel) (pa_cons (pe_op op_fdiv (pe_ix ix_list (pv 0) pe_int (fun _ _ => rfl)) pe_int) pa_nil)) pe_int) pe_int))
          (pe_op op_mul pe_int (pe_ix ix_list (pv 0) pe_int (fun _ _ => rfl)))) pe_int) pa_nil)) pe_int) (pg_sub (pv 0) pe_int set_list (fun _ => rfl)))
    (pss_one (ps_ret (pe_op op_mod (pe_callTy call_int1 (by rfl) B.int_ (by decide +kernel) (pa_cons (pe_op op_fdiv (pe_ix ix_list (pv 0) pe_int (fun _ _ => rfl)) pe_int) pa_nil)) (pv 1)))))), ?_⟩
  have e0 : L2.start ["_law_rack_here", "_law_many", "_law_figure"] [V.ref r, V.int m] = [some (.ref r), some (.int m), none] := rfl
  rw [e0]
  refine ⟨_, rfl, r, _, 0, .int a, rfl, rfl, SqL.of hR0, atI_nat (j := 0) rfl, _, _, rfl, rfl, _, rfl, ?_⟩
  refine ite2 (fun hb => ?_) (fun hb => ?_)
  · refine ⟨_, rfl, r, _, 0, .int a, rfl, rfl, SqL.of hR0, atI_nat (j := 0) rfl, _, rfl, _, _, rfl, ⟨by omega, PyProof.noPylong_of_log2 (Nat.lt_of_lt_of_le (PySem.Flt.log2_lt_of (show 0 < 150 by decide) bm) (by decide))⟩, fun p hp => ?_⟩
    have nrp : r ≠ p := ne_of_none hR hp
    refine ⟨p, _, rfl, SqT.of upd_same, rfl, _, _, rfl, ?_⟩
    refine ⟨_, rfl, r, [.int a, .int b, .int c], 0, 0, rfl, rfl, (by rw [upd_ne nrp]; exact hR0), rfl, _, _, rfl, rfl, ?_⟩
    refine ⟨_, rfl, ?_⟩
    refine k _ _ (fun b o n e => ?_) ⟨_, _, _, upd_same⟩ ⟨a % m, rfl, Int.emod_nonneg _ (by omega), Int.emod_lt_of_pos _ (by omega)⟩
    rw [upd_ne n, upd_ne (ne_of_none e hp)]
    exact e
  · refine ⟨_, rfl, r, _, 2, .int c, rfl, rfl, SqL.of hR0, atI_nat (j := 2) rfl, _, _, rfl, rfl, ?_⟩
    refine ⟨_, rfl, r, [.int a, .int b, .int c], 2, 2, rfl, rfl, hR0, rfl, ?_⟩
    refine ⟨_, rfl, r, _, 1, .int b, rfl, rfl, SqL.of upd_same, atI_nat (j := 1) rfl, ?_⟩
    refine ⟨_, rfl, r, _, 1, .int b, rfl, rfl, SqL.of upd_same, atI_nat (j := 1) rfl, _, _, rfl, rfl, ⟨by decide, by decide⟩, .inl ⟨_, rfl, ?_⟩⟩
    refine ⟨_, _, rfl, rfl, (by show (0 : Int) < 30011; decide), _, _, rfl, rfl, _, _, rfl, rfl, .inr ⟨by omega, by omega⟩, ?_⟩
    refine ⟨_, rfl, r, _, 2, .int (c + 1), rfl, rfl, SqL.of upd_same, atI_nat (j := 2) rfl, _, _, rfl, rfl, .inl ⟨by decide, by decide⟩, ?_⟩
    refine ⟨_, _, rfl, rfl, _, _, rfl, rfl, .inl ⟨_, rfl, ?_⟩⟩
    refine ⟨_, _, rfl, rfl, (by show (0 : Int) < 2147483353; decide), ?_⟩
    refine ⟨_, rfl, r, [.int a, .int b, .int (c + 1)], 1, 1, rfl, rfl, upd_same, rfl, ?_⟩
    refine ⟨_, rfl, r, _, 1, _, rfl, rfl, SqL.of upd_same, atI_nat (j := 1) rfl, ?_⟩
    refine ⟨_, _, rfl, rfl, ⟨by decide, by decide⟩, .inl ⟨_, rfl, ?_⟩⟩
    refine ⟨_, rfl, _, _, rfl, rfl, (by show (0 : Int) < m; omega), ?_⟩
    exact k _ _ (SameX.put.trans SameX.put) ⟨_, _, _, upd_same⟩ ⟨_, rfl, Int.emod_nonneg _ (by omega), Int.emod_lt_of_pos _ (by omega)⟩
end
/-! ### Euclid's way -/
/-- from f, o it ends within n turns -/
def Eucl (o f : Nat) : Nat → Prop
  | 0 => o = 0
  | n + 1 => o = 0 ∨ Eucl (f % o) o n
theorem ends_up : ∀ (n : Nat) {o f : Nat}, Eucl o f n → Eucl o f (n + 1)
  | 0, o, f, h => .inl h
  | n + 1, o, f, h => by
    rcases h with h | h
    · exact .inl h
    · exact .inr (ends_up n h)
theorem ends_le {m n : Nat} {o f : Nat} (h : Eucl o f m) (hl : m ≤ n) : Eucl o f n := by
  induction hl with
  | refl => exact h
  | step _ ih => exact ends_up _ ih
theorem ends_of : ∀ (k : Nat) {o f : Nat}, o < 2 ^ k → Eucl o f (2 * k + 1)
  | 0, o, f, h => .inl (by simpa using h)
  | k + 1, o, f, h => by
    by_cases h0 : o = 0
    · exact .inl h0
    · refine .inr ?_
      show Eucl (f % o) o (2 * k + 1 + 1)
      by_cases h1 : f % o = 0
      · exact .inl h1
      · refine .inr (ends_of k ?_)
        have l1 : f % o < o := Nat.mod_lt _ (by omega)
        have l2 : o % (f % o) < f % o := Nat.mod_lt _ (by omega)
        have e := Nat.div_add_mod o (f % o)
        have q1 : 1 ≤ o / (f % o) := Nat.div_pos (by omega) (by omega)
        have q2 : f % o ≤ (f % o) * (o / (f % o)) := Nat.le_mul_of_pos_right _ q1
        have e2 : 2 ^ (k + 1) = 2 * 2 ^ k := by rw [Nat.pow_succ]; omega
        omega
section
variable {P : Program} {w : World} {K : PySem.W.Frag} {mg : Str → Option Value} {base : Heap} {C : Addr}
abbrev nCom : List Str := ["_law_parts", "_law_found", "_law_part", "_law_one", "_law_turn"]
theorem natAbs_if (i : Int) : (i.natAbs : Int) = if i < 0 then -i else i := by
  split <;> omega
theorem s83 : FnScope nCom ["_law_parts"] (defScope (top 83)) := (⟨rfl, rfl, rfl, by decide +kernel, rfl, by decide +kernel, by decide +kernel⟩)
abbrev spCom : Sp := Prm (α := Addr × Int × Int) (fun a => [.ref a.1]) (fun a H => LI H a.1 [a.2.1, a.2.2] ∧ Sm 600 a.2.1 ∧ Sm 600 a.2.2) (fun a H v H' => v = .int (gcdL [a.2.1, a.2.2] : Nat) ∧ H' = H)
theorem c_com (D : Df K mg "_law_common" (top 83)) (B : Bl mg) : Cal P w K mg base 1 "_law_common" ["_law_parts"] spCom := by
  refine mkC D s83 (fun _ _ _ _ _ _ us hl => match us, hl with | [_], _ => rfl) (fun _ => rfl) (fun f cdv A outer s H a Q E hr h k => ?_)
  obtain ⟨p, x, y⟩ := a
  obtain ⟨h, bx, by0⟩ := h
  have h0 : H p = some (.lst [.int x, .int y]) := h
  have bx : x.natAbs < 2 ^ 600 := bx
  have by0 : y.natAbs < 2 ^ 600 := by0
  refine ⟨_, pss_cons ((ps_set (i := 1) (FnScope.nd s83) rfl (Or.inl rfl) pe_int))
    (pss_cons (ps_for PassesOwn.never rfl (pi_list (pv 0)) ((pg_name (i := 2) (FnScope.nd s83) rfl (Or.inl rfl)))
      (pss_cons ((ps_set (i := 3) (FnScope.nd s83) rfl (Or.inl rfl) (pe_callB call_abs (by rfl) B.abs_ PyProof.Rows.boot_abs (pa_cons (pv 2) pa_nil))))
      (pss_one (ps_for PassesOwn.never rfl (pi_range1 (by rfl) B.range_ (pa_cons pe_int pa_nil)) ((pg_name (i := 4) (FnScope.nd s83) rfl (Or.inl rfl)))
        (pss_cons (ps_if ((pt_cmpR op_eq (pv 3) pe_int (nomark _))) (pss_one ps_break) pss_nil)
        (pss_one (ps_par (i := 1) (j := 3) rfl s83.nd rfl rfl (by decide) rfl rfl (pa_cons (pv 3) (pa_cons (pe_op op_mod (pe_callTy call_int1 (by rfl) B.int_ PyProof.Rows.boot_int (pa_cons (pv 1) pa_nil)) (pv 3)) pa_nil)) rfl)))))))
    (pss_one (ps_ret (pv 1)))), ?_⟩
  refine ⟨_, rfl, p, rfl, ⟨_, SqL.of h0⟩, for_unr (G := fun H => SqL K H p [.int x, .int y]) (xs := [.int x, .int y]) walk_list ?_⟩
  have two : ∀ t3 t4 : Option V, unr (fun H => SqL K H p [.int x, .int y]) (gName 2)
      (tSeq (tAsg (tCB (fun xs H Q => ∃ i, xs = [.int i] ∧ Q (.int (if i < 0 then -i else i)) H) (tCons (tVar 2) tNil)) (gName 3))
        (tFor (iRng1 (tCons (tC (.int 4000)) tNil)) (gName 4) (tSeq (tIfS (tTest (tOp rEq (tVar 3) (tC (.int 0)))) tBreak tNext)
          (tPar 1 3 (tCons (tVar 3) (tCons (tOp (rI (fun _ j => 0 < j) fun i j => .int (i % j)) (tCB (fun xs H Q => (∃ i, xs = [.int i] ∧ Q (.int i) H) ∨ ∃ k, xs = [.bl k] ∧ Q (.int (if k then 1 else 0)) H) (tCons (tVar 1) tNil)) (tVar 3)) tNil))))))
      { nx := tRet (tVar 1) { nx := fun _ H' => Q .non H', rt := Q }, rt := Q } [.int y] [some (.ref p), some (.int ((Nat.gcd 0 x.natAbs : Nat) : Int)), some (.int x), t3, t4] H := by
    intro t3 t4
    refine ⟨SqL.of h0, _, rfl, _, rfl, ?_⟩
    refine ⟨4000, rfl, by decide, by decide, for_range (n := 4000) (fun i σ H' => H' = H ∧ ∃ (fd o : Nat) (t4 : Option V), σ = [some (.ref p), some (.int (fd : Int)), some (.int y), some (.int (o : Int)), t4] ∧ Eucl o fd (4000 - i) ∧ Nat.gcd fd o = Nat.gcd (Nat.gcd 0 x.natAbs) y.natAbs) ⟨rfl, Nat.gcd 0 x.natAbs, y.natAbs, t4, ?_, ends_le (ends_of 600 by0) (by decide), rfl⟩ ?_ ?_⟩
    · rw [← natAbs_if y]
      rfl
    · rintro i σ H' hi ⟨rfl, fd, o, t4, rfl, hE, hG⟩
      refine ⟨_, rfl, rfl, _, rfl, ?_⟩
      rw [dec_int]
      have out : o = 0 → fd = Nat.gcd (Nat.gcd 0 x.natAbs) y.natAbs := fun e => by
        rw [e, Nat.gcd_zero_right] at hG
        exact hG
      refine ite2 (fun hb => ?_) (fun hb => ?_)
      · have ho : o = 0 := by
          have q : (o : Int) = 0 := by simpa using hb
          omega
        have e := out ho
        subst e
        exact ⟨SqL.of h0, _, rfl, k _ _ (Same.refl _) ⟨rfl, rfl⟩⟩
      · have ho : o ≠ 0 := fun e => hb (by rw [e]; rfl)
        refine ⟨_, rfl, _, rfl, .inl ⟨_, rfl, _, rfl, _, _, rfl, rfl, (by show (0 : Int) < (o : Int); omega), _, _, rfl, rfl, o, fd % o, some (.int (0 + (i : Int))), ?_, ?_, ?_⟩⟩
        · show [some (V.ref p), some (V.int (o : Int)), some (V.int y), some (V.int ((fd : Int) % (o : Int))), some (V.int (0 + (i : Int)))] = _
          rw [← Int.natCast_emod]
        · have e4 : 4000 - i = (4000 - (i + 1)) + 1 := by omega
          rw [e4] at hE
          rcases hE with e | e
          · exact absurd e ho
          · exact e
        · rw [← hG, Nat.gcd_comm fd o, Nat.gcd_rec o fd, Nat.gcd_comm (fd % o) o]
    · rintro σ H' ⟨rfl, fd, o, t4, rfl, hE, hG⟩
      have ho : o = 0 := hE
      have e : fd = Nat.gcd (Nat.gcd 0 x.natAbs) y.natAbs := by
        rw [ho, Nat.gcd_zero_right] at hG
        exact hG
      subst e
      exact ⟨SqL.of h0, _, rfl, k _ _ (Same.refl _) ⟨rfl, rfl⟩⟩
  
  refine ⟨SqL.of h0, _, rfl, _, rfl, ?_⟩
  refine ⟨4000, rfl, by decide, by decide, for_range (n := 4000) (fun i σ H' => H' = H ∧ ∃ (fd o : Nat) (t4 : Option V), σ = [some (.ref p), some (.int (fd : Int)), some (.int x), some (.int (o : Int)), t4] ∧ Eucl o fd (4000 - i) ∧ Nat.gcd fd o = Nat.gcd 0 x.natAbs) ⟨rfl, 0, x.natAbs, none, ?_, ends_le (ends_of 600 bx) (by decide), rfl⟩ ?_ ?_⟩
  · rw [← natAbs_if x]
    rfl
  · rintro i σ H' hi ⟨rfl, fd, o, t4, rfl, hE, hG⟩
    refine ⟨_, rfl, rfl, _, rfl, ?_⟩
    rw [dec_int]
    have out : o = 0 → fd = Nat.gcd 0 x.natAbs := fun e => by
      rw [e, Nat.gcd_zero_right] at hG
      exact hG
    refine ite2 (fun hb => ?_) (fun hb => ?_)
    · have ho : o = 0 := by
        have q : (o : Int) = 0 := by simpa using hb
        omega
      have e := out ho
      subst e
      exact two _ _
    · have ho : o ≠ 0 := fun e => hb (by rw [e]; rfl)
      refine ⟨_, rfl, _, rfl, .inl ⟨_, rfl, _, rfl, _, _, rfl, rfl, (by show (0 : Int) < (o : Int); omega), _, _, rfl, rfl, o, fd % o, some (.int (0 + (i : Int))), ?_, ?_, ?_⟩⟩
      · show [some (V.ref p), some (V.int (o : Int)), some (V.int x), some (V.int ((fd : Int) % (o : Int))), some (V.int (0 + (i : Int)))] = _
        rw [← Int.natCast_emod]
      · have e4 : 4000 - i = (4000 - (i + 1)) + 1 := by omega
        rw [e4] at hE
        rcases hE with e | e
        · exact absurd e ho
        · exact e
      · rw [← hG, Nat.gcd_comm fd o, Nat.gcd_rec o fd, Nat.gcd_comm (fd % o) o]
  · rintro σ H' ⟨rfl, fd, o, t4, rfl, hE, hG⟩
    have ho : o = 0 := hE
    have e : fd = Nat.gcd 0 x.natAbs := by
      rw [ho, Nat.gcd_zero_right] at hG
      exact hG
    subst e
    exact two _ _
end
end Xq

namespace Xq
open PySem PySem.Spec PyProof.Rows L2
theorem gcdL_nonneg (b t : Int) (h : 1 ≤ b) : cs b t = ((Nat.gcd b.natAbs t.natAbs : Nat) : Int) := by
  unfold cs
  rw [if_neg (by omega), gcdL2]
/-- a fraction in lowest terms -/
theorem low_spec {b t : Int} (h : 1 ≤ b) : ∃ d a g : Int, 1 ≤ g ∧ b = g * d ∧ t = g * a ∧ low b t = [d, a] ∧ gcdL [d, a] = 1 ∧ 1 ≤ d := by
  have hg : 0 < Nat.gcd b.natAbs t.natAbs := Nat.gcd_pos_of_pos_left _ (by omega)
  have h1 : ((Nat.gcd b.natAbs t.natAbs : Nat) : Int) ∣ b := Int.ofNat_dvd_left.mpr (Nat.gcd_dvd_left _ _)
  have h2 : ((Nat.gcd b.natAbs t.natAbs : Nat) : Int) ∣ t := Int.ofNat_dvd_left.mpr (Nat.gcd_dvd_right _ _)
  obtain ⟨d, hd⟩ := h1
  obtain ⟨a, ha⟩ := h2
  have g0 : ((Nat.gcd b.natAbs t.natAbs : Nat) : Int) ≠ 0 := by omega
  refine ⟨d, a, ((Nat.gcd b.natAbs t.natAbs : Nat) : Int), by omega, hd, ha, ?_, ?_, ?_⟩
  · unfold low
    rw [gcdL_nonneg b t h]
    have e1 : b.fdiv ((Nat.gcd b.natAbs t.natAbs : Nat) : Int) = d := by
      have q := Int.mul_fdiv_cancel_left d g0
      rw [← hd] at q
      exact q
    have e2 : t.fdiv ((Nat.gcd b.natAbs t.natAbs : Nat) : Int) = a := by
      have q := Int.mul_fdiv_cancel_left a g0
      rw [← ha] at q
      exact q
    rw [e1, e2]
  · rw [gcdL2]
    have e1 : b.natAbs = Nat.gcd b.natAbs t.natAbs * d.natAbs := by
      have q := congrArg Int.natAbs hd
      rw [Int.natAbs_mul, Int.natAbs_natCast] at q
      exact q
    have e2 : t.natAbs = Nat.gcd b.natAbs t.natAbs * a.natAbs := by
      have q := congrArg Int.natAbs ha
      rw [Int.natAbs_mul, Int.natAbs_natCast] at q
      exact q
    have q := Nat.gcd_mul_left (Nat.gcd b.natAbs t.natAbs) d.natAbs a.natAbs
    rw [← e1, ← e2] at q
    have q2 : Nat.gcd b.natAbs t.natAbs * 1 = Nat.gcd b.natAbs t.natAbs * Nat.gcd d.natAbs a.natAbs := by rw [Nat.mul_one]; exact q
    exact (Nat.eq_of_mul_eq_mul_left hg q2).symm
  · rcases Int.lt_or_le d 1 with q | q
    · have z : ((Nat.gcd b.natAbs t.natAbs : Nat) : Int) * d ≤ 0 := Int.mul_nonpos_of_nonneg_of_nonpos (by omega) (by omega)
      omega
    · exact q
theorem low_id {d a : Int} (h : 1 ≤ d) (g : gcdL [d, a] = 1) : low d a = [d, a] := by
  have e : cs d a = 1 := by
    unfold cs
    rw [if_neg (by omega), g]
    rfl
  unfold low
  rw [e, Int.fdiv_one, Int.fdiv_one]
theorem le_of_mul {g d b : Int} (hg : 1 ≤ g) (e : b = g * d) (hd : 0 ≤ d) : d ≤ b := by
  have := Int.mul_le_mul_of_nonneg_right hg hd
  omega
theorem abs_of_mul {g a t : Int} (hg : 1 ≤ g) (e : t = g * a) : a.natAbs ≤ t.natAbs := by
  rw [e, Int.natAbs_mul]
  exact Nat.le_mul_of_pos_left _ (by omega)
theorem pos_of_mul {g a t : Int} (hg : 1 ≤ g) (e : t = g * a) (ht : 1 ≤ t) : 1 ≤ a := by
  rcases Int.lt_or_le a 1 with q | q
  · have z : g * a ≤ 0 := Int.mul_nonpos_of_nonneg_of_nonpos (by omega) (by omega)
    omega
  · exact q
section
variable {P : Program} {w : World} {K : PySem.W.Frag} {mg : Str → Option Value} {base : Heap} {C : Addr}
theorem s84 : FnScope ["_law_bottom", "_law_top", "_law_common_here"] ["_law_bottom", "_law_top"] (defScope (top 84)) := (⟨rfl, rfl, rfl, by decide +kernel, rfl, by decide +kernel, by decide +kernel⟩)
abbrev spLLow : Sp := Prm (α := Int × Int) (fun a => [.int a.1, .int a.2]) (fun a _ => a.1 ≠ 0 ∧ Sm 600 a.1 ∧ Sm 600 a.2) (fun a H v H' => ∃ q, v = .ref q ∧ TI H' q (low a.1 a.2))
theorem cs_mul (b t : Int) : ((gcdL [b, t] : Nat) : Int) * (if b < 0 then -1 else 1) = cs b t := by
  unfold cs
  split
  · rw [Int.mul_neg, Int.mul_one]
  · rw [Int.mul_one]
theorem c_llow (D : Df K mg "_law_low" (top 84)) (B : Bl mg) (CC : Cal P w K mg base 1 "_law_common" ["_law_parts"] spCom) : Cal P w K mg base 2 "_law_low" ["_law_bottom", "_law_top"] spLLow := by
  refine mkC D s84 (fun _ _ _ _ _ _ us hl => match us, hl with | [_, _], _ => rfl) (fun _ => rfl) (fun f cdv A outer s H a Q E hr h k => ?_)
  obtain ⟨b, t⟩ := a
  obtain ⟨b0, bb, bt⟩ := h
  refine ⟨_, pss_cons ((ps_set (i := 2) (FnScope.nd s84) rfl (Or.inl rfl) (pe_op op_mul (pe_cl CC hr (pa_cons (pe_lst (pa_cons (pv 0) (pa_cons (pv 1) pa_nil))) pa_nil)) ((pe_ix ix_list (pe_lst (pa_cons pe_int (pa_cons (pe_un un_neg pe_int) pa_nil))) (pe_callTy call_int1 (by rfl) B.int_ PyProof.Rows.boot_int (pa_cons (pe_cmpR op_lt (pv 0) pe_int (nomark _)) pa_nil)) (fun _ _ => rfl))))))
    (pss_one (ps_ret (pe_tup (pa_cons (pe_op op_fdivX (pv 0) (pv 2)) (pa_cons (pe_op op_fdivX (pv 1) (pv 2)) pa_nil))))), ?_⟩
  refine ⟨_, rfl, _, rfl, (by show 2 ≤ sizeLine; decide), fun l hl => ?_⟩
  have s1 := same_new (o := .lst [.int b, .int t]) hl
  refine ⟨(l, b, t), rfl, ⟨upd_same, bb, bt⟩, ?_⟩
  rintro _ _ - ⟨rfl, e⟩
  rw [e]
  refine ⟨_, rfl, by decide, fun l2 hl2 => ?_⟩
  have s2 := Same.new (o := .lst [.int 1, .int (-1)]) s1 hl2
  refine ⟨_, rfl, _, _, rfl, rfl, .inr ⟨_, rfl, l2, [.int 1, .int (-1)], _, .int (if b < 0 then -1 else 1), rfl, rfl, SqL.of upd_same, ?_, ?_⟩⟩
  · by_cases hb : b < 0
    · rw [decide_eq_true hb, if_pos hb]
      rfl
    · rw [decide_eq_false hb, if_neg hb]
      rfl
  refine ⟨_, _, rfl, rfl, .inr (by split <;> decide), ?_⟩
  have cx : ∀ i : Int, CDivX i (((gcdL [b, t] : Nat) : Int) * (if b < 0 then -1 else 1)) := fun i => by
    rw [cs_mul]
    exact cs_div b0 bb (by decide) (by decide)
  refine ⟨_, rfl, _, rfl, _, _, rfl, rfl, cx _, _, rfl, _, rfl, _, _, rfl, rfl, cx _, (by show 2 ≤ sizeLine; decide), fun q hq => ?_⟩
  refine k _ _ (Same.new s2 hq) ⟨q, rfl, ?_⟩
  refine (upd_same (a := q)).trans ?_
  show some (HO.tup [.int (b.fdiv (((gcdL [b, t] : Nat) : Int) * (if b < 0 then -1 else 1))), .int (t.fdiv (((gcdL [b, t] : Nat) : Int) * (if b < 0 then -1 else 1)))]) = _
  rw [cs_mul]
  rfl
theorem s85 : FnScope ["_law_rack_here", "_law_mine"] ["_law_rack_here"] (defScope (top 85)) := (⟨rfl, rfl, rfl, by decide +kernel, rfl, by decide +kernel, by decide +kernel⟩)
/-- a shape drawn, and it as a number -/
def Drawn (C : Addr) (H : Hp) (sh m : Addr) (d n : Int) : Prop := Shp C H sh (0 - n) d ∧ TI H m [d, n] ∧ (1 ≤ d ∧ d ≤ 1000) ∧ (1 ≤ n ∧ n ≤ 1000) ∧ gcdL [d, n] = 1
theorem Shp.sameX {C r : Addr} {H H' : Hp} {a : Addr} {x y : Int} (rk : RkI H r) (s : SameX r H H') (h : Shp C H a x y) : Shp C H' a x y := by
  obtain ⟨dx, q, t, h1, h2, h3⟩ := h
  obtain ⟨u, v, z, hr⟩ := rk
  refine ⟨dx, q, t, s _ _ (fun e => ?_) h1, s _ _ (fun e => ?_) h2, h3⟩
  · rw [e, hr] at h1
    cases h1
  · have h20 : H q = some (.tup [.int x, .int y]) := h2
    rw [e, hr] at h20
    cases h20
theorem TI.sameX {r : Addr} {H H' : Hp} {p : Addr} {xs : List Int} (rk : RkI H r) (s : SameX r H H') (h : TI H p xs) : TI H' p xs := by
  obtain ⟨u, v, z, hr⟩ := rk
  refine s _ _ (fun e => ?_) h
  have h0 : H p = some (.tup (xs.map V.int)) := h
  rw [e, hr] at h0
  cases h0
theorem Drawn.sameX {C r : Addr} {H H' : Hp} {sh m : Addr} {d n : Int} (rk : RkI H r) (s : SameX r H H') (h : Drawn C H sh m d n) : Drawn C H' sh m d n :=
  ⟨h.1.sameX rk s, h.2.1.sameX rk s, h.2.2⟩
theorem Drawn.same {C : Addr} {H H' : Hp} {sh m : Addr} {d n : Int} (s : Same H H') (h : Drawn C H sh m d n) : Drawn C H' sh m d n :=
  ⟨h.1.same s, h.2.1.same s, h.2.2⟩
theorem RkI.same {H H' : Hp} {r : Addr} (s : Same H H') (h : RkI H r) : RkI H' r := by
  obtain ⟨a, b, c, e⟩ := h
  exact ⟨a, b, c, s _ _ e⟩
abbrev spDrawn (C : Addr) : Sp := PrmR (α := Unit) (fun _ r => [.ref r]) (fun _ _ => True) (fun _ H v H' => ∃ t sh m d n, v = .ref t ∧ H' t = some (.tup [.ref sh, .ref m]) ∧ Drawn C H' sh m d n)
theorem c_drawn (D : Df K mg "_law_drawn" (top 85)) (B : Bl mg) (S : ShC K mg C) (CP : Cal P w K mg base 1 "_law_pick" ["_law_rack_here", "_law_many"] spPick) (CL : Cal P w K mg base 2 "_law_low" ["_law_bottom", "_law_top"] spLLow)
    (CT : Cal P w K mg base 5 "told_by" ["text"] spTold) (CS : Cal P w K mg base 6 "stretch_of" ["equation", "rank"] spStr) : Cal P w K mg base 9 "_law_drawn" ["_law_rack_here"] (spDrawn C) := by
  refine mkR D s85 (fun _ _ _ _ _ _ us hl => match us, hl with | [_], _ => rfl) (fun _ _ => rfl) (fun f cdv A outer s H u r Q E hr hR _ k => ?_)
  refine ⟨_, pss_cons ((ps_set (i := 1) (FnScope.nd s85) rfl (Or.inl rfl) (pe_cl CL hr (pa_cons (pe_op op_add pe_int (pe_cl CP hr (pa_cons (pv 0) (pa_cons pe_int pa_nil)))) (pa_cons (pe_op op_add pe_int (pe_cl CP hr (pa_cons (pv 0) (pa_cons pe_int pa_nil)))) pa_nil)))))
    (pss_one (ps_ret (pe_tup (pa_cons (pe_mkS (j := 0) S CT CS (pe_op op_add_str (pe_op op_add_str (pe_op op_add_str pe_str
        (pe_callTy call_str_int (by rfl) B.str_ PyProof.Rows.boot_str (pa_cons (pe_op op_sub pe_int ((pe_ix ix_tup (pv 1) pe_int (fun _ _ => rfl)))) pa_nil))) pe_str) (pe_callTy call_str_int (by rfl) B.str_ PyProof.Rows.boot_str (pa_cons ((pe_ix ix_tup (pv 1) pe_int (fun _ _ => rfl))) pa_nil))) hr (by rfl)) (pa_cons (pv 1) pa_nil))))), ?_⟩
  refine ⟨_, rfl, 1000, r, rfl, hR, ⟨by decide, by decide⟩, ?_⟩
  rintro _ H1 x1 hR1 ⟨n1, rfl, n1a, n1b⟩
  refine ⟨_, _, rfl, rfl, _, rfl, 1000, r, rfl, hR1, ⟨by decide, by decide⟩, ?_⟩
  rintro _ H2 x2 hR2 ⟨n2, rfl, n2a, n2b⟩
  refine ⟨_, _, rfl, rfl, (1 + n1, 1 + n2), rfl, ⟨by show 1 + n1 ≠ 0; omega, ?_, ?_⟩, ?_⟩
  · exact Nat.lt_of_lt_of_le (show (1 + n1).natAbs < 2 ^ 10 by omega) (Nat.pow_le_pow_right (by decide) (by decide))
  · exact Nat.lt_of_lt_of_le (show (1 + n2).natAbs < 2 ^ 10 by omega) (Nat.pow_le_pow_right (by decide) (by decide))
  rintro _ H3 s3 ⟨m, rfl, hm⟩
  obtain ⟨d, n, g, hg, hd, hn, hlow, hgcd, hd1⟩ := low_spec (b := 1 + n1) (t := 1 + n2) (by omega)
  have hm : TI H3 m (low (1 + n1) (1 + n2)) := hm
  rw [hlow] at hm
  have hm0 : H3 m = some (.tup [.int d, .int n]) := hm
  have hn1 := pos_of_mul hg hn (by omega)
  have dle := le_of_mul hg hd (by omega)
  have nle := le_of_mul hg hn (by omega)
  have x3 : SameX r H H3 := x1.trans (x2.trans (SameX.of s3))
  have bn : (0 - n).natAbs ≤ 1000 := by omega
  have bd : d.natAbs ≤ 1000 := by omega
  have l2 : ∀ i : Int, i.natAbs ≤ 1000 → i.natAbs.log2 < 1920 := fun i hi => Nat.lt_of_lt_of_le (PySem.Flt.log2_lt_of (show 0 < 10 by decide) (show i.natAbs < 2 ^ 10 by omega)) (by decide)
  have sl : (640 : Nat) ≤ sizeLine := by decide
  have w1 := w_len bn
  have w2 := w_len bd
  have le1 : (Str.ofString "root 0 of ").length = 10 := by decide +kernel
  have le2 : (Str.ofString " ").length = 1 := by decide +kernel
  have la : ∀ a b : Str, (a ++ b).length = a.length + b.length := fun a b => by
    rw [TL.len_tl, TL.tl_append, List.length_append, ← TL.len_tl, ← TL.len_tl]
  refine ⟨_, rfl, m, _, _, .int n, rfl, rfl, SqT.of hm0, atI_nat (j := 1) rfl, _, _, rfl, rfl, _, rfl, l2 _ bn, _, _, rfl, rfl, ?_, ?_⟩
  · show (Str.ofString "root 0 of ").length + (W (0 - n)).length ≤ sizeLine
    omega
  refine ⟨_, _, rfl, rfl, ?_, ?_⟩
  · show (Str.ofString "root 0 of " ++ W (0 - n)).length + (Str.ofString " ").length ≤ sizeLine
    rw [la]
    omega
  refine ⟨_, rfl, m, _, _, .int d, rfl, rfl, SqT.of hm0, atI_nat (j := 0) rfl, _, rfl, l2 _ bd, _, _, rfl, rfl, ?_, ?_⟩
  · show (Str.ofString "root 0 of " ++ W (0 - n) ++ Str.ofString " ").length + (W d).length ≤ sizeLine
    rw [la, la]
    omega
  intro sh dx hsh hdx ne
  have sA := same_new (o := .own sh) hdx
  have h2 : (upd H3 dx (.own sh)) sh = none := by
    rw [upd_ne (Ne.symm ne)]
    exact hsh
  have sB := Same.new (o := .ins C dx []) sA h2
  have eq0 : Eqn (0 - n) d := ⟨by omega, by omega, by omega, by omega⟩
  have gq : gcdL [0 - n, d] = 1 := by
    rw [gcdL2] at hgcd ⊢
    have e : (0 - n).natAbs = n.natAbs := by omega
    rw [e, Nat.gcd_comm]
    exact hgcd
  refine ⟨H3, sh, dx, 0 - n, d, rfl, sB, hsh, upd_same, eq0, gq, fun H4 s4 hS => ⟨rfl, ?_⟩⟩
  refine ⟨_, rfl, (by show 2 ≤ sizeLine; decide), fun t ht => ?_⟩
  have s5 := same_new (o := .tup [.ref sh, .ref m]) ht
  have x5 := x3.trans (SameX.of (s4.trans s5))
  refine k _ _ x5 ((hR2.same s3).same (s4.trans s5)) ⟨t, sh, m, d, n, rfl, upd_same, hS.same s5, (s4.trans s5) _ _ hm0, ⟨hd1, by omega⟩, ⟨hn1, by omega⟩, hgcd⟩
end
end Xq

/-! What is compared: data, their texts. -/
namespace Xq
open PySem PySem.Spec PyProof.Rows L2 Xk
/-- xs + ys, its place -/
def rCatN : R2 := fun x y H Q => ∃ l b xs zs, x = .ref l ∧ y = .ref b ∧ H l = some (.lst xs) ∧ H b = some (.lst zs) ∧ xs.length + zs.length ≤ sizeLine ∧ ∀ p, H p = none → p ≠ sysModules → Q (.ref p) (upd H p (.lst (xs ++ zs)))
theorem op_catN {X : Cx} : OpR X (binaryOp .Add) rCatN := by
  intro pins s σ H x y v u Q I rx ry h
  obtain ⟨l, b, xs, zs, rfl, rfl, hH, hB, hz, q⟩ := h
  cases rx
  cases ry
  obtain ⟨z, its, n, r, hl, e⟩ := I.lstM hH
  obtain ⟨z2, its2, n2, r2, hl2, e2⟩ := I.lstM hB
  refine PySem.P.add_list e e2 ?_ (by rw [List.size_toArray, List.size_toArray]; omega)
  have ea : its.toArray ++ its2.toArray = (its ++ its2).toArray := by simp
  rw [ea]
  exact ⟨.ref _, _, I.lnew (t' := s.toks) (r.append r2) (by rw [List.length_append]; omega), rfl, q _ I.fresh (past1 I _ (Nat.le_refl _))⟩
/-- what may stand in a list that is shown -/
structure It1 (d : PyData) : Prop where
  sh : d.showable = true
  dp : d.depth ≤ 3
  ln : d.shown.length ≤ 3000
theorem it_int {i : Int} (h : Sm 600 i) : It1 (.int i) := by
  have l : i.natAbs.log2 < 600 := PySem.Flt.log2_lt_of (by decide) h
  refine ⟨?_, by simp [PyData.depth], ?_⟩
  · simp only [PyData.showable]
    exact decide_eq_true (Nat.lt_trans l (by decide))
  · have q := PySem.int_text_length_le (a := i) (k := 600) (by decide) l
    have e : (PyData.int i).shown = Str.ofString (toString i) := rfl
    rw [e, PySem.ofString_length]
    omega
theorem it_pair {i j : Int} (hi : Sm 600 i) (hj : Sm 600 j) : It1 (.tuple [.int i, .int j]) := by
  have a := it_int hi
  have b := it_int hj
  have li : (PyData.int i).shown.length ≤ 601 := by
    have q := PySem.int_text_length_le (a := i) (k := 600) (by decide) (PySem.Flt.log2_lt_of (by decide) hi)
    have e : (PyData.int i).shown = Str.ofString (toString i) := rfl
    rw [e, PySem.ofString_length]
    omega
  have lj : (PyData.int j).shown.length ≤ 601 := by
    have q := PySem.int_text_length_le (a := j) (k := 600) (by decide) (PySem.Flt.log2_lt_of (by decide) hj)
    have e : (PyData.int j).shown = Str.ofString (toString j) := rfl
    rw [e, PySem.ofString_length]
    omega
  refine ⟨?_, ?_, ?_⟩
  · show ((PyData.int i).showable && ((PyData.int j).showable && true)) = true
    rw [a.sh, b.sh]
    rfl
  · simp only [PyData.depth, PyData.depthAll]
    omega
  · have q := tupleText_len_le [(PyData.int i).shown, (PyData.int j).shown]
    have e : (PyData.tuple [.int i, .int j]).shown = tupleText [(PyData.int i).shown, (PyData.int j).shown] := rfl
    rw [e]
    refine Nat.le_trans q ?_
    show (PyData.int i).shown.length + ((PyData.int j).shown.length + 0) + 2 * 2 + 3 ≤ 3000
    omega
/-- a list of such is shown -/
structure Sho (d : PyData) : Prop where
  sh : d.showable = true
  dp : d.depth ≤ 20
  ln : d.shown.length ≤ sizeLine
theorem all_it : ∀ ds : List PyData, (∀ d ∈ ds, It1 d) → PyData.showableAll ds = true ∧ PyData.depthAll ds ≤ 4 ∧ ((PyData.shownAll ds).map (·.length)).sum ≤ 3000 * ds.length ∧ (PyData.shownAll ds).length = ds.length
  | [], _ => ⟨rfl, by simp [PyData.depthAll], by simp [PyData.shownAll], rfl⟩
  | d :: ds, h => by
    obtain ⟨a, b, c, e⟩ := all_it ds fun x hx => h x (List.mem_cons_of_mem _ hx)
    have hd := h d (List.mem_cons_self ..)
    refine ⟨?_, ?_, ?_, ?_⟩
    · show (d.showable && PyData.showableAll ds) = true
      rw [hd.sh, a]
      rfl
    · have := hd.dp
      simp only [PyData.depthAll]
      omega
    · have := hd.ln
      simp only [PyData.shownAll, List.map_cons, List.sum_cons, List.length_cons]
      omega
    · simp only [PyData.shownAll, List.length_cons, e]
theorem sho_list {ds : List PyData} (h : ∀ d ∈ ds, It1 d) (hl : ds.length ≤ 10) : Sho (.list ds) := by
  obtain ⟨a, b, c, e⟩ := all_it ds h
  refine ⟨?_, ?_, ?_⟩
  · simpa only [PyData.showable] using a
  · simp only [PyData.depth]
    omega
  · have q := listText_len_le (PyData.shownAll ds)
    have e2 : (PyData.list ds).shown = listText (PyData.shownAll ds) := by simp only [PyData.shown]
    have big : 40000 ≤ sizeLine := by decide
    rw [e2]
    omega
theorem sh_ints {H : Hp} : ∀ xs : List Int, ShA H (xs.map V.int) (xs.map PyData.int)
  | [] => .nil
  | x :: r => .cons (.int x) (sh_ints r)
theorem sh_TI {H : Hp} {p : Addr} {xs : List Int} (h : TI H p xs) : Sh H (.ref p) (.tuple (xs.map PyData.int)) := .tup h (sh_ints xs)
theorem low_two (b t : Int) : ∃ u v : Int, low b t = [u, v] := ⟨_, _, rfl⟩
theorem cs_dvd (b t : Int) : cs b t ∣ b ∧ cs b t ∣ t := by
  have h1 : ((gcdL [b, t] : Nat) : Int) ∣ b := by
    rw [gcdL2]
    exact Int.ofNat_dvd_left.mpr (Nat.gcd_dvd_left _ _)
  have h2 : ((gcdL [b, t] : Nat) : Int) ∣ t := by
    rw [gcdL2]
    exact Int.ofNat_dvd_left.mpr (Nat.gcd_dvd_right _ _)
  unfold cs
  split
  · exact ⟨Int.neg_dvd.mpr h1, Int.neg_dvd.mpr h2⟩
  · exact ⟨h1, h2⟩
theorem fdiv_abs {i c : Int} (h0 : c ≠ 0) (h : c ∣ i) : (i.fdiv c).natAbs ≤ i.natAbs := by
  obtain ⟨q, rfl⟩ := h
  rw [Int.mul_fdiv_cancel_left q h0, Int.natAbs_mul]
  exact Nat.le_mul_of_pos_left _ (by omega)
theorem it_low {b t : Int} (b0 : b ≠ 0) (hb : Sm 600 b) (ht : Sm 600 t) : It1 (.tuple ((low b t).map PyData.int)) := by
  obtain ⟨d1, d2⟩ := cs_dvd b t
  exact it_pair (Nat.lt_of_le_of_lt (fdiv_abs (cs_ne b0) d1) hb) (Nat.lt_of_le_of_lt (fdiv_abs (cs_ne b0) d2) ht)
theorem sgn_eq (a : Int) : b2i (decide (0 < a)) - b2i (decide (a < 0)) = sgn a := by
  unfold sgn
  rcases Int.lt_trichotomy a 0 with h | h | h
  · rw [decide_eq_false (by omega), decide_eq_true h, if_neg (by omega), if_neg (by omega)]
    rfl
  · rw [decide_eq_false (by omega), decide_eq_false (by omega), if_pos h]
    rfl
  · rw [decide_eq_true h, decide_eq_false (by omega), if_neg (by omega), if_pos h]
    rfl
theorem sgn_sm (a : Int) : Sm 600 (sgn a) := by
  have h : (sgn a).natAbs ≤ 1 := by
    unfold sgn
    split
    · decide
    · split <;> decide
  exact Nat.lt_of_le_of_lt h (Nat.one_lt_pow (by decide) (by decide))
/-- a def where no repr is under way -/
structure CalG (P : Program) (w : World) (K : PySem.W.Frag) (mg : Str → Option Value) (base : Heap) (k : Nat) (x : Str) (ps : List Str) (sp : Sp) : Prop where
  ex : ∃ f fd, FnG P w K mg base k f fd ps sp ∧ Binds K fd ps [] ∧ mg x = some (.ref f) ∧ PySem.W.keepIn K (.ref f) = true
theorem mkG {P : Program} {w : World} {K : PySem.W.Frag} {mg : Str → Option Value} {base : Heap} {sp : Sp} {N ps : List Str} {x : Str} {st : Stmt} {k : Nat}
    (D : Df K mg x st) (S : FnScope N ps (defScope st))
    (hb : ∀ (kV doc pm : Value) (an : Option Addr) (cdv ct : Value) (us : List Value), us.length = ps.length → bindArgs (PySem.W.fnOf x x (defArgs st) (defBody st) (defScope st) .none kV doc pm an cdv ct) ⟨us, []⟩ = pure (ps.zip us))
    (hl : ∀ vs H Q E, sp vs H Q E → vs.length = ps.length)
    (h : ∀ (f : Addr) (cdv : Value) (A : Around) (outer : List Env) (s : Shared) (H : Hp) (vs : List V) (Q : VK) (E : XK), Room k (A.deeper (envOfC x (defScope st) s.heap.objs.size f cdv)) → A.guards = some [] → sp vs H Q E →
      ∃ t, PSs (cxOf CX0 P w K mg base N x (defScope st) f cdv A outer s H E).nox (defBody st) t ∧ t { nx := fun _ H' => Q .non H', rt := Q } (L2.start N vs) H) :
    CalG P w K mg base (k + 1) x ps sp := by
  obtain ⟨f, fd, F, m⟩ := D.ex
  exact ⟨f, fd, fn_g F S hl (fun cdv A outer s H vs Q E hr hG hsp => h f cdv A outer s H vs Q E hr hG hsp), F.binds hb, m, F.kp⟩
theorem pe_clG {X : Cx} {k j : Nat} {ps : List Str} {sp : Sp} {x : Str} {p pos : Pos} {e : Expr} {es : List Expr} {t : TA} (C : CalG X.prog X.w X.K X.mg X.base k x ps sp) (hr : Room j X.A) (hG : X.A.guards = some []) (ha : PA X (e :: es) t) (hkj : k ≤ j := by decide) (hg : Gl X x := by rfl) (hdb : (x == ("__debug__" : Str)) = false := by decide)
    (he : starEach (e :: es) X.env = (false, eval e X.env) :: starEach es X.env := by rfl) (hpl : (backTo pos (starEach es X.env)).any (·.1) = false := by rfl) :
    PE X (.Call (.Name x p) (e :: es) [] pos) (tCall sp [] E0 t) := by
  obtain ⟨f, fd, F, b, m, kp⟩ := C.ex
  exact pe_callg F (hr.mono hkj) hG hg m kp b ha hdb he hpl
end Xq

/-! What is held. -/
namespace Xq
open PySem PySem.Spec PyProof.Rows L2 Xk
theorem SameX.putN {r p : Addr} {H0 H1 : Hp} {o : HO} (s : SameX r H0 H1) (h : H0 p = none) : SameX r H0 (upd H1 p o) := fun b u n e => by
  rw [upd_ne (ne_of_none e h)]
  exact s b u n e
theorem Num.sameX {r : Addr} {H H' : Hp} {p : Addr} {d a : Int} (rk : RkI H r) (s : SameX r H H') (h : Num H p d a) : Num H' p d a := ⟨h.at_.sameX rk s, h.pos, h.red⟩
theorem Num.putL {H : Hp} {p q : Addr} {d a : Int} {xs : List V} {o : HO} (hp : H p = some (.lst xs)) (h : Num H q d a) : Num (upd H p o) q d a := by
  refine ⟨?_, h.pos, h.red⟩
  have z : H q = some (.tup [.int d, .int a]) := h.at_
  have n : q ≠ p := fun e => by
    rw [e, hp] at z
    cases z
  show upd H p o q = _
  rw [upd_ne n]
  exact z
theorem lst_sameX {r p : Addr} {H H' : Hp} {xs : List V} (n : p ≠ r) (s : SameX r H H') (h : H p = some (.lst xs)) : H' p = some (.lst xs) := s _ _ n h
theorem it_two {u v : Int} (hu : Sm 600 u) (hv : Sm 600 v) : It1 (.tuple ([u, v].map PyData.int)) := it_pair hu hv
abbrev nW : List Str := ["_law_rack_here", "_law_shape", "_law_mine", "_law_mate", "_law_its", "_law_turn", "_law_size", "_law_parts", "_law_k", "_law_d", "_law_a", "_law_e", "_law_f", "_law_times", "_law_due", "_law_each", "_law_told"]
theorem s86 : FnScope nW ["_law_rack_here"] (defScope (top 86)) := (⟨rfl, rfl, rfl, by decide +kernel, rfl, by decide +kernel, by decide +kernel⟩)
def spRight : Sp := fun vs H Q _ => ∃ r, vs = [.ref r] ∧ RkI H r ∧ ∀ H', SameX r H H' → RkI H' r → Q (.bl true) H'
/-- a number of the parts -/
def Pt (H : Hp) (q : Addr × Int × Int) : Prop := Num H q.1 q.2.1 q.2.2 ∧ Sm 150 q.2.1 ∧ Sm 150 q.2.2
theorem TI.putL {H : Hp} {p q : Addr} {ys : List Int} {xs : List V} {o : HO} (hp : H p = some (.lst xs)) (h : TI H q ys) : TI (upd H p o) q ys := by
  have z : H q = some (.tup (ys.map V.int)) := h
  have n : q ≠ p := fun e => by
    rw [e, hp] at z
    cases z
  show upd H p o q = _
  rw [upd_ne n]
  exact z
theorem absU {p : Addr} {o : HO} {H : Hp} {G : Hp → Prop} (h : ∀ H', Same H H' → H' p = some o → G H') (hp : H p = none) : G (upd H p o) := h _ (same_new hp) upd_same
/-- what is due -/
def due (d a e f t : Int) : List PyData := [.tuple ((low (d * e) (a * e + f * d)).map PyData.int), .tuple ((low (d * e) (a * f)).map PyData.int), .tuple ([d, -a].map PyData.int), .int (sgn a), .int ((a * t).fdiv d)] ++
  (if f = 0 then [] else [.tuple ((low (d * f) (a * e)).map PyData.int)])
theorem fdiv_sm {i d : Int} {n : Nat} (h : 1 ≤ d) (hi : Sm n i) : Sm n (i.fdiv d) := by
  rw [Int.fdiv_eq_ediv_of_nonneg i (by omega)]
  have q : (i / d).natAbs ≤ i.natAbs := Int.natAbs_ediv_le_natAbs i d
  exact Nat.lt_of_le_of_lt q hi
theorem due_sho {d a e f t : Int} (hd : 1 ≤ d) (he : 1 ≤ e) (bd : Sm 150 d) (ba : Sm 150 a) (be : Sm 150 e) (bf : Sm 150 f) (bt : Sm 140 t) : Sho (.list (due d a e f t)) := by
  have de0 := pos_mul hd he
  have b1 : Sm 600 (d * e) := sm_le (sm_mul bd be) (by decide)
  have b2 : Sm 600 (a * e + f * d) := sm_le (sm_add (sm_mul ba be) (sm_mul bf bd)) (by decide)
  have b3 : Sm 600 (a * f) := sm_le (sm_mul ba bf) (by decide)
  have b4 : Sm 600 (a * e) := sm_le (sm_mul ba be) (by decide)
  have b5 : Sm 600 (d * f) := sm_le (sm_mul bd bf) (by decide)
  refine sho_list (fun x hx => ?_) ?_
  · unfold due at hx
    rcases List.mem_append.mp hx with hx | hx
    · simp only [List.mem_cons, List.mem_nil_iff, or_false] at hx
      rcases hx with rfl | rfl | rfl | rfl | rfl
      · exact it_low de0 b1 b2
      · exact it_low de0 b1 b3
      · exact it_two (sm_le bd (by decide)) (sm_le (sm_neg ba) (by decide))
      · exact it_int (sgn_sm a)
      · exact it_int (sm_le (fdiv_sm hd (sm_mul ba bt)) (by decide))
    · by_cases hf : f = 0
      · rw [if_pos hf] at hx
        cases hx
      · rw [if_neg hf] at hx
        rw [List.mem_singleton.mp hx]
        refine it_low (fun z => ?_) b5 b4
        rcases Int.mul_eq_zero.mp z with z | z
        · omega
        · exact hf z
  · unfold due
    split
    · show 5 ≤ 10
      decide
    · show 6 ≤ 10
      decide
/-- the parts at p -/
structure Pr (H : Hp) (p q1 q2 : Addr) (d a e f : Int) : Prop where
  at_ : H p = some (.lst [.ref q1, .ref q2])
  n1 : Num H q1 d a
  n2 : Num H q2 e f
theorem Pr.same {H H' : Hp} {p q1 q2 : Addr} {d a e f : Int} (s : Same H H') (h : Pr H p q1 q2 d a e f) : Pr H' p q1 q2 d a e f := ⟨s _ _ h.at_, h.n1.same s, h.n2.same s⟩
structure Bd (d a e f t : Int) : Prop where
  d_ : Sm 150 d
  a_ : Sm 150 a
  e_ : Sm 150 e
  f_ : Sm 150 f
  t_ : Sm 140 t
  t1 : 1 ≤ t
  t2 : t ≤ 10 ^ 40
section
variable {P : Program} {w : World} {K : PySem.W.Frag} {mg : Str → Option Value} {base : Heap} {C : Addr}
structure Cs (P : Program) (w : World) (K : PySem.W.Frag) (mg : Str → Option Value) (base : Heap) (C : Addr) : Prop where
  B : Bl mg
  S : ShC K mg C
  drawn : Cal P w K mg base 9 "_law_drawn" ["_law_rack_here"] (spDrawn C)
  pick : Cal P w K mg base 1 "_law_pick" ["_law_rack_here", "_law_many"] spPick
  low : Cal P w K mg base 2 "_law_low" ["_law_bottom", "_law_top"] spLLow
  root : Cal P w K mg base 5 "root" ["shape"] (spRoot C)
  total : Cal P w K mg base 5 "total" ["shape", "first", "second"] (spTotal C)
  product : Cal P w K mg base 5 "product" ["shape", "first", "second"] (spProd C)
  quotient : Cal P w K mg base 5 "quotient" ["shape", "first", "second"] (spQuot C)
  opposite : Cal P w K mg base 5 "opposite" ["shape", "number"] (spOpp C)
  sign : Cal P w K mg base 5 "sign" ["shape", "number"] (spSign C)
  floor : Cal P w K mg base 5 "floor_of" ["shape", "number", "scale"] (spFloor C)
  numof : Cal P w K mg base 4 "number_of" ["shape", "fraction"] (spNumOf C)
theorem c_right (D : Df K mg "_law_right" (top 86)) (U : Cs P w K mg base C) : CalG P w K mg base 10 "_law_right" ["_law_rack_here"] spRight := by
  refine mkG D s86 (fun _ _ _ _ _ _ us hl => match us, hl with | [_], _ => rfl) (fun vs H Q E h => ?_) (fun f cdv A outer s H vs Q E hr hG h => ?_)
  · obtain ⟨r, rfl, _⟩ := h
    rfl
  obtain ⟨r, rfl, hR, k⟩ := h
  have hG2 : (A.deeper (envOfC "_law_right" (defScope (top 86)) s.heap.objs.size f cdv)).guards = some [] := hG
  have hu : (A.deeper (envOfC "_law_right" (defScope (top 86)) s.heap.objs.size f cdv)).units + 21 < cLine := by have := hr.un; omega
  have hu2 : (A.deeper (envOfC "_law_right" (defScope (top 86)) s.heap.objs.size f cdv)).units + 64 < cLine := by have := hr.un; omega
  refine ⟨_, pss_cons (ps_asg (pe_cl U.drawn hr (pa_cons (pv 0) pa_nil)) (pg_tup rfl (pgs_cons ((pg_name (i := 1) (FnScope.nd s86) rfl (Or.inl rfl))) (pgs_cons ((pg_name (i := 2) (FnScope.nd s86) rfl (Or.inl rfl))) pgs_nil))))
    (pss_cons (ps_asg (pe_cl U.drawn hr (pa_cons (pv 0) pa_nil)) (pg_tup rfl (pgs_cons ((pg_name (i := 3) (FnScope.nd s86) rfl (Or.inl rfl))) (pgs_cons ((pg_name (i := 4) (FnScope.nd s86) rfl (Or.inl rfl))) pgs_nil))))
    (pss_cons (ps_if (PW.pt (pw_or ((pt_cmpR op_ne (pe_callB (call_repr hG2 hu) (by rfl) U.B.repr_ PyProof.Rows.boot_repr (pa_cons (pe_lstN (pa_cons (pe_cl U.root hr (pa_cons (pv 1) pa_nil)) (pa_cons (pe_cl U.root hr (pa_cons (pv 3) pa_nil)) pa_nil))) pa_nil)) (pe_callB (call_repr hG2 hu) (by rfl) U.B.repr_ PyProof.Rows.boot_repr (pa_cons (pe_lstN (pa_cons (pv 2) (pa_cons (pv 4) pa_nil))) pa_nil)) (nomark _))) (pw_or1 ((pt_cmpR op_ne (pe_deg (j := 0) U.S U.B (pv 1) (hr.mono (by decide))) pe_int (nomark _)))))) pss_nv pss_nil)
    (pss_cons (ps_for PassesOwn.never rfl (pi_range1 (by rfl) U.B.range_ (pa_cons pe_int pa_nil)) ((pg_name (i := 5) (FnScope.nd s86) rfl (Or.inl rfl)))
      (pss_cons (ps_par (i := 6) (j := 7) rfl s86.nd rfl rfl (by decide) rfl rfl (pa_cons ((pe_ix ix_list (pe_lst (pa_cons pe_int (pa_cons (pe_op op_pow pe_int pe_int) pa_nil))) (pe_cl U.pick hr (pa_cons (pv 0) (pa_cons pe_int pa_nil))) (fun _ _ => rfl))) (pa_cons (pe_lst pa_nil) pa_nil)) rfl)
      (pss_cons (ps_for PassesOwn.never rfl (pi_range1 (by rfl) U.B.range_ (pa_cons pe_int pa_nil)) ((pg_name (i := 8) (FnScope.nd s86) rfl (Or.inl rfl)))
        (pss_one (ps_expr ((pe_bm PySem.F.plainAttrs_list PySem.F.slot_list_append PySem.F.type_list_append mt_append (pv 7) (pa_cons (pe_cl U.low hr (pa_cons (pe_op op_add pe_int (pe_cl U.pick hr (pa_cons (pv 0) (pa_cons (pv 6) pa_nil)))) (pa_cons (pe_op op_sub (pe_cl U.pick hr (pa_cons (pv 0) (pa_cons (pe_op op_mul pe_int (pv 6)) pa_nil))) (pv 6)) pa_nil))) pa_nil))))))
      (pss_cons (ps_asg (pv 7) (pg_unl rfl (pgs_cons (pg_tup rfl (pgs_cons ((pg_name (i := 9) (FnScope.nd s86) rfl (Or.inl rfl))) (pgs_cons ((pg_name (i := 10) (FnScope.nd s86) rfl (Or.inl rfl))) pgs_nil))) (pgs_cons (pg_tup rfl (pgs_cons ((pg_name (i := 11) (FnScope.nd s86) rfl (Or.inl rfl))) (pgs_cons ((pg_name (i := 12) (FnScope.nd s86) rfl (Or.inl rfl))) pgs_nil))) pgs_nil))))
      (C8.pss_cut ((ps_set (i := 13) (FnScope.nd s86) rfl (Or.inl rfl) (pe_op op_add pe_int (pe_cl U.pick hr (pa_cons (pv 0) (pa_cons (pe_op op_pow pe_int pe_int) pa_nil))))))
      (pss_cons ((ps_set (i := 14) (FnScope.nd s86) rfl (Or.inl rfl) (pe_lstN (pa_cons (pe_cl U.low hr (pa_cons (pe_op op_mulW (pv 9) (pv 11)) (pa_cons (pe_op op_add (pe_op op_mulW (pv 10) (pv 11)) (pe_op op_mulW (pv 12) (pv 9))) pa_nil)))
          (pa_cons (pe_cl U.low hr (pa_cons (pe_op op_mulW (pv 9) (pv 11)) (pa_cons (pe_op op_mulW (pv 10) (pv 12)) pa_nil))) (pa_cons (pe_tup (pa_cons (pv 9) (pa_cons (pe_op op_sub pe_int (pv 10)) pa_nil))) pa_nil))))))
      (pss_cons ((ps_set (i := 14) (FnScope.nd s86) rfl (Or.inl rfl) (pe_op op_catN (pv 14) (pe_lst (pa_cons (pe_op op_subB (pe_cmpR op_gt (pv 10) pe_int (nomark _)) (pe_cmpR op_lt (pv 10) pe_int (nomark _))) (pa_cons (pe_op op_fdivX (pe_op op_mulW (pv 10) (pv 13)) (pv 9)) pa_nil))))))
      (C8.pss_cut (ps_if ((pt_cmpR op_ne (pv 12) pe_int (nomark _))) (pss_one (ps_expr ((pe_bm PySem.F.plainAttrs_list PySem.F.slot_list_append PySem.F.type_list_append mt_append (pv 14) (pa_cons (pe_cl U.low hr (pa_cons (pe_op op_mulW (pv 9) (pv 12)) (pa_cons (pe_op op_mulW (pv 10) (pv 11)) pa_nil))) pa_nil))))) pss_nil)
      (pss_one (ps_for PassesOwn.never rfl (pi_list (pe_lst (pa_cons (pv 1) (pa_cons (pv 3) pa_nil)))) ((pg_name (i := 15) (FnScope.nd s86) rfl (Or.inl rfl)))
        (pss_cons ((ps_set (i := 16) (FnScope.nd s86) rfl (Or.inl rfl) (pe_lstN (pa_cons (pe_cl U.total hr (pa_cons (pv 15) (pa_cons ((pe_ix ix_list (pv 7) pe_int (fun _ _ => rfl))) (pa_cons ((pe_ix ix_list (pv 7) pe_int (fun _ _ => rfl))) pa_nil)))) (pa_cons (pe_cl U.product hr (pa_cons (pv 15) (pa_cons ((pe_ix ix_list (pv 7) pe_int (fun _ _ => rfl))) (pa_cons ((pe_ix ix_list (pv 7) pe_int (fun _ _ => rfl))) pa_nil)))) (pa_cons (pe_cl U.opposite hr (pa_cons (pv 15) (pa_cons ((pe_ix ix_list (pv 7) pe_int (fun _ _ => rfl))) pa_nil))) pa_nil))))))
        (pss_cons ((ps_set (i := 16) (FnScope.nd s86) rfl (Or.inl rfl) (pe_op op_catN (pv 16) (pe_lst (pa_cons (pe_cl U.sign hr (pa_cons (pv 15) (pa_cons ((pe_ix ix_list (pv 7) pe_int (fun _ _ => rfl))) pa_nil))) (pa_cons (pe_cl U.floor hr (pa_cons (pv 15) (pa_cons ((pe_ix ix_list (pv 7) pe_int (fun _ _ => rfl))) (pa_cons (pv 13) pa_nil)))) pa_nil))))))
        (C8.pss_cut (ps_if ((pt_cmpR op_ne (pv 12) pe_int (nomark _))) (pss_one (ps_expr ((pe_bm PySem.F.plainAttrs_list PySem.F.slot_list_append PySem.F.type_list_append mt_append (pv 16) (pa_cons (pe_cl U.quotient hr (pa_cons (pv 15) (pa_cons ((pe_ix ix_list (pv 7) pe_int (fun _ _ => rfl))) (pa_cons ((pe_ix ix_list (pv 7) pe_int (fun _ _ => rfl))) pa_nil)))) pa_nil))))) pss_nil)
        (pss_one (ps_if (PW.pt (pw_or ((pt_cmpR op_ne (pe_callB (call_repr hG2 hu) (by rfl) U.B.repr_ PyProof.Rows.boot_repr (pa_cons (pv 16) pa_nil)) (pe_callB (call_repr hG2 hu) (by rfl) U.B.repr_ PyProof.Rows.boot_repr (pa_cons (pv 14) pa_nil)) (nomark _)))
          (pw_or1 (pt_cmpR (op_neD hu2) (pe_cl U.numof hr (pa_cons (pv 15) (pa_cons (pe_tup (pa_cons (pv 10) (pa_cons (pv 9) pa_nil))) pa_nil))) ((pe_ix ix_list (pv 7) pe_int (fun _ _ => rfl))) (nomark _))))) pss_nv pss_nil)))))))))))))))
    (pss_one (ps_ret pe_bl))))), ?_⟩
  refine ⟨_, rfl, (), r, rfl, hR, trivial, ?_⟩
  rintro _ H1 x1 hR1 ⟨t1, sh1, m1, d1, n1, rfl, ht1, D1⟩
  refine ⟨t1, _, rfl, SqT.of ht1, rfl, _, _, rfl, _, _, rfl, rfl, ?_⟩
  refine ⟨_, rfl, (), r, rfl, hR1, trivial, ?_⟩
  rintro _ H2 x2 hR2 ⟨t2, sh2, m2, d2, n2, rfl, ht2, D2⟩
  refine ⟨t2, _, rfl, SqT.of ht2, rfl, _, _, rfl, _, _, rfl, rfl, ?_⟩
  have D1 := D1.sameX hR1 x2
  have x12 := x1.trans x2
  clear ht1 ht2
  -- the roots
  refine ⟨_, rfl, (sh1, 0 - n1, d1), rfl, D1.1, ?_⟩
  rintro _ H3 s3 ⟨g1, rfl, hg1⟩
  refine ⟨_, rfl, (sh2, 0 - n2, d2), rfl, D2.1.same s3, ?_⟩
  rintro _ H4 s4 ⟨g2, rfl, hg2⟩
  have lw : ∀ d n : Int, 1 ≤ d → gcdL [d, n] = 1 → low d (-(0 - n)) = [d, n] := fun d n h1 h2 => by
    have e : -(0 - n) = n := by omega
    rw [e]
    exact low_id h1 h2
  have hg1 : TI H3 g1 (low d1 (-(0 - n1))) := hg1
  have hg2 : TI H4 g2 (low d2 (-(0 - n2))) := hg2
  rw [lw d1 n1 D1.2.2.1.1 D1.2.2.2.2] at hg1
  rw [lw d2 n2 D2.2.2.1.1 D2.2.2.2.2] at hg2
  have sm1000 : ∀ i : Int, 1 ≤ i ∧ i ≤ 1000 → Sm 600 i := fun i hi => Nat.lt_of_lt_of_le (show i.natAbs < 2 ^ 10 by omega) (Nat.pow_le_pow_right (by decide) (by decide))
  have shoR : Sho (.list [.tuple ([d1, n1].map PyData.int), .tuple ([d2, n2].map PyData.int)]) := sho_list (fun d hd => by
    simp only [List.mem_cons, List.mem_nil_iff, or_false] at hd
    rcases hd with rfl | rfl
    · exact it_two (sm1000 _ D1.2.2.1) (sm1000 _ D1.2.2.2.1)
    · exact it_two (sm1000 _ D2.2.2.1) (sm1000 _ D2.2.2.2.1)) (by show 2 ≤ 10; decide)
  refine ⟨(by show 2 ≤ sizeLine; decide), fun l1 hl1 nl1 => ?_⟩
  have z5 := same_new (o := .lst [.ref g1, .ref g2]) hl1
  refine ⟨l1, _, rfl, .lst upd_same nl1 (.cons (sh_TI ((s4.trans z5) _ _ hg1)) (.cons (sh_TI (z5 _ _ hg2)) .nil)), shoR.sh, shoR.dp, shoR.ln, ?_⟩
  have s5 := s3.trans (s4.trans z5)
  refine ⟨_, rfl, _, rfl, (by show 2 ≤ sizeLine; decide), fun l2 hl2 nl2 => ?_⟩
  have s6 := Same.new (o := .lst [.ref m1, .ref m2]) s5 hl2
  refine ⟨l2, _, rfl, .lst upd_same nl2 (.cons (sh_TI (s6 _ _ D1.2.1)) (.cons (sh_TI (s6 _ _ D2.2.1)) .nil)), shoR.sh, shoR.dp, shoR.ln, rfl, _, rfl, iteNS rfl ?_⟩
  have D1 := D1.same s6
  have D2 := D2.same s6
  have hR6 := hR2.same s6
  have x6 := x12.trans (SameX.of s6)
  clear hg1 hg2 shoR hl2 hl1 z5 s3 s4 s5
  obtain ⟨dx1, q1, tx1, z1, z2, z3⟩ := id D1.1
  refine ⟨_, rfl, sh1, dx1, _, rfl, z1, sh1, 0 - n1, d1, rfl, D1.1, rfl, _, rfl, iteF ?_⟩
  clear z1 z2 z3
  generalize upd _ l2 _ = H6 at s6 D1 D2 hR6 x6 ⊢
  -- the five turns
  refine ⟨5, rfl, by decide, by decide, for_range (n := 5) (fun i σ H' => SameX r H6 H' ∧ RkI H' r ∧ ∃ z5 z6 z7 z8 z9 z10 z11 z12 z13 z14 z15 z16 : Option V,
    σ = [some (.ref r), some (.ref sh1), some (.ref m1), some (.ref sh2), some (.ref m2), z5, z6, z7, z8, z9, z10, z11, z12, z13, z14, z15, z16]) ⟨SameX.of (Same.refl _), hR6, _, _, _, _, _, _, _, _, _, _, _, _, rfl⟩ ?_ ?_⟩
  · rintro i σ H7 hi ⟨x7, hR7, z5, z6, z7, z8, z9, z10, z11, z12, z13, z14, z15, z16, rfl⟩
    obtain ⟨w5, hw5⟩ : ∃ w5 : Option V, some (.int (0 + (i : Int))) = w5 := ⟨_, rfl⟩
    refine ⟨10, 40, rfl, rfl, ⟨by decide, by decide, by decide⟩, by decide, fun l hl => ?_⟩
    have y1 := same_new (o := .lst [.int 9, .int (10 ^ 40)]) hl
    have lr : l ≠ r := fun e => new_ne hR7 hl e.symm
    refine ⟨_, rfl, 2, r, rfl, hR7.same y1, ⟨by decide, by decide⟩, ?_⟩
    rintro _ H8 x8 hR8 ⟨c, rfl, c0, c2⟩
    have hl8 : H8 l = some (.lst [.int 9, .int (10 ^ 40)]) := lst_sameX lr x8 upd_same
    obtain ⟨sz, hsz, hat⟩ : ∃ sz : Int, (sz = 9 ∨ sz = 10 ^ 40) ∧ atI [V.int 9, V.int (10 ^ 40)] c = some (.int sz) := by
      rcases (show c = 0 ∨ c = 1 by omega) with rfl | rfl
      · exact ⟨9, .inl rfl, rfl⟩
      · exact ⟨10 ^ 40, .inr rfl, rfl⟩
    have sz1 : 1 ≤ sz := by rcases hsz with rfl | rfl <;> decide
    have bsz : sz ≤ 10 ^ 40 := by rcases hsz with rfl | rfl <;> decide
    refine ⟨l, _, _, .int sz, rfl, rfl, SqL.of hl8, hat, Nat.zero_le _, fun p hp => ⟨_, _, rfl, ?_⟩⟩
    have x78 : SameX r H6 H8 := x7.trans ((SameX.of y1).trans x8)
    have pr : p ≠ r := fun e => new_ne hR8 hp e.symm
    rw [show some (V.int (0 + (i : Int))) = w5 from hw5]
    have sm133 : ∀ z : Int, z.natAbs ≤ 10 ^ 40 → Sm 150 z := fun z hz => Nat.lt_of_le_of_lt hz (by decide)
    -- the two parts
    refine ⟨2, rfl, by decide, by decide, for_range (n := 2) (fun j σ H' => SameX r H8 H' ∧ RkI H' r ∧ (∃ L : List (Addr × Int × Int), L.length = j ∧ H' p = some (.lst (L.map fun q => V.ref q.1)) ∧ ∀ q ∈ L, Pt H' q) ∧
      ∃ z8 : Option V, σ = [some (.ref r), some (.ref sh1), some (.ref m1), some (.ref sh2), some (.ref m2), w5, some (.int sz), some (.ref p), z8, z9, z10, z11, z12, z13, z14, z15, z16])
      ⟨SameX.of (same_new hp), hR8.same (same_new hp), ⟨[], rfl, upd_same, fun q hq => by cases hq⟩, z8, rfl⟩ ?_ ?_⟩
    · rintro j σ H9 hj ⟨x9, hR9, ⟨L, hL, hp9, hPt⟩, z8, rfl⟩
      refine ⟨_, rfl, .inl ⟨rfl, _, SqL.of hp9⟩, ?_⟩
      refine ⟨_, rfl, _, rfl, sz, r, rfl, hR9, ⟨sz1, sm133 _ (by omega)⟩, ?_⟩
      rintro _ H10 x10 hR10 ⟨n1', rfl, a0, a1⟩
      refine ⟨_, _, rfl, rfl, ?_⟩
      refine ⟨_, rfl, _, rfl, _, _, rfl, rfl, .inl ⟨by decide, by decide⟩, 2 * sz, r, rfl, hR10, ⟨by show 1 ≤ 2 * sz; omega, ?_⟩, ?_⟩
      · exact Nat.lt_of_le_of_lt (show (2 * sz).natAbs ≤ 2 * 10 ^ 40 by omega) (by decide)
      rintro _ H11 x11 hR11 ⟨n2', rfl, b0, b1⟩
      have b1 : n2' < 2 * sz := b1
      refine ⟨_, rfl, _, _, rfl, rfl, (1 + n1', n2' - sz), rfl, ⟨by show 1 + n1' ≠ 0; omega, sm_le (sm133 _ (show (1 + n1').natAbs ≤ 10 ^ 40 by omega)) (by decide), sm_le (sm133 _ (show (n2' - sz).natAbs ≤ 10 ^ 40 by omega)) (by decide)⟩, ?_⟩
      rintro _ H12 s12 ⟨q, rfl, hq⟩
      have hq : TI H12 q (low (1 + n1') (n2' - sz)) := hq
      obtain ⟨d, a, g, hg, hd, ha, hlow, hgcd, hd1⟩ := low_spec (b := 1 + n1') (t := n2' - sz) (by omega)
      rw [hlow] at hq
      have dle := le_of_mul hg hd (by omega)
      have ale := abs_of_mul hg ha
      have x12 : SameX r H9 H12 := x10.trans (x11.trans (SameX.of s12))
      have hp12 := lst_sameX pr x12 hp9
      refine ⟨p, _, _, rfl, rfl, hp12, ?_, ?_⟩
      · rw [List.length_map, hL]
        have : 2 ≤ sizeLine := by decide
        omega
      refine ⟨(x9.trans x12).putN hp, ?_, ⟨L ++ [(q, d, a)], ?_, ?_, ?_⟩, _, rfl⟩
      · obtain ⟨u1, u2, u3, hu⟩ := hR11.same s12
        exact ⟨u1, u2, u3, (upd_ne (Ne.symm pr)).trans hu⟩
      · rw [List.length_append, hL]
        rfl
      · rw [List.map_append]
        exact upd_same
      · intro z hz
        rcases List.mem_append.mp hz with hz | hz
        · have w := hPt z hz
          exact ⟨(w.1.sameX hR9 x12).putL hp12, w.2⟩
        · rw [List.mem_singleton.mp hz]
          exact ⟨Num.putL hp12 ⟨hq, hd1, hgcd⟩, sm133 d (by omega), sm133 a (by omega)⟩
    · rintro σ H9 ⟨x9, hR9, ⟨L, hL, hp9, hPt⟩, z8, rfl⟩
      obtain ⟨q1, d, a, q2, e, f, rfl⟩ : ∃ q1 d a q2 e f, L = [(q1, d, a), (q2, e, f)] := by
        rcases L with _ | ⟨⟨q1, d, a⟩, _ | ⟨⟨q2, e, f⟩, _ | ⟨z, L⟩⟩⟩
        · cases hL
        · cases hL
        · exact ⟨q1, d, a, q2, e, f, rfl⟩
        · simp at hL
      have P1 := hPt (q1, d, a) (by simp)
      have P2 := hPt (q2, e, f) (by simp)
      obtain ⟨N1, bd, ba⟩ := P1
      obtain ⟨N2, be, bf⟩ := P2
      have N1 : Num H9 q1 d a := N1
      have N2 : Num H9 q2 e f := N2
      have bd : Sm 150 d := bd
      have ba : Sm 150 a := ba
      have be : Sm 150 e := be
      have bf : Sm 150 f := bf
      have hp9 : H9 p = some (.lst [.ref q1, .ref q2]) := hp9
      refine ⟨_, rfl, p, _, rfl, SqL.of hp9, rfl, _, _, rfl, q1, _, rfl, SqT.of N1.at_, rfl, _, _, rfl, _, _, rfl, rfl, _, _, rfl, q2, _, rfl, SqT.of N2.at_, rfl, _, _, rfl, _, _, rfl, rfl, rfl, ?_⟩
      -- the scale
      refine ⟨fun σ H' => ∃ t : Int, SameX r H6 H' ∧ RkI H' r ∧ Pr H' p q1 q2 d a e f ∧ Bd d a e f t ∧
        σ = [some (.ref r), some (.ref sh1), some (.ref m1), some (.ref sh2), some (.ref m2), w5, some (.int sz), some (.ref p), z8, some (.int d), some (.int a), some (.int e), some (.int f), some (.int t), z14, z15, z16], ?_, ?_⟩
      · refine ⟨_, rfl, 10, 9, rfl, rfl, ⟨by decide, by decide, by decide⟩, _, r, rfl, hR9, ⟨by decide, by decide⟩, ?_⟩
        rintro _ H10 x10 hR10 ⟨tm, rfl, tm0, tm1⟩
        have tm1 : tm < 1000000000 := tm1
        refine ⟨_, _, rfl, rfl, 1 + tm, x78.trans (x9.trans x10), hR10, ⟨lst_sameX pr x10 hp9, N1.sameX hR9 x10, N2.sameX hR9 x10⟩, ⟨bd, ba, be, bf, ?_, by omega, by omega⟩, rfl⟩
        exact Nat.lt_of_le_of_lt (show (1 + tm).natAbs ≤ 1000000000 by omega) (by decide)
      rintro σ H10 ⟨t, x10, hR10, PP, bb, rfl⟩
      have d1' := PP.n1.pos
      have e1' := PP.n2.pos
      have de0 := pos_mul d1' e1'
      have b1 : Sm 600 (d * e) := sm_le (sm_mul bd be) (by decide)
      have b2 : Sm 600 (a * e + f * d) := sm_le (sm_add (sm_mul ba be) (sm_mul bf bd)) (by decide)
      have b3 : Sm 600 (a * f) := sm_le (sm_mul ba bf) (by decide)
      have b4 : Sm 600 (a * e) := sm_le (sm_mul ba be) (by decide)
      have b5 : Sm 600 (d * f) := sm_le (sm_mul bd bf) (by decide)
      have df0 : f ≠ 0 → d * f ≠ 0 := fun hf z => by
        rcases Int.mul_eq_zero.mp z with z | z
        · omega
        · exact hf z
      have cdx : CDivX (a * t) d := ⟨by omega, Nat.lt_of_lt_of_le (PySem.Flt.log2_lt_of (show 0 < 150 by decide) bd) (by decide)⟩
      -- what is due
      refine ⟨_, rfl, _, rfl, _, _, rfl, rfl, cm bd be, _, rfl, _, rfl, _, _, rfl, rfl, cm ba be, _, rfl, _, rfl, _, _, rfl, rfl, cm bf bd, _, _, rfl, rfl, (d * e, a * e + f * d), rfl, ⟨de0, b1, b2⟩, ?_⟩
      rintro _ H11 s11 ⟨u1, rfl, hu1⟩
      refine ⟨_, rfl, _, rfl, _, _, rfl, rfl, cm bd be, _, rfl, _, rfl, _, _, rfl, rfl, cm ba bf, (d * e, a * f), rfl, ⟨de0, b1, b3⟩, ?_⟩
      rintro _ H12 s12 ⟨u2, rfl, hu2⟩
      refine ⟨_, rfl, _, rfl, _, _, rfl, rfl, (by show 2 ≤ sizeLine; decide), fun u3 hu3 => ⟨(by show 3 ≤ sizeLine; decide), fun l1 hl1 nl1 => ?_⟩⟩
      have y13 := same_new (o := .tup [.int d, .int (0 - a)]) hu3
      have y14 := same_new (o := .lst [.ref u1, .ref u2, .ref u3]) hl1
      have y1 := y13.trans y14
      have hu3' := y14 u3 (.tup [.int d, .int (0 - a)]) upd_same
      have l1' : ∀ HH : Hp, (upd HH l1 (.lst [.ref u1, .ref u2, .ref u3])) l1 = some (.lst [.ref u1, .ref u2, .ref u3]) := fun _ => upd_same
      refine ⟨_, rfl, _, rfl, _, _, rfl, rfl, _, rfl, _, _, rfl, rfl, _, _, rfl, rfl, _, rfl, _, rfl, _, _, rfl, rfl, cm ba bb.t_, _, rfl, _, _, rfl, rfl, cdx, (by show 2 ≤ sizeLine; decide), fun l2 hl2 => ?_⟩
      have y15 := same_new (o := .lst [.int (b2i (decide (0 < a)) - b2i (decide (a < 0))), .int ((a * t).fdiv d)]) hl2
      refine ⟨l1, l2, _, _, rfl, rfl, y15 _ _ (l1' _), upd_same, (by show 3 + 2 ≤ sizeLine; decide), fun l3 hl3 nl3 => ?_⟩
      refine absU (fun H16 y16 e3 => ?_) hl3
      have e3 : H16 l3 = some (.lst [.ref u1, .ref u2, .ref u3, .int (b2i (decide (0 < a)) - b2i (decide (a < 0))), .int ((a * t).fdiv d)]) := e3
      have s16 := (s11.trans s12).trans (y1.trans (y15.trans y16))
      have l30 : H10 l3 = none := new_of ((s11.trans s12).trans (y1.trans y15)) hl3
      have t1 : TI H16 u1 (low (d * e) (a * e + f * d)) := (s12.trans (y1.trans (y15.trans y16))) _ _ hu1
      have t2 : TI H16 u2 (low (d * e) (a * f)) := (y1.trans (y15.trans y16)) _ _ hu2
      have t3 : H16 u3 = some (.tup [.int d, .int (0 - a)]) := (y15.trans y16) _ _ hu3'
      have na : 0 - a = -a := by omega
      rw [na] at t3
      have t3 : TI H16 u3 [d, -a] := t3
      have e3 : H16 l3 = some (.lst [.ref u1, .ref u2, .ref u3, .int (sgn a), .int ((a * t).fdiv d)]) := by
        rw [← sgn_eq a]
        exact e3
      clear hu1 hu2 hu3 hl1 hl2 y13 y14 y1 hu3' l1' s11 s12 y15 y16 hl3
      -- what is due of the quotient
      refine ⟨fun σ H' => Same H10 H' ∧ Sh H' (.ref l3) (.list (due d a e f t)) ∧ ∃ z14 : Option V,
        σ = [some (.ref r), some (.ref sh1), some (.ref m1), some (.ref sh2), some (.ref m2), w5, some (.int sz), some (.ref p), z8, some (.int d), some (.int a), some (.int e), some (.int f), some (.int t), some (.ref l3), z15, z16], ?_, ?_⟩
      · refine ⟨_, rfl, rfl, _, rfl, ?_⟩
        by_cases hf : f = 0
        · rw [show (!decide (V.int f = V.int 0)) = false from by rw [hf]; rfl]
          refine iteF ⟨s16, ?_, none, rfl⟩
          unfold due
          rw [if_pos hf, List.append_nil]
          exact .lst e3 nl3 (.cons (sh_TI t1) (.cons (sh_TI t2) (.cons (sh_TI t3) (.cons (.int _) (.cons (.int _) .nil)))))
        · rw [show (!decide (V.int f = V.int 0)) = true from by rw [dec_int]; simpa using hf]
          refine iteT ⟨_, rfl, .inl ⟨rfl, _, SqL.of e3⟩, ?_⟩
          refine ⟨_, rfl, _, rfl, _, _, rfl, rfl, cm bd bf, _, rfl, _, rfl, _, _, rfl, rfl, cm ba be, (d * f, a * e), rfl, ⟨df0 hf, b5, b4⟩, ?_⟩
          rintro _ H17 s17 ⟨u4, rfl, hu4⟩
          have e4 := s17 _ _ e3
          refine ⟨l3, _, _, rfl, rfl, e4, (by show 5 < sizeLine; decide), ?_⟩
          refine ⟨Same.put (s16.trans s17) l30, ?_, none, rfl⟩
          unfold due
          rw [if_neg hf]
          exact .lst upd_same nl3 (.cons (sh_TI (TI.putL e4 (t1.same s17))) (.cons (sh_TI (TI.putL e4 (t2.same s17))) (.cons (sh_TI (TI.putL e4 (t3.same s17))) (.cons (.int _) (.cons (.int _) (.cons (sh_TI (TI.putL e4 hu4)) .nil))))))
      rintro σ H17 ⟨s17, shD, z14', rfl⟩
      clear t1 t2 t3 e3 s16
      -- both shapes
      have PP17 := PP.same s17
      have Da := (D1.sameX hR6 x10).same s17
      have Db := (D2.sameX hR6 x10).same s17
      refine ⟨_, rfl, _, rfl, (by show 2 ≤ sizeLine; decide), fun l4 hl4 => ?_⟩
      refine ⟨l4, rfl, ⟨_, SqL.of upd_same⟩, for_list (xs := [.ref sh1, .ref sh2]) (fun i σ H' => Same H17 H' ∧ H' l4 = some (.lst [.ref sh1, .ref sh2]) ∧ ∃ z15 z16 : Option V,
        σ = [some (.ref r), some (.ref sh1), some (.ref m1), some (.ref sh2), some (.ref m2), w5, some (.int sz), some (.ref p), z8, some (.int d), some (.int a), some (.int e), some (.int f), some (.int t), some (.ref l3), z15, z16])
        ⟨same_new hl4, upd_same, z15, z16, rfl⟩ (fun i σ H' _ q => SqL.of q.2.1) ?_ ?_⟩
      · rintro i' x σ H18 hx ⟨s18, hl18, z15, z16, rfl⟩
        obtain ⟨sh, x0, y0, rfl, hS⟩ : ∃ sh x0 y0, x = .ref sh ∧ Shp C H18 sh x0 y0 := by
          rcases i' with _ | _ | i'
          · cases hx
            exact ⟨sh1, _, _, rfl, Da.1.same s18⟩
          · cases hx
            exact ⟨sh2, _, _, rfl, Db.1.same s18⟩
          · cases hx
        have PP18 := PP17.same s18
        have pre2' : ∀ H' : Hp, Same H18 H' → preN2 C (sh, x0, y0, q1, d, a, q2, e, f) H' := fun H' s' => ⟨hS.same s', PP18.n1.same s', PP18.n2.same s', bd, ba, be, bf⟩
        have N1 := PP18.n1
        have ST1 : ∀ H' : Hp, Same H18 H' → H' p = some (.lst [.ref q1, .ref q2]) := fun H' s' => s' _ _ PP18.at_
        have fl7 : ∀ H' : Hp, Same H18 H' → Shp C H' sh x0 y0 ∧ Num H' q1 d a := fun H' s' => ⟨hS.same s', N1.same s'⟩
        refine ⟨_, rfl, _, rfl, p, _, _, .ref q1, rfl, rfl, SqL.of PP18.at_, atI_nat (j := 0) rfl, _, rfl, p, _, _, .ref q2, rfl, rfl, SqL.of PP18.at_, atI_nat (j := 1) rfl, (sh, x0, y0, q1, d, a, q2, e, f), rfl, pre2' _ (Same.refl _), ?_⟩
        rintro _ H19 s19 ⟨g1, rfl, hg1⟩
        have hg1 : TI H19 g1 (low (d * e) (a * e + f * d)) := hg1
        have p19 := ST1 _ s19
        refine ⟨_, rfl, _, rfl, p, _, _, .ref q1, rfl, rfl, SqL.of p19, atI_nat (j := 0) rfl, _, rfl, p, _, _, .ref q2, rfl, rfl, SqL.of p19, atI_nat (j := 1) rfl, (sh, x0, y0, q1, d, a, q2, e, f), rfl, pre2' _ s19, ?_⟩
        rintro _ H20 s20' ⟨g2, rfl, hg2⟩
        have hg2 : TI H20 g2 (low (d * e) (a * f)) := hg2
        have s20 := s19.trans s20'
        have p20 := ST1 _ s20
        refine ⟨_, rfl, _, rfl, p, _, _, .ref q1, rfl, rfl, SqL.of p20, atI_nat (j := 0) rfl, (sh, x0, y0, q1, d, a), rfl, fl7 _ s20, ?_⟩
        rintro _ H21 s21' ⟨g3, rfl, hg3⟩
        have hg3 : TI H21 g3 [d, -a] := hg3
        have s21 := s20.trans s21'
        refine ⟨(by show 3 ≤ sizeLine; decide), fun l5 hl5 nl5 => absU (fun H22 y22 e22 => ?_) hl5⟩
        have e22 : H22 l5 = some (.lst [.ref g1, .ref g2, .ref g3]) := e22
        have s22 := s21.trans y22
        have p22 := ST1 _ s22
        refine ⟨_, rfl, _, rfl, _, rfl, p, _, _, .ref q1, rfl, rfl, SqL.of p22, atI_nat (j := 0) rfl, (sh, x0, y0, q1, d, a), rfl, fl7 _ s22, ?_⟩
        rintro _ H23 s23' rfl
        have s23 := s22.trans s23'
        have p23 := ST1 _ s23
        refine ⟨_, rfl, _, rfl, p, _, _, .ref q1, rfl, rfl, SqL.of p23, atI_nat (j := 0) rfl, _, rfl, ((sh, x0, y0, q1, d, a), t), rfl, ⟨(fl7 _ s23).1, (fl7 _ s23).2, bb.t1, bb.t2, bd, ba⟩, ?_⟩
        rintro _ H24 s24' rfl
        have s24 := s23.trans s24'
        refine ⟨(by show 2 ≤ sizeLine; decide), fun l6 hl6 => ?_⟩
        have y25 := same_new (o := .lst [.int (sgn a), .int ((a * t).fdiv d)]) hl6
        have s25 := s24.trans y25
        refine ⟨l5, l6, _, _, rfl, rfl, (s23'.trans (s24'.trans y25)) _ _ e22, upd_same, (by show 3 + 2 ≤ sizeLine; decide), fun l7 hl7 nl7 => absU (fun H26 y26 e26 => ?_) hl7⟩
        have e26 : H26 l7 = some (.lst [.ref g1, .ref g2, .ref g3, .int (sgn a), .int ((a * t).fdiv d)]) := e26
        have s26 := s25.trans y26
        have l70 : H18 l7 = none := new_of s25 hl7
        have r1 : TI H26 g1 (low (d * e) (a * e + f * d)) := (s20'.trans (s21'.trans (y22.trans (s23'.trans (s24'.trans (y25.trans y26)))))) _ _ hg1
        have r2 : TI H26 g2 (low (d * e) (a * f)) := (s21'.trans (y22.trans (s23'.trans (s24'.trans (y25.trans y26))))) _ _ hg2
        have r3 : TI H26 g3 [d, -a] := (y22.trans (s23'.trans (s24'.trans (y25.trans y26)))) _ _ hg3
        -- the quotient
        refine ⟨fun σ H' => Same H18 H' ∧ Sh H' (.ref l7) (.list (due d a e f t)) ∧
          σ = [some (.ref r), some (.ref sh1), some (.ref m1), some (.ref sh2), some (.ref m2), w5, some (.int sz), some (.ref p), z8, some (.int d), some (.int a), some (.int e), some (.int f), some (.int t), some (.ref l3), some (.ref sh), some (.ref l7)], ?_, ?_⟩
        · refine ⟨_, rfl, rfl, _, rfl, ?_⟩
          by_cases hf : f = 0
          · rw [show (!decide (V.int f = V.int 0)) = false from by rw [hf]; rfl]
            refine iteF ⟨s26, ?_, rfl⟩
            unfold due
            rw [if_pos hf, List.append_nil]
            exact .lst e26 nl7 (.cons (sh_TI r1) (.cons (sh_TI r2) (.cons (sh_TI r3) (.cons (.int _) (.cons (.int _) .nil)))))
          · rw [show (!decide (V.int f = V.int 0)) = true from by rw [dec_int]; simpa using hf]
            refine iteT ⟨_, rfl, .inl ⟨rfl, _, SqL.of e26⟩, ?_⟩
            have p26 := ST1 _ s26
            refine ⟨_, rfl, _, rfl, p, _, _, .ref q1, rfl, rfl, SqL.of p26, atI_nat (j := 0) rfl, _, rfl, p, _, _, .ref q2, rfl, rfl, SqL.of p26, atI_nat (j := 1) rfl, (sh, x0, y0, q1, d, a, q2, e, f), rfl, ⟨pre2' _ s26, hf⟩, ?_⟩
            rintro _ H27 s27 ⟨g4, rfl, hg4⟩
            have hg4 : TI H27 g4 (low (d * f) (a * e)) := hg4
            have e27 := s27 _ _ e26
            refine ⟨l7, _, _, rfl, rfl, e27, (by show 5 < sizeLine; decide), ?_⟩
            refine ⟨Same.put (s26.trans s27) l70, ?_, rfl⟩
            unfold due
            rw [if_neg hf]
            exact .lst upd_same nl7 (.cons (sh_TI (TI.putL e27 (r1.same s27))) (.cons (sh_TI (TI.putL e27 (r2.same s27))) (.cons (sh_TI (TI.putL e27 (r3.same s27))) (.cons (.int _) (.cons (.int _) (.cons (sh_TI (TI.putL e27 hg4)) .nil))))))
        rintro σ H27 ⟨s27, shT, rfl⟩
        have ok := due_sho d1' e1' bd ba be bf bb.t_
        refine ⟨_, rfl, l7, _, rfl, shT, ok.sh, ok.dp, ok.ln, ?_⟩
        refine ⟨_, rfl, l3, _, rfl, Sh.same (s18.trans s27) _ _ shD, ok.sh, ok.dp, ok.ln, rfl, _, rfl, iteNS rfl ?_⟩
        refine ⟨_, rfl, _, rfl, _, rfl, (by show 2 ≤ sizeLine; decide), fun u hu5 => ?_⟩
        have y28 := same_new (o := .tup [.int a, .int d]) hu5
        have s28 := s27.trans y28
        refine ⟨(sh, x0, y0, u, d, a), rfl, ⟨(fl7 _ s28).1, upd_same, d1', N1.red, sm_le bd (by decide)⟩, ?_⟩
        rintro _ H29 s29' ⟨w1, rfl, hw1⟩
        have s29 := s28.trans s29'
        have hw1 : TI H29 w1 (low d a) := hw1
        rw [low_id d1' N1.red] at hw1
        have hw2 : TI H29 q1 [d, a] := ((fl7 _ s29).2).at_
        refine ⟨_, rfl, p, _, _, .ref q1, rfl, rfl, SqL.of (ST1 _ s29), atI_nat (j := 0) rfl, ?_⟩
        refine ⟨.tuple [.int d, .int a], .tuple [.int d, .int a], .tup (SqT.of hw1) (.cons (.int d) (.cons (.int a) .nil)), .tup (SqT.of hw2) (.cons (.int d) (.cons (.int a) .nil)), rfl, rfl, _, rfl, ?_⟩
        rw [SeqAt.eqv_refl _ rfl]
        exact iteF ⟨s18.trans s29, s29 _ _ hl18, _, _, rfl⟩
      · rintro σ H18 ⟨s18, hl18, z15, z16, rfl⟩
        exact ⟨x10.trans (SameX.of (s17.trans s18)), hR10.same (s17.trans s18), _, _, _, _, _, _, _, _, _, _, _, _, rfl⟩
  · rintro σ H7 ⟨x7, hR7, z5, z6, z7, z8, z9, z10, z11, z12, z13, z14, z15, z16, rfl⟩
    exact k _ (x6.trans x7) hR7
end
end Xq

/-! The law. -/
namespace Xq
open PySem PySem.Spec PyProof.Rows L2 Xk
abbrev nLaw : List Str := ["_law_cells", "_law_at"]
theorem s87 : FnScope nLaw ["_law_cells"] (defScope (top 87)) := (⟨rfl, rfl, rfl, by decide +kernel, rfl, by decide +kernel, by decide +kernel⟩)
def spLaw (K : PySem.W.Frag) : Sp := fun vs H Q _ => ∃ (a : Addr) (ns : List Int), vs = [.ref a] ∧ SqL K H a (ns.map V.int) ∧ ns.length ≤ 63 ∧ ∀ H', Q (.bl true) H'
theorem all_true : ∀ n : Nat, (List.replicate n true).all id = true := fun n => by
  rw [List.all_eq_true]
  intro x hx
  exact (List.mem_replicate.mp hx).2
section
variable {P : Program} {w : World} {K : PySem.W.Frag} {mg : Str → Option Value} {base : Heap} {C : Addr}
theorem c_rack (D : Df K mg "_law_rack" (top 81)) (B : Bl mg) : Cal P w K mg base 1 "_law_rack" ["_law_cells", "_law_at"] (spRack K) := by
  obtain ⟨f, fd, F, m⟩ := D.ex
  have lk : ∃ oc od osl, K.lookup f = some ⟨oc, od, .func fd, osl⟩ := by
    obtain ⟨oc, od, kV, doc, pm, an, cdv, ct, osl, _, lk, _⟩ := F.ex
    exact ⟨oc, od, osl, lk⟩
  exact ⟨f, fd, ok_rack F B, F.binds (fun _ _ _ _ _ _ us hl => match us, hl with | [_, _], _ => rfl), m, F.kp, lk⟩
theorem c_law (D : Df K mg "law" (top 87)) (B : Bl mg) (CR : CalG P w K mg base 10 "_law_right" ["_law_rack_here"] spRight) (CK : Cal P w K mg base 1 "_law_rack" ["_law_cells", "_law_at"] (spRack K)) : CalG P w K mg base 11 "law" ["_law_cells"] (spLaw K) := by
  refine mkG D s87 (fun _ _ _ _ _ _ us hl => match us, hl with | [_], _ => rfl) (fun vs H Q E h => ?_) (fun f cdv A outer s H vs Q E hr hG h => ?_)
  · obtain ⟨a, ns, rfl, _⟩ := h
    rfl
  obtain ⟨a, ns, rfl, hS, hlen, k⟩ := h
  have hG2 : (A.deeper (envOfC "law" (defScope (top 87)) s.heap.objs.size f cdv)).guards = some [] := hG
  refine ⟨_, pss_one (ps_ret (pe_callB (cr_all rfl) (by rfl) B.all_ PyProof.Rows.boot_all (pa_cons
      (pe_lc (own := [("_law_at", 1)]) (g := gName 1) (tt := tYes) (te := tCall spRight [] E0 (tCons (tCall (spRack K) [] E0 (tCons (tVar 0) (tCons (tVar 1) tNil))) tNil)) rfl s87.nd
        (pi_range1 (by rfl) B.range_ (pa_cons (pe_callB (call_max2 rfl) (by rfl) B.max_ PyProof.Rows.boot_max (pa_cons pe_int (pa_cons (pe_callB (call_min2 rfl) (by rfl) B.min_ PyProof.Rows.boot_min
          (pa_cons (pe_callB call_len_seq (by rfl) B.len_ PySem.boot_len (pa_cons (pv 0) pa_nil)) (pa_cons pe_int pa_nil))) pa_nil))) pa_nil))
        (blkOk_by (N := nLaw) (sc := defScope (top 87)) (by decide +kernel)) (fun _ _ _ _ _ => (pg_name (i := 1) (FnScope.nd s87) rfl (Or.inl rfl))) (fun _ _ _ _ _ => pts_nil)
        (fun _ _ _ _ _ => pe_clG CR hr hG2 (pa_cons (pe_cl CK hr (pa_cons (pv 0) (pa_cons (pv 1) pa_nil))) pa_nil))) pa_nil))), ?_⟩
  have e0 : L2.start nLaw [V.ref a] = [some (.ref a), none] := rfl
  rw [e0]
  have mn : -(2 ^ 62) ≤ (if (if (6 : Int) < (((ns.map V.int).length : Nat) : Int) then 6 else (((ns.map V.int).length : Nat) : Int)) > 2 then (if (6 : Int) < (((ns.map V.int).length : Nat) : Int) then 6 else (((ns.map V.int).length : Nat) : Int)) else 2) ∧
      (if (if (6 : Int) < (((ns.map V.int).length : Nat) : Int) then 6 else (((ns.map V.int).length : Nat) : Int)) > 2 then (if (6 : Int) < (((ns.map V.int).length : Nat) : Int) then 6 else (((ns.map V.int).length : Nat) : Int)) else 2) < 2 ^ 62 ∧
      (if (if (6 : Int) < (((ns.map V.int).length : Nat) : Int) then 6 else (((ns.map V.int).length : Nat) : Int)) > 2 then (if (6 : Int) < (((ns.map V.int).length : Nat) : Int) then 6 else (((ns.map V.int).length : Nat) : Int)) else 2).toNat ≤ 6 := by
    rw [List.length_map]
    refine ⟨?_, ?_, ?_⟩ <;> (split <;> split <;> omega)
  refine ⟨_, rfl, a, _, rfl, .inl hS, _, _, rfl, _, _, rfl, _, rfl, mn.1, mn.2.1, fun D hD => ?_⟩
  refine lc_range (fun i H' => Same H H' ∧ H' D = some (.lst ((List.replicate i true).map V.bl))) ⟨same_new hD, upd_same⟩ (fun i H' hi e => ?_) (fun H' e => ?_)
  · obtain ⟨sT, hDl⟩ := e
    refine ⟨rfl, ?_⟩
    simp only [tYes, if_true]
    refine ⟨_, rfl, _, rfl, a, ns, i, (by rw [Int.zero_add]; rfl), sT.seq hS, hlen, fun p x y H2 k2 hp hr2 => ?_⟩
    refine ⟨p, rfl, ⟨x, y, 7, hr2⟩, fun H3 k3 _ => ?_⟩
    have k4 : Same H' H3 := fun b o e => k3 b o (fun z => by rw [z, hp] at e; cases e) (k2 b o e)
    refine ⟨_, k4 _ _ hDl, ?_, ?_, ?_⟩
    · rw [List.length_map, List.length_replicate]
      exact Nat.lt_of_lt_of_le hi (Nat.le_trans mn.2.2 (by decide))
    · refine fun b o e => ?_
      rw [upd_ne (ne_of_none e hD)]
      exact k4 _ _ (sT _ _ e)
    · rw [upd_same, List.replicate_succ', List.map_append]
      rfl
  · obtain ⟨sT, hDl⟩ := e
    refine ⟨D, _, rfl, SqL.of hDl, ?_⟩
    rw [all_true]
    exact k _
/-- all defs where they stand -/
structure Ds (K : PySem.W.Frag) (mg : Str → Option Value) : Prop where
  d17 : Df K mg "is_integer" (top 17)
  d18 : Df K mg "are_integers" (top 18)
  d19 : Df K mg "is_fraction" (top 19)
  d21 : Df K mg "is_term" (top 21)
  d22 : Df K mg "wrong_term" (top 22)
  d24 : Df K mg "trimmed" (top 24)
  d25 : Df K mg "common_divisor" (top 25)
  d26 : Df K mg "primitive" (top 26)
  d27 : Df K mg "negative" (top 27)
  d28 : Df K mg "derivative" (top 28)
  d29 : Df K mg "value_at" (top 29)
  d30 : Df K mg "multiplied" (top 30)
  d31 : Df K mg "combined" (top 31)
  d32 : Df K mg "remainder" (top 32)
  d36 : Df K mg "sturm_chain" (top 36)
  d37 : Df K mg "changes" (top 37)
  d38 : Df K mg "reach" (top 38)
  d39 : Df K mg "roots_up_to" (top 39)
  d40 : Df K mg "roots_in_all" (top 40)
  d43 : Df K mg "stretch_of" (top 43)
  d44 : Df K mg "lonely_stretch" (top 44)
  d45 : Df K mg "refined" (top 45)
  d48 : Df K mg "is_least" (top 48)
  d50 : Df K mg "least_factor" (top 50)
  d58 : Df K mg "check_shape" (top 58)
  d62 : Df K mg "told_by" (top 62)
  d63 : Df K mg "integer_of" (top 63)
  d66 : Df K mg "number_of" (top 66)
  d67 : Df K mg "root" (top 67)
  d68 : Df K mg "total" (top 68)
  d69 : Df K mg "product" (top 69)
  d70 : Df K mg "quotient" (top 70)
  d71 : Df K mg "opposite" (top 71)
  d72 : Df K mg "sign" (top 72)
  d73 : Df K mg "floor_of" (top 73)
  d74 : Df K mg "is_number" (top 74)
  d75 : Df K mg "check_number" (top 75)
  d76 : Df K mg "lowest" (top 76)
  d77 : Df K mg "folded" (top 77)
  d78 : Df K mg "reciprocal" (top 78)
  d79 : Df K mg "ends" (top 79)
  d81 : Df K mg "_law_rack" (top 81)
  d82 : Df K mg "_law_pick" (top 82)
  d83 : Df K mg "_law_common" (top 83)
  d84 : Df K mg "_law_low" (top 84)
  d85 : Df K mg "_law_drawn" (top 85)
  d86 : Df K mg "_law_right" (top 86)
  d87 : Df K mg "law" (top 87)
theorem law_all (D : Ds K mg) (B : Bl mg) (S : ShC K mg C) : CalG P w K mg base 11 "law" ["_law_cells"] (spLaw K) := by
  have isint := c_isint (P := P) (w := w) (base := base) D.d17 B
  have areints := c_areints D.d18 B isint
  have isfrac := c_isfrac D.d19 B areints
  have isterm := c_isterm D.d21 B isint
  have wrong := c_wrong D.d22 B isterm
  have trim := c_trim (P := P) (w := w) (base := base) D.d24 B
  have gcd := c_gcd (P := P) (w := w) (base := base) D.d25 B
  have prim := c_prim D.d26 B gcd
  have neg := c_neg (P := P) (w := w) (base := base) D.d27 B
  have der := c_der (P := P) (w := w) (base := base) D.d28 B
  have val1 := c_val1 (P := P) (w := w) (base := base) D.d29
  have val2 := c_val2 (P := P) (w := w) (base := base) D.d29
  have mul := c_mul D.d30 B trim
  have comb11 := c_Comb11 D.d31 B trim
  have comb21 := c_Comb21 D.d31 B trim
  have comb22 := c_Comb22 D.d31 B trim
  have rem := c_rem D.d32 B (comb21.or comb11) prim
  have sturm := c_sturm D.d36 B der rem neg
  have chgs := c_chg D.d37 B (val1.or val2)
  have reach := c_reach (P := P) (w := w) (base := base) D.d38 B
  have upto := c_upto D.d39 chgs reach
  have inall := c_all D.d40 upto reach
  have refd := c_ref (P := P) (w := w) (base := base) D.d45 B
  have lone := c_lone D.d44 sturm reach chgs upto
  have str := c_str D.d43 B lone refd
  have intof := c_intof (P := P) (w := w) (base := base) D.d63 B
  have lf := c_lf (P := P) (w := w) (base := base) D.d50 B
  have least := c_least D.d48 gcd lf
  have told := c_told D.d62 B intof wrong least sturm upto inall
  have chk := c_chk (P := P) (w := w) (base := base) D.d58 B S
  have isnum := c_isnum D.d74 B S areints gcd
  have chkn := c_chkn D.d75 isnum
  have lowest := c_low D.d76 B S gcd
  have foldA := c_foldA D.d77 B S lowest
  have foldB := c_foldB D.d77 B S lowest comb22
  have recip := c_rec (P := P) (w := w) (base := base) D.d78 B
  have ends := c_ends D.d79 B val1
  have numof := c_numof D.d66 chk isfrac lowest
  have root := c_root D.d67 chk foldB
  have total := c_total D.d68 chk chkn lowest comb11
  have prod := c_prod D.d69 chk chkn foldA mul
  have quot := c_quot D.d70 S chk chkn foldA mul trim recip
  have opp := c_opp D.d71 chk chkn neg
  have sign := c_sign D.d72 B S chk chkn trim ends
  have floor := c_floor D.d73 B S chk chkn isint ends
  have rack := c_rack (P := P) (w := w) (base := base) D.d81 B
  have pick := c_pick (P := P) (w := w) (base := base) D.d82 B
  have com := c_com (P := P) (w := w) (base := base) D.d83 B
  have llow := c_llow D.d84 B com
  have drawn := c_drawn D.d85 B S pick llow told str
  have right := c_right D.d86 ⟨B, S, drawn, pick, llow, root, total, prod, quot, opp, sign, floor, numof⟩
  exact c_law D.d87 B right rack
end
end Xq

/-! Where all stands behind the top. -/
namespace Xq
open PySem PySem.Spec PyProof.Rows L2 Xk
noncomputable abbrev HK (p : Params) : PySem.W.Frag := hd27.heap_39 p
section
variable {p : Params} {mg : Str → Option Value} {h : Heap}
theorem fd17 (p : Params) : ∃ fd, Fun (HK p) "is_integer" "is_integer" (top 17) 246 fd := by
  refine ⟨?fd, ⟨⟨?a1, ?a2, ?a3, ?a4, ?a5, ?a6, ?a7, ?a8, ?a9, ?e1, ?e2, ?e3⟩, ?e4⟩⟩
  case e1 => exact rfl
  case e2 => exact rfl
  case e3 => kernel_rfl
  case e4 => kernel_rfl
theorem df17 (X : (HK p).In h) (G : h.Ns mainGlobals mg) : Df (HK p) mg "is_integer" (top 17) := by
  obtain ⟨fd, F⟩ := fd17 p
  exact ⟨246, fd, F, PySem.W.mg_of X G (by kernel_rfl)⟩
theorem fd18 (p : Params) : ∃ fd, Fun (HK p) "are_integers" "are_integers" (top 18) 251 fd := by
  refine ⟨?fd, ⟨⟨?a1, ?a2, ?a3, ?a4, ?a5, ?a6, ?a7, ?a8, ?a9, ?e1, ?e2, ?e3⟩, ?e4⟩⟩
  case e1 => exact rfl
  case e2 => exact rfl
  case e3 => kernel_rfl
  case e4 => kernel_rfl
theorem df18 (X : (HK p).In h) (G : h.Ns mainGlobals mg) : Df (HK p) mg "are_integers" (top 18) := by
  obtain ⟨fd, F⟩ := fd18 p
  exact ⟨251, fd, F, PySem.W.mg_of X G (by kernel_rfl)⟩
theorem fd19 (p : Params) : ∃ fd, Fun (HK p) "is_fraction" "is_fraction" (top 19) 258 fd := by
  refine ⟨?fd, ⟨⟨?a1, ?a2, ?a3, ?a4, ?a5, ?a6, ?a7, ?a8, ?a9, ?e1, ?e2, ?e3⟩, ?e4⟩⟩
  case e1 => exact rfl
  case e2 => exact rfl
  case e3 => kernel_rfl
  case e4 => kernel_rfl
theorem df19 (X : (HK p).In h) (G : h.Ns mainGlobals mg) : Df (HK p) mg "is_fraction" (top 19) := by
  obtain ⟨fd, F⟩ := fd19 p
  exact ⟨258, fd, F, PySem.W.mg_of X G (by kernel_rfl)⟩
theorem fd21 (p : Params) : ∃ fd, Fun (HK p) "is_term" "is_term" (top 21) 272 fd := by
  refine ⟨?fd, ⟨⟨?a1, ?a2, ?a3, ?a4, ?a5, ?a6, ?a7, ?a8, ?a9, ?e1, ?e2, ?e3⟩, ?e4⟩⟩
  case e1 => exact rfl
  case e2 => exact rfl
  case e3 => kernel_rfl
  case e4 => kernel_rfl
theorem df21 (X : (HK p).In h) (G : h.Ns mainGlobals mg) : Df (HK p) mg "is_term" (top 21) := by
  obtain ⟨fd, F⟩ := fd21 p
  exact ⟨272, fd, F, PySem.W.mg_of X G (by kernel_rfl)⟩
theorem fd22 (p : Params) : ∃ fd, Fun (HK p) "wrong_term" "wrong_term" (top 22) 279 fd := by
  refine ⟨?fd, ⟨⟨?a1, ?a2, ?a3, ?a4, ?a5, ?a6, ?a7, ?a8, ?a9, ?e1, ?e2, ?e3⟩, ?e4⟩⟩
  case e1 => exact rfl
  case e2 => exact rfl
  case e3 => kernel_rfl
  case e4 => kernel_rfl
theorem df22 (X : (HK p).In h) (G : h.Ns mainGlobals mg) : Df (HK p) mg "wrong_term" (top 22) := by
  obtain ⟨fd, F⟩ := fd22 p
  exact ⟨279, fd, F, PySem.W.mg_of X G (by kernel_rfl)⟩
theorem fd24 (p : Params) : ∃ fd, Fun (HK p) "trimmed" "trimmed" (top 24) 286 fd := by
  refine ⟨?fd, ⟨⟨?a1, ?a2, ?a3, ?a4, ?a5, ?a6, ?a7, ?a8, ?a9, ?e1, ?e2, ?e3⟩, ?e4⟩⟩
  case e1 => exact rfl
  case e2 => exact rfl
  case e3 => kernel_rfl
  case e4 => kernel_rfl
theorem df24 (X : (HK p).In h) (G : h.Ns mainGlobals mg) : Df (HK p) mg "trimmed" (top 24) := by
  obtain ⟨fd, F⟩ := fd24 p
  exact ⟨286, fd, F, PySem.W.mg_of X G (by kernel_rfl)⟩
theorem fd25 (p : Params) : ∃ fd, Fun (HK p) "common_divisor" "common_divisor" (top 25) 293 fd := by
  refine ⟨?fd, ⟨⟨?a1, ?a2, ?a3, ?a4, ?a5, ?a6, ?a7, ?a8, ?a9, ?e1, ?e2, ?e3⟩, ?e4⟩⟩
  case e1 => exact rfl
  case e2 => exact rfl
  case e3 => kernel_rfl
  case e4 => kernel_rfl
theorem df25 (X : (HK p).In h) (G : h.Ns mainGlobals mg) : Df (HK p) mg "common_divisor" (top 25) := by
  obtain ⟨fd, F⟩ := fd25 p
  exact ⟨293, fd, F, PySem.W.mg_of X G (by kernel_rfl)⟩
theorem fd26 (p : Params) : ∃ fd, Fun (HK p) "primitive" "primitive" (top 26) 298 fd := by
  refine ⟨?fd, ⟨⟨?a1, ?a2, ?a3, ?a4, ?a5, ?a6, ?a7, ?a8, ?a9, ?e1, ?e2, ?e3⟩, ?e4⟩⟩
  case e1 => exact rfl
  case e2 => exact rfl
  case e3 => kernel_rfl
  case e4 => kernel_rfl
theorem df26 (X : (HK p).In h) (G : h.Ns mainGlobals mg) : Df (HK p) mg "primitive" (top 26) := by
  obtain ⟨fd, F⟩ := fd26 p
  exact ⟨298, fd, F, PySem.W.mg_of X G (by kernel_rfl)⟩
theorem fd27 (p : Params) : ∃ fd, Fun (HK p) "negative" "negative" (top 27) 303 fd := by
  refine ⟨?fd, ⟨⟨?a1, ?a2, ?a3, ?a4, ?a5, ?a6, ?a7, ?a8, ?a9, ?e1, ?e2, ?e3⟩, ?e4⟩⟩
  case e1 => exact rfl
  case e2 => exact rfl
  case e3 => kernel_rfl
  case e4 => kernel_rfl
theorem df27 (X : (HK p).In h) (G : h.Ns mainGlobals mg) : Df (HK p) mg "negative" (top 27) := by
  obtain ⟨fd, F⟩ := fd27 p
  exact ⟨303, fd, F, PySem.W.mg_of X G (by kernel_rfl)⟩
theorem fd28 (p : Params) : ∃ fd, Fun (HK p) "derivative" "derivative" (top 28) 308 fd := by
  refine ⟨?fd, ⟨⟨?a1, ?a2, ?a3, ?a4, ?a5, ?a6, ?a7, ?a8, ?a9, ?e1, ?e2, ?e3⟩, ?e4⟩⟩
  case e1 => exact rfl
  case e2 => exact rfl
  case e3 => kernel_rfl
  case e4 => kernel_rfl
theorem df28 (X : (HK p).In h) (G : h.Ns mainGlobals mg) : Df (HK p) mg "derivative" (top 28) := by
  obtain ⟨fd, F⟩ := fd28 p
  exact ⟨308, fd, F, PySem.W.mg_of X G (by kernel_rfl)⟩
theorem fd29 (p : Params) : ∃ fd, Fun (HK p) "value_at" "value_at" (top 29) 315 fd := by
  refine ⟨?fd, ⟨⟨?a1, ?a2, ?a3, ?a4, ?a5, ?a6, ?a7, ?a8, ?a9, ?e1, ?e2, ?e3⟩, ?e4⟩⟩
  case e1 => exact rfl
  case e2 => exact rfl
  case e3 => kernel_rfl
  case e4 => kernel_rfl
theorem df29 (X : (HK p).In h) (G : h.Ns mainGlobals mg) : Df (HK p) mg "value_at" (top 29) := by
  obtain ⟨fd, F⟩ := fd29 p
  exact ⟨315, fd, F, PySem.W.mg_of X G (by kernel_rfl)⟩
theorem fd30 (p : Params) : ∃ fd, Fun (HK p) "multiplied" "multiplied" (top 30) 322 fd := by
  refine ⟨?fd, ⟨⟨?a1, ?a2, ?a3, ?a4, ?a5, ?a6, ?a7, ?a8, ?a9, ?e1, ?e2, ?e3⟩, ?e4⟩⟩
  case e1 => exact rfl
  case e2 => exact rfl
  case e3 => kernel_rfl
  case e4 => kernel_rfl
theorem df30 (X : (HK p).In h) (G : h.Ns mainGlobals mg) : Df (HK p) mg "multiplied" (top 30) := by
  obtain ⟨fd, F⟩ := fd30 p
  exact ⟨322, fd, F, PySem.W.mg_of X G (by kernel_rfl)⟩
theorem fd31 (p : Params) : ∃ fd, Fun (HK p) "combined" "combined" (top 31) 329 fd := by
  refine ⟨?fd, ⟨⟨?a1, ?a2, ?a3, ?a4, ?a5, ?a6, ?a7, ?a8, ?a9, ?e1, ?e2, ?e3⟩, ?e4⟩⟩
  case e1 => exact rfl
  case e2 => exact rfl
  case e3 => kernel_rfl
  case e4 => kernel_rfl
theorem df31 (X : (HK p).In h) (G : h.Ns mainGlobals mg) : Df (HK p) mg "combined" (top 31) := by
  obtain ⟨fd, F⟩ := fd31 p
  exact ⟨329, fd, F, PySem.W.mg_of X G (by kernel_rfl)⟩
theorem fd32 (p : Params) : ∃ fd, Fun (HK p) "remainder" "remainder" (top 32) 336 fd := by
  refine ⟨?fd, ⟨⟨?a1, ?a2, ?a3, ?a4, ?a5, ?a6, ?a7, ?a8, ?a9, ?e1, ?e2, ?e3⟩, ?e4⟩⟩
  case e1 => exact rfl
  case e2 => exact rfl
  case e3 => kernel_rfl
  case e4 => kernel_rfl
theorem df32 (X : (HK p).In h) (G : h.Ns mainGlobals mg) : Df (HK p) mg "remainder" (top 32) := by
  obtain ⟨fd, F⟩ := fd32 p
  exact ⟨336, fd, F, PySem.W.mg_of X G (by kernel_rfl)⟩
theorem fd36 (p : Params) : ∃ fd, Fun (HK p) "sturm_chain" "sturm_chain" (top 36) 350 fd := by
  refine ⟨?fd, ⟨⟨?a1, ?a2, ?a3, ?a4, ?a5, ?a6, ?a7, ?a8, ?a9, ?e1, ?e2, ?e3⟩, ?e4⟩⟩
  case e1 => exact rfl
  case e2 => exact rfl
  case e3 => kernel_rfl
  case e4 => kernel_rfl
theorem df36 (X : (HK p).In h) (G : h.Ns mainGlobals mg) : Df (HK p) mg "sturm_chain" (top 36) := by
  obtain ⟨fd, F⟩ := fd36 p
  exact ⟨350, fd, F, PySem.W.mg_of X G (by kernel_rfl)⟩
theorem fd37 (p : Params) : ∃ fd, Fun (HK p) "changes" "changes" (top 37) 355 fd := by
  refine ⟨?fd, ⟨⟨?a1, ?a2, ?a3, ?a4, ?a5, ?a6, ?a7, ?a8, ?a9, ?e1, ?e2, ?e3⟩, ?e4⟩⟩
  case e1 => exact rfl
  case e2 => exact rfl
  case e3 => kernel_rfl
  case e4 => kernel_rfl
theorem df37 (X : (HK p).In h) (G : h.Ns mainGlobals mg) : Df (HK p) mg "changes" (top 37) := by
  obtain ⟨fd, F⟩ := fd37 p
  exact ⟨355, fd, F, PySem.W.mg_of X G (by kernel_rfl)⟩
theorem fd38 (p : Params) : ∃ fd, Fun (HK p) "reach" "reach" (top 38) 360 fd := by
  refine ⟨?fd, ⟨⟨?a1, ?a2, ?a3, ?a4, ?a5, ?a6, ?a7, ?a8, ?a9, ?e1, ?e2, ?e3⟩, ?e4⟩⟩
  case e1 => exact rfl
  case e2 => exact rfl
  case e3 => kernel_rfl
  case e4 => kernel_rfl
theorem df38 (X : (HK p).In h) (G : h.Ns mainGlobals mg) : Df (HK p) mg "reach" (top 38) := by
  obtain ⟨fd, F⟩ := fd38 p
  exact ⟨360, fd, F, PySem.W.mg_of X G (by kernel_rfl)⟩
theorem fd39 (p : Params) : ∃ fd, Fun (HK p) "roots_up_to" "roots_up_to" (top 39) 367 fd := by
  refine ⟨?fd, ⟨⟨?a1, ?a2, ?a3, ?a4, ?a5, ?a6, ?a7, ?a8, ?a9, ?e1, ?e2, ?e3⟩, ?e4⟩⟩
  case e1 => exact rfl
  case e2 => exact rfl
  case e3 => kernel_rfl
  case e4 => kernel_rfl
theorem df39 (X : (HK p).In h) (G : h.Ns mainGlobals mg) : Df (HK p) mg "roots_up_to" (top 39) := by
  obtain ⟨fd, F⟩ := fd39 p
  exact ⟨367, fd, F, PySem.W.mg_of X G (by kernel_rfl)⟩
theorem fd40 (p : Params) : ∃ fd, Fun (HK p) "roots_in_all" "roots_in_all" (top 40) 374 fd := by
  refine ⟨?fd, ⟨⟨?a1, ?a2, ?a3, ?a4, ?a5, ?a6, ?a7, ?a8, ?a9, ?e1, ?e2, ?e3⟩, ?e4⟩⟩
  case e1 => exact rfl
  case e2 => exact rfl
  case e3 => kernel_rfl
  case e4 => kernel_rfl
theorem df40 (X : (HK p).In h) (G : h.Ns mainGlobals mg) : Df (HK p) mg "roots_in_all" (top 40) := by
  obtain ⟨fd, F⟩ := fd40 p
  exact ⟨374, fd, F, PySem.W.mg_of X G (by kernel_rfl)⟩
theorem fd43 (p : Params) : ∃ fd, Fun (HK p) "stretch_of" "stretch_of" (top 43) 395 fd := by
  refine ⟨?fd, ⟨⟨?a1, ?a2, ?a3, ?a4, ?a5, ?a6, ?a7, ?a8, ?a9, ?e1, ?e2, ?e3⟩, ?e4⟩⟩
  case e1 => exact rfl
  case e2 => exact rfl
  case e3 => kernel_rfl
  case e4 => kernel_rfl
theorem df43 (X : (HK p).In h) (G : h.Ns mainGlobals mg) : Df (HK p) mg "stretch_of" (top 43) := by
  obtain ⟨fd, F⟩ := fd43 p
  exact ⟨395, fd, F, PySem.W.mg_of X G (by kernel_rfl)⟩
theorem fd44 (p : Params) : ∃ fd, Fun (HK p) "lonely_stretch" "lonely_stretch" (top 44) 402 fd := by
  refine ⟨?fd, ⟨⟨?a1, ?a2, ?a3, ?a4, ?a5, ?a6, ?a7, ?a8, ?a9, ?e1, ?e2, ?e3⟩, ?e4⟩⟩
  case e1 => exact rfl
  case e2 => exact rfl
  case e3 => kernel_rfl
  case e4 => kernel_rfl
theorem df44 (X : (HK p).In h) (G : h.Ns mainGlobals mg) : Df (HK p) mg "lonely_stretch" (top 44) := by
  obtain ⟨fd, F⟩ := fd44 p
  exact ⟨402, fd, F, PySem.W.mg_of X G (by kernel_rfl)⟩
theorem fd45 (p : Params) : ∃ fd, Fun (HK p) "refined" "refined" (top 45) 409 fd := by
  refine ⟨?fd, ⟨⟨?a1, ?a2, ?a3, ?a4, ?a5, ?a6, ?a7, ?a8, ?a9, ?e1, ?e2, ?e3⟩, ?e4⟩⟩
  case e1 => exact rfl
  case e2 => exact rfl
  case e3 => kernel_rfl
  case e4 => kernel_rfl
theorem df45 (X : (HK p).In h) (G : h.Ns mainGlobals mg) : Df (HK p) mg "refined" (top 45) := by
  obtain ⟨fd, F⟩ := fd45 p
  exact ⟨409, fd, F, PySem.W.mg_of X G (by kernel_rfl)⟩
theorem fd48 (p : Params) : ∃ fd, Fun (HK p) "is_least" "is_least" (top 48) 423 fd := by
  refine ⟨?fd, ⟨⟨?a1, ?a2, ?a3, ?a4, ?a5, ?a6, ?a7, ?a8, ?a9, ?e1, ?e2, ?e3⟩, ?e4⟩⟩
  case e1 => exact rfl
  case e2 => exact rfl
  case e3 => kernel_rfl
  case e4 => kernel_rfl
theorem df48 (X : (HK p).In h) (G : h.Ns mainGlobals mg) : Df (HK p) mg "is_least" (top 48) := by
  obtain ⟨fd, F⟩ := fd48 p
  exact ⟨423, fd, F, PySem.W.mg_of X G (by kernel_rfl)⟩
theorem fd50 (p : Params) : ∃ fd, Fun (HK p) "least_factor" "least_factor" (top 50) 437 fd := by
  refine ⟨?fd, ⟨⟨?a1, ?a2, ?a3, ?a4, ?a5, ?a6, ?a7, ?a8, ?a9, ?e1, ?e2, ?e3⟩, ?e4⟩⟩
  case e1 => exact rfl
  case e2 => exact rfl
  case e3 => kernel_rfl
  case e4 => kernel_rfl
theorem df50 (X : (HK p).In h) (G : h.Ns mainGlobals mg) : Df (HK p) mg "least_factor" (top 50) := by
  obtain ⟨fd, F⟩ := fd50 p
  exact ⟨437, fd, F, PySem.W.mg_of X G (by kernel_rfl)⟩
theorem fd58 (p : Params) : ∃ fd, Fun (HK p) "check_shape" "check_shape" (top 58) 557 fd := by
  refine ⟨?fd, ⟨⟨?a1, ?a2, ?a3, ?a4, ?a5, ?a6, ?a7, ?a8, ?a9, ?e1, ?e2, ?e3⟩, ?e4⟩⟩
  case e1 => exact rfl
  case e2 => exact rfl
  case e3 => kernel_rfl
  case e4 => kernel_rfl
theorem df58 (X : (HK p).In h) (G : h.Ns mainGlobals mg) : Df (HK p) mg "check_shape" (top 58) := by
  obtain ⟨fd, F⟩ := fd58 p
  exact ⟨557, fd, F, PySem.W.mg_of X G (by kernel_rfl)⟩
theorem fd62 (p : Params) : ∃ fd, Fun (HK p) "told_by" "told_by" (top 62) 583 fd := by
  refine ⟨?fd, ⟨⟨?a1, ?a2, ?a3, ?a4, ?a5, ?a6, ?a7, ?a8, ?a9, ?e1, ?e2, ?e3⟩, ?e4⟩⟩
  case e1 => exact rfl
  case e2 => exact rfl
  case e3 => kernel_rfl
  case e4 => kernel_rfl
theorem df62 (X : (HK p).In h) (G : h.Ns mainGlobals mg) : Df (HK p) mg "told_by" (top 62) := by
  obtain ⟨fd, F⟩ := fd62 p
  exact ⟨583, fd, F, PySem.W.mg_of X G (by kernel_rfl)⟩
theorem fd63 (p : Params) : ∃ fd, Fun (HK p) "integer_of" "integer_of" (top 63) 590 fd := by
  refine ⟨?fd, ⟨⟨?a1, ?a2, ?a3, ?a4, ?a5, ?a6, ?a7, ?a8, ?a9, ?e1, ?e2, ?e3⟩, ?e4⟩⟩
  case e1 => exact rfl
  case e2 => exact rfl
  case e3 => kernel_rfl
  case e4 => kernel_rfl
theorem df63 (X : (HK p).In h) (G : h.Ns mainGlobals mg) : Df (HK p) mg "integer_of" (top 63) := by
  obtain ⟨fd, F⟩ := fd63 p
  exact ⟨590, fd, F, PySem.W.mg_of X G (by kernel_rfl)⟩
theorem fd66 (p : Params) : ∃ fd, Fun (HK p) "number_of" "number_of" (top 66) 602 fd := by
  refine ⟨?fd, ⟨⟨?a1, ?a2, ?a3, ?a4, ?a5, ?a6, ?a7, ?a8, ?a9, ?e1, ?e2, ?e3⟩, ?e4⟩⟩
  case e1 => exact rfl
  case e2 => exact rfl
  case e3 => kernel_rfl
  case e4 => kernel_rfl
theorem df66 (X : (HK p).In h) (G : h.Ns mainGlobals mg) : Df (HK p) mg "number_of" (top 66) := by
  obtain ⟨fd, F⟩ := fd66 p
  exact ⟨602, fd, F, PySem.W.mg_of X G (by kernel_rfl)⟩
theorem fd67 (p : Params) : ∃ fd, Fun (HK p) "root" "root" (top 67) 609 fd := by
  refine ⟨?fd, ⟨⟨?a1, ?a2, ?a3, ?a4, ?a5, ?a6, ?a7, ?a8, ?a9, ?e1, ?e2, ?e3⟩, ?e4⟩⟩
  case e1 => exact rfl
  case e2 => exact rfl
  case e3 => kernel_rfl
  case e4 => kernel_rfl
theorem df67 (X : (HK p).In h) (G : h.Ns mainGlobals mg) : Df (HK p) mg "root" (top 67) := by
  obtain ⟨fd, F⟩ := fd67 p
  exact ⟨609, fd, F, PySem.W.mg_of X G (by kernel_rfl)⟩
theorem fd68 (p : Params) : ∃ fd, Fun (HK p) "total" "total" (top 68) 616 fd := by
  refine ⟨?fd, ⟨⟨?a1, ?a2, ?a3, ?a4, ?a5, ?a6, ?a7, ?a8, ?a9, ?e1, ?e2, ?e3⟩, ?e4⟩⟩
  case e1 => exact rfl
  case e2 => exact rfl
  case e3 => kernel_rfl
  case e4 => kernel_rfl
theorem df68 (X : (HK p).In h) (G : h.Ns mainGlobals mg) : Df (HK p) mg "total" (top 68) := by
  obtain ⟨fd, F⟩ := fd68 p
  exact ⟨616, fd, F, PySem.W.mg_of X G (by kernel_rfl)⟩
theorem fd69 (p : Params) : ∃ fd, Fun (HK p) "product" "product" (top 69) 623 fd := by
  refine ⟨?fd, ⟨⟨?a1, ?a2, ?a3, ?a4, ?a5, ?a6, ?a7, ?a8, ?a9, ?e1, ?e2, ?e3⟩, ?e4⟩⟩
  case e1 => exact rfl
  case e2 => exact rfl
  case e3 => kernel_rfl
  case e4 => kernel_rfl
theorem df69 (X : (HK p).In h) (G : h.Ns mainGlobals mg) : Df (HK p) mg "product" (top 69) := by
  obtain ⟨fd, F⟩ := fd69 p
  exact ⟨623, fd, F, PySem.W.mg_of X G (by kernel_rfl)⟩
theorem fd70 (p : Params) : ∃ fd, Fun (HK p) "quotient" "quotient" (top 70) 630 fd := by
  refine ⟨?fd, ⟨⟨?a1, ?a2, ?a3, ?a4, ?a5, ?a6, ?a7, ?a8, ?a9, ?e1, ?e2, ?e3⟩, ?e4⟩⟩
  case e1 => exact rfl
  case e2 => exact rfl
  case e3 => kernel_rfl
  case e4 => kernel_rfl
theorem df70 (X : (HK p).In h) (G : h.Ns mainGlobals mg) : Df (HK p) mg "quotient" (top 70) := by
  obtain ⟨fd, F⟩ := fd70 p
  exact ⟨630, fd, F, PySem.W.mg_of X G (by kernel_rfl)⟩
theorem fd71 (p : Params) : ∃ fd, Fun (HK p) "opposite" "opposite" (top 71) 637 fd := by
  refine ⟨?fd, ⟨⟨?a1, ?a2, ?a3, ?a4, ?a5, ?a6, ?a7, ?a8, ?a9, ?e1, ?e2, ?e3⟩, ?e4⟩⟩
  case e1 => exact rfl
  case e2 => exact rfl
  case e3 => kernel_rfl
  case e4 => kernel_rfl
theorem df71 (X : (HK p).In h) (G : h.Ns mainGlobals mg) : Df (HK p) mg "opposite" (top 71) := by
  obtain ⟨fd, F⟩ := fd71 p
  exact ⟨637, fd, F, PySem.W.mg_of X G (by kernel_rfl)⟩
theorem fd72 (p : Params) : ∃ fd, Fun (HK p) "sign" "sign" (top 72) 644 fd := by
  refine ⟨?fd, ⟨⟨?a1, ?a2, ?a3, ?a4, ?a5, ?a6, ?a7, ?a8, ?a9, ?e1, ?e2, ?e3⟩, ?e4⟩⟩
  case e1 => exact rfl
  case e2 => exact rfl
  case e3 => kernel_rfl
  case e4 => kernel_rfl
theorem df72 (X : (HK p).In h) (G : h.Ns mainGlobals mg) : Df (HK p) mg "sign" (top 72) := by
  obtain ⟨fd, F⟩ := fd72 p
  exact ⟨644, fd, F, PySem.W.mg_of X G (by kernel_rfl)⟩
theorem fd73 (p : Params) : ∃ fd, Fun (HK p) "floor_of" "floor_of" (top 73) 651 fd := by
  refine ⟨?fd, ⟨⟨?a1, ?a2, ?a3, ?a4, ?a5, ?a6, ?a7, ?a8, ?a9, ?e1, ?e2, ?e3⟩, ?e4⟩⟩
  case e1 => exact rfl
  case e2 => exact rfl
  case e3 => kernel_rfl
  case e4 => kernel_rfl
theorem df73 (X : (HK p).In h) (G : h.Ns mainGlobals mg) : Df (HK p) mg "floor_of" (top 73) := by
  obtain ⟨fd, F⟩ := fd73 p
  exact ⟨651, fd, F, PySem.W.mg_of X G (by kernel_rfl)⟩
theorem fd74 (p : Params) : ∃ fd, Fun (HK p) "is_number" "is_number" (top 74) 658 fd := by
  refine ⟨?fd, ⟨⟨?a1, ?a2, ?a3, ?a4, ?a5, ?a6, ?a7, ?a8, ?a9, ?e1, ?e2, ?e3⟩, ?e4⟩⟩
  case e1 => exact rfl
  case e2 => exact rfl
  case e3 => kernel_rfl
  case e4 => kernel_rfl
theorem df74 (X : (HK p).In h) (G : h.Ns mainGlobals mg) : Df (HK p) mg "is_number" (top 74) := by
  obtain ⟨fd, F⟩ := fd74 p
  exact ⟨658, fd, F, PySem.W.mg_of X G (by kernel_rfl)⟩
theorem fd75 (p : Params) : ∃ fd, Fun (HK p) "check_number" "check_number" (top 75) 665 fd := by
  refine ⟨?fd, ⟨⟨?a1, ?a2, ?a3, ?a4, ?a5, ?a6, ?a7, ?a8, ?a9, ?e1, ?e2, ?e3⟩, ?e4⟩⟩
  case e1 => exact rfl
  case e2 => exact rfl
  case e3 => kernel_rfl
  case e4 => kernel_rfl
theorem df75 (X : (HK p).In h) (G : h.Ns mainGlobals mg) : Df (HK p) mg "check_number" (top 75) := by
  obtain ⟨fd, F⟩ := fd75 p
  exact ⟨665, fd, F, PySem.W.mg_of X G (by kernel_rfl)⟩
theorem fd76 (p : Params) : ∃ fd, Fun (HK p) "lowest" "lowest" (top 76) 670 fd := by
  refine ⟨?fd, ⟨⟨?a1, ?a2, ?a3, ?a4, ?a5, ?a6, ?a7, ?a8, ?a9, ?e1, ?e2, ?e3⟩, ?e4⟩⟩
  case e1 => exact rfl
  case e2 => exact rfl
  case e3 => kernel_rfl
  case e4 => kernel_rfl
theorem df76 (X : (HK p).In h) (G : h.Ns mainGlobals mg) : Df (HK p) mg "lowest" (top 76) := by
  obtain ⟨fd, F⟩ := fd76 p
  exact ⟨670, fd, F, PySem.W.mg_of X G (by kernel_rfl)⟩
theorem fd77 (p : Params) : ∃ fd, Fun (HK p) "folded" "folded" (top 77) 677 fd := by
  refine ⟨?fd, ⟨⟨?a1, ?a2, ?a3, ?a4, ?a5, ?a6, ?a7, ?a8, ?a9, ?e1, ?e2, ?e3⟩, ?e4⟩⟩
  case e1 => exact rfl
  case e2 => exact rfl
  case e3 => kernel_rfl
  case e4 => kernel_rfl
theorem df77 (X : (HK p).In h) (G : h.Ns mainGlobals mg) : Df (HK p) mg "folded" (top 77) := by
  obtain ⟨fd, F⟩ := fd77 p
  exact ⟨677, fd, F, PySem.W.mg_of X G (by kernel_rfl)⟩
theorem fd78 (p : Params) : ∃ fd, Fun (HK p) "reciprocal" "reciprocal" (top 78) 682 fd := by
  refine ⟨?fd, ⟨⟨?a1, ?a2, ?a3, ?a4, ?a5, ?a6, ?a7, ?a8, ?a9, ?e1, ?e2, ?e3⟩, ?e4⟩⟩
  case e1 => exact rfl
  case e2 => exact rfl
  case e3 => kernel_rfl
  case e4 => kernel_rfl
theorem df78 (X : (HK p).In h) (G : h.Ns mainGlobals mg) : Df (HK p) mg "reciprocal" (top 78) := by
  obtain ⟨fd, F⟩ := fd78 p
  exact ⟨682, fd, F, PySem.W.mg_of X G (by kernel_rfl)⟩
theorem fd79 (p : Params) : ∃ fd, Fun (HK p) "ends" "ends" (top 79) 687 fd := by
  refine ⟨?fd, ⟨⟨?a1, ?a2, ?a3, ?a4, ?a5, ?a6, ?a7, ?a8, ?a9, ?e1, ?e2, ?e3⟩, ?e4⟩⟩
  case e1 => exact rfl
  case e2 => exact rfl
  case e3 => kernel_rfl
  case e4 => kernel_rfl
theorem df79 (X : (HK p).In h) (G : h.Ns mainGlobals mg) : Df (HK p) mg "ends" (top 79) := by
  obtain ⟨fd, F⟩ := fd79 p
  exact ⟨687, fd, F, PySem.W.mg_of X G (by kernel_rfl)⟩
theorem fd81 (p : Params) : ∃ fd, Fun (HK p) "_law_rack" "_law_rack" (top 81) 694 fd := by
  refine ⟨?fd, ⟨⟨?a1, ?a2, ?a3, ?a4, ?a5, ?a6, ?a7, ?a8, ?a9, ?e1, ?e2, ?e3⟩, ?e4⟩⟩
  case e1 => exact rfl
  case e2 => exact rfl
  case e3 => kernel_rfl
  case e4 => kernel_rfl
theorem df81 (X : (HK p).In h) (G : h.Ns mainGlobals mg) : Df (HK p) mg "_law_rack" (top 81) := by
  obtain ⟨fd, F⟩ := fd81 p
  exact ⟨694, fd, F, PySem.W.mg_of X G (by kernel_rfl)⟩
theorem fd82 (p : Params) : ∃ fd, Fun (HK p) "_law_pick" "_law_pick" (top 82) 701 fd := by
  refine ⟨?fd, ⟨⟨?a1, ?a2, ?a3, ?a4, ?a5, ?a6, ?a7, ?a8, ?a9, ?e1, ?e2, ?e3⟩, ?e4⟩⟩
  case e1 => exact rfl
  case e2 => exact rfl
  case e3 => kernel_rfl
  case e4 => kernel_rfl
theorem df82 (X : (HK p).In h) (G : h.Ns mainGlobals mg) : Df (HK p) mg "_law_pick" (top 82) := by
  obtain ⟨fd, F⟩ := fd82 p
  exact ⟨701, fd, F, PySem.W.mg_of X G (by kernel_rfl)⟩
theorem fd83 (p : Params) : ∃ fd, Fun (HK p) "_law_common" "_law_common" (top 83) 708 fd := by
  refine ⟨?fd, ⟨⟨?a1, ?a2, ?a3, ?a4, ?a5, ?a6, ?a7, ?a8, ?a9, ?e1, ?e2, ?e3⟩, ?e4⟩⟩
  case e1 => exact rfl
  case e2 => exact rfl
  case e3 => kernel_rfl
  case e4 => kernel_rfl
theorem df83 (X : (HK p).In h) (G : h.Ns mainGlobals mg) : Df (HK p) mg "_law_common" (top 83) := by
  obtain ⟨fd, F⟩ := fd83 p
  exact ⟨708, fd, F, PySem.W.mg_of X G (by kernel_rfl)⟩
theorem fd84 (p : Params) : ∃ fd, Fun (HK p) "_law_low" "_law_low" (top 84) 715 fd := by
  refine ⟨?fd, ⟨⟨?a1, ?a2, ?a3, ?a4, ?a5, ?a6, ?a7, ?a8, ?a9, ?e1, ?e2, ?e3⟩, ?e4⟩⟩
  case e1 => exact rfl
  case e2 => exact rfl
  case e3 => kernel_rfl
  case e4 => kernel_rfl
theorem df84 (X : (HK p).In h) (G : h.Ns mainGlobals mg) : Df (HK p) mg "_law_low" (top 84) := by
  obtain ⟨fd, F⟩ := fd84 p
  exact ⟨715, fd, F, PySem.W.mg_of X G (by kernel_rfl)⟩
theorem fd85 (p : Params) : ∃ fd, Fun (HK p) "_law_drawn" "_law_drawn" (top 85) 722 fd := by
  refine ⟨?fd, ⟨⟨?a1, ?a2, ?a3, ?a4, ?a5, ?a6, ?a7, ?a8, ?a9, ?e1, ?e2, ?e3⟩, ?e4⟩⟩
  case e1 => exact rfl
  case e2 => exact rfl
  case e3 => kernel_rfl
  case e4 => kernel_rfl
theorem df85 (X : (HK p).In h) (G : h.Ns mainGlobals mg) : Df (HK p) mg "_law_drawn" (top 85) := by
  obtain ⟨fd, F⟩ := fd85 p
  exact ⟨722, fd, F, PySem.W.mg_of X G (by kernel_rfl)⟩
theorem fd86 (p : Params) : ∃ fd, Fun (HK p) "_law_right" "_law_right" (top 86) 729 fd := by
  refine ⟨?fd, ⟨⟨?a1, ?a2, ?a3, ?a4, ?a5, ?a6, ?a7, ?a8, ?a9, ?e1, ?e2, ?e3⟩, ?e4⟩⟩
  case e1 => exact rfl
  case e2 => exact rfl
  case e3 => kernel_rfl
  case e4 => kernel_rfl
theorem df86 (X : (HK p).In h) (G : h.Ns mainGlobals mg) : Df (HK p) mg "_law_right" (top 86) := by
  obtain ⟨fd, F⟩ := fd86 p
  exact ⟨729, fd, F, PySem.W.mg_of X G (by kernel_rfl)⟩
theorem fd87 (p : Params) : ∃ fd, Fun (HK p) "law" "law" (top 87) 734 fd := by
  refine ⟨?fd, ⟨⟨?a1, ?a2, ?a3, ?a4, ?a5, ?a6, ?a7, ?a8, ?a9, ?e1, ?e2, ?e3⟩, ?e4⟩⟩
  case e1 => exact rfl
  case e2 => exact rfl
  case e3 => kernel_rfl
  case e4 => kernel_rfl
theorem df87 (X : (HK p).In h) (G : h.Ns mainGlobals mg) : Df (HK p) mg "law" (top 87) := by
  obtain ⟨fd, F⟩ := fd87 p
  exact ⟨734, fd, F, PySem.W.mg_of X G (by kernel_rfl)⟩
theorem ds_of (X : (HK p).In h) (G : h.Ns mainGlobals mg) : Ds (HK p) mg where
  d17 := df17 X G
  d18 := df18 X G
  d19 := df19 X G
  d21 := df21 X G
  d22 := df22 X G
  d24 := df24 X G
  d25 := df25 X G
  d26 := df26 X G
  d27 := df27 X G
  d28 := df28 X G
  d29 := df29 X G
  d30 := df30 X G
  d31 := df31 X G
  d32 := df32 X G
  d36 := df36 X G
  d37 := df37 X G
  d38 := df38 X G
  d39 := df39 X G
  d40 := df40 X G
  d43 := df43 X G
  d44 := df44 X G
  d45 := df45 X G
  d48 := df48 X G
  d50 := df50 X G
  d58 := df58 X G
  d62 := df62 X G
  d63 := df63 X G
  d66 := df66 X G
  d67 := df67 X G
  d68 := df68 X G
  d69 := df69 X G
  d70 := df70 X G
  d71 := df71 X G
  d72 := df72 X G
  d73 := df73 X G
  d74 := df74 X G
  d75 := df75 X G
  d76 := df76 X G
  d77 := df77 X G
  d78 := df78 X G
  d79 := df79 X G
  d81 := df81 X G
  d82 := df82 X G
  d83 := df83 X G
  d84 := df84 X G
  d85 := df85 X G
  d86 := df86 X G
  d87 := df87 X G
theorem bl_of (X : (HK p).In h) (G : h.Ns mainGlobals mg) : Bl mg where
  isinstance_ := PySem.W.mg_none_of X G (by kernel_rfl)
  int_ := PySem.W.mg_none_of X G (by kernel_rfl)
  bool_ := PySem.W.mg_none_of X G (by kernel_rfl)
  tuple_ := PySem.W.mg_none_of X G (by kernel_rfl)
  str_ := PySem.W.mg_none_of X G (by kernel_rfl)
  len_ := PySem.W.mg_none_of X G (by kernel_rfl)
  all_ := PySem.W.mg_none_of X G (by kernel_rfl)
  range_ := PySem.W.mg_none_of X G (by kernel_rfl)
  max_ := PySem.W.mg_none_of X G (by kernel_rfl)
  min_ := PySem.W.mg_none_of X G (by kernel_rfl)
  abs_ := PySem.W.mg_none_of X G (by kernel_rfl)
  enumerate_ := PySem.W.mg_none_of X G (by kernel_rfl)
  zip_ := PySem.W.mg_none_of X G (by kernel_rfl)
  divmod_ := PySem.W.mg_none_of X G (by kernel_rfl)
  repr_ := PySem.W.mg_none_of X G (by kernel_rfl)
  gcd_ := PySem.W.mg_of X G (by kernel_rfl)
  deg_ := ⟨_, PySem.W.mg_of X G rfl⟩
  term_ := ⟨_, PySem.W.mg_of X G rfl⟩
  scale_ := ⟨_, PySem.W.mg_of X G rfl⟩
  bits_ := ⟨_, PySem.W.mg_of X G rfl⟩
theorem sh_cl (p : Params) : Cls (HK p) 546 := ⟨by kernel_rfl, by kernel_rfl, by kernel_rfl, by kernel_rfl⟩
theorem sh_init (p : Params) : ∃ f fd, Mk (HK p) 546 f ∧ Fun (HK p) "__init__" "Shape.__init__" (inClass (top 57) 0) f fd := by
  refine ⟨482, ?fd, ⟨?m1, ?m2, ?m3, ?m4⟩, ⟨⟨?a1, ?a2, ?a3, ?a4, ?a5, ?a6, ?a7, ?a8, ?a9, ?e1, ?e2, ?e3⟩, ?e4⟩⟩
  case m2 => kernel_rfl
  case m1 => kernel_rfl
  case m3 => kernel_rfl
  case m4 => kernel_rfl
  case e1 => exact rfl
  case e2 => exact rfl
  case e3 => kernel_rfl
  case e4 => kernel_rfl
theorem sh_eqn (p : Params) : ∃ q f fd, PropOf (HK p) 546 "equation" q f ∧ Fun (HK p) "equation" "Shape.equation" (inClass (top 57) 3) f fd := by
  refine ⟨506, ?f, ?fd, ⟨?m1, ?m2, ?m3, ⟨?rest, ?m4⟩⟩, ⟨⟨?a1, ?a2, ?a3, ?a4, ?a5, ?a6, ?a7, ?a8, ?a9, ?e1, ?e2, ?e3⟩, ?e4⟩⟩
  case m1 => kernel_rfl
  case m4 => exact rfl
  case m2 => kernel_rfl
  case m3 => kernel_rfl
  case e1 => exact rfl
  case e2 => exact rfl
  case e3 => kernel_rfl
  case e4 => kernel_rfl
theorem sh_deg (p : Params) : ∃ q f fd, PropOf (HK p) 546 "degree" q f ∧ Fun (HK p) "degree" "Shape.degree" (inClass (top 57) 4) f fd := by
  refine ⟨514, ?f, ?fd, ⟨?m1, ?m2, ?m3, ⟨?rest, ?m4⟩⟩, ⟨⟨?a1, ?a2, ?a3, ?a4, ?a5, ?a6, ?a7, ?a8, ?a9, ?e1, ?e2, ?e3⟩, ?e4⟩⟩
  case m1 => kernel_rfl
  case m4 => exact rfl
  case m2 => kernel_rfl
  case m3 => kernel_rfl
  case e1 => exact rfl
  case e2 => exact rfl
  case e3 => kernel_rfl
  case e4 => kernel_rfl
theorem sh_flo (p : Params) : ∃ f fd, Meth (HK p) 546 "floor_at" f ∧ Fun (HK p) "floor_at" "Shape.floor_at" (inClass (top 57) 6) f fd := by
  refine ⟨529, ?fd, ⟨?m1, ?m2, ?m3⟩, ⟨⟨?a1, ?a2, ?a3, ?a4, ?a5, ?a6, ?a7, ?a8, ?a9, ?e1, ?e2, ?e3⟩, ?e4⟩⟩
  case m1 => kernel_rfl
  case m2 => kernel_rfl
  case m3 => kernel_rfl
  case e1 => exact rfl
  case e2 => exact rfl
  case e3 => kernel_rfl
  case e4 => kernel_rfl
theorem sh_of (X : (HK p).In h) (G : h.Ns mainGlobals mg) : ShC (HK p) mg 546 where
  cl := sh_cl p
  n1 := by show PySem.W.findIn _ _ _ = _; kernel_rfl
  n2 := by show PySem.W.findIn _ _ _ = _; kernel_rfl
  n3 := by show PySem.W.findIn _ _ _ = _; kernel_rfl
  n4 := by show PySem.W.findIn _ _ _ = _; kernel_rfl
  n5 := by show PySem.W.findIn _ _ _ = _; kernel_rfl
  mgC := PySem.W.mg_of X G (by kernel_rfl)
  mkS := sh_init p
  eqn := sh_eqn p
  deg := sh_deg p
  flo := sh_flo p
  c1 := by kernel_rfl
  c2 := by kernel_rfl
  c3 := by kernel_rfl
  c4 := by kernel_rfl
  kit := by kernel_rfl
end
end Xq

namespace Xq
open PySem PySem.Spec PyProof.Rows L2 Xk
/-- the law's call, where no repr is under way -/
theorem call_g2 {P : Program} {w : World} {K : PySem.W.Frag} {mg mb : Str → Option Value} {k : Nat} {fa a : Addr} {x x' : Str} {sp : Sp} {s₁ : Shared} {vs : List Value} {ns : List Int}
    (KX : K.In s₁.heap) (hns : s₁.heap.Ns mainGlobals mg) (hb : s₁.heap.Ns builtinsNs mb) (hbb : ∀ x : Str, x ≠ "__name__" → mb x = bootBuiltins x)
    (hlim : s₁.heap.NoLimit) (hg : s₁.gens = #[]) (ha : s₁.heap.get? a = some { cls := .type "list", data := .seq vs.toArray })
    (hi : IntsAre vs ns) (hl : ns.length ≤ sizeLine) (hr : Room k callerA)
    (F : ∀ base : Heap, CalG P w K mg base k x [x'] sp) (hmx : mg x = some (.ref fa))
    (hsp : ∀ H : Hp, SqL K H a (ns.map V.int) → sp [.ref a] H (fun v _ => v = .bl true) E0) :
    codeAny (model P w) callerA (.call (.ref fa) ⟨[.ref a], []⟩)
      (fun r s' => r = .ok (.ret (.bool true)) ∧ PySem.OldK s₁.heap s'.heap ∧ s'.os = s₁.os ∧ AllBare s'.gens) s₁ := by
  have rv := vals_ints hi
  have lenV := hi.length
  have core : ∀ H : Hp, Only H → SqL K H a (ns.map V.int) → HOk P w H s₁.heap → (∀ b, H b ≠ none → b = a) → (H a ≠ none → K.lookup a = none) →
      codeAny (model P w) callerA (.call (.ref fa) ⟨[.ref a], []⟩)
        (fun r s' => r = .ok (.ret (.bool true)) ∧ PySem.OldK s₁.heap s'.heap ∧ s'.os = s₁.os ∧ AllBare s'.gens) s₁ := by
    intro H hO hS hok hA hK
    have base_of : ∀ {b : Addr} {o : Obj}, s₁.heap.get? b = some o → H b = none → (hidT s₁.heap H).get? b = some o := fun e n => hidT_get e n
    have noA : ∀ {b : Addr} {o : Obj} {es : Array DictEntry} {ep : Nat}, s₁.heap.get? b = some o → o.data = .dict es ep → H b = none := fun {b o es ep} e d => by
      cases q : H b with
      | none => rfl
      | some u =>
        obtain rfl : b = a := hA b (by rw [q]; simp)
        rw [ha] at e
        cases e
        cases (show Data.seq vs.toArray _ = Data.dict es ep from d)
    have nsK : ∀ {b : Addr} {m : Str → Option Value}, s₁.heap.Ns b m → (hidT s₁.heap H).Ns b m := fun {b m} z => by
      obtain ⟨o, es, ep, e, d, r⟩ := z
      exact ⟨o, es, ep, base_of e (noA e d), d, r⟩
    have hKb : K.In (hidT s₁.heap H) := fun b o e => by
      refine base_of (KX b o e) ?_
      cases q : H b with
      | none => rfl
      | some u =>
        obtain rfl : b = a := hA b (by rw [q]; simp)
        rw [hK (by rw [q]; simp)] at e
        cases e
    have hM : Mod K mg (hidT s₁.heap H) := by
      obtain ⟨mc, h1, h2⟩ := hlim
      exact ⟨hKb, nsK hns, ⟨mb, nsK hb, hbb⟩, ⟨mc, nsK h1, h2⟩⟩
    have en : Env0 P w K mg (hidT s₁.heap H) callerA [] s₁ H :=
      ⟨rfl, hM, fun b o e => of_hidT e, Nat.le_of_eq (hidT_size _ _), trivial, fun b hb => absurd (show b ∈ ([] : List Addr) from hb) (by simp), hok, .of_eq hg⟩
    obtain ⟨f', fd, FF, bnd, m', kp⟩ := (F (hidT s₁.heap H)).ex
    rw [hmx] at m'
    cases m'
    have bd := bnd s₁ [.ref a] KX rfl
    rw [List.append_nil] at bd
    refine codeAny_mono (FF.run callerA [] s₁ H ⟨[.ref a], []⟩ [.ref a] [.ref a] _ _ hr rfl en bd (.cons rfl .nil) (hsp H hS)) fun r s' h => ?_
    cases r with
    | error e => exact (show False from h).elim
    | ok fl =>
      cases fl with
      | next => exact False.elim h
      | brk => exact False.elim h
      | cont => exact False.elim h
      | ret u =>
        obtain ⟨v, H', os, bare, un, hok', r', q⟩ := h
        obtain rfl : v = .bl true := q
        obtain rfl : u = Value.bool true := r'
        refine ⟨rfl, PySem.OldK.of_keep fun b o e => ?_, os, bare⟩
        cases q : H b with
        | none =>
          refine un.keep b o e q ?_ (by simp)
          intro z
          exact absurd (show b ∈ ([] : List Addr) from z) (by simp)
        | some u =>
          rcases hO b with z | ⟨ob, xs, z⟩
          · rw [q] at z
            cases z
          · obtain ⟨e1, _⟩ := hok b _ z
            obtain ⟨e2, _⟩ := hok' b _ (un.frzs b ob _ z)
            rw [e] at e1
            cases e1
            exact e2
  cases hk : K.lookup a with
  | some o =>
    have e := KX a o hk
    rw [ha] at e
    cases e
    refine core (fun _ => none) (fun _ => .inl rfl) (.inr ⟨_, vs.toArray, _, hk, rfl, rfl, rfl, ?_, by simpa using rv⟩) ?_ (fun b z => absurd rfl z) fun z => absurd rfl z
    · rw [List.size_toArray, lenV]
      exact hl
    · intro b u z
      cases (show (none : Option HO) = some u from z)
  | none =>
    refine core (fun b => if b = a then some (.frz { cls := .type "list", data := .seq vs.toArray } (.lst (ns.map V.int))) else none) (fun b => ?_)
      (.inl (.inr ⟨{ cls := .type "list", data := .seq vs.toArray }, if_pos rfl⟩)) (fun b u z => ?_) (fun b z => ?_) fun _ => hk
    · by_cases hb : b = a
      · exact .inr ⟨_, _, if_pos hb⟩
      · exact .inl (if_neg hb)
    · by_cases hb : b = a
      · cases ((if_pos hb).symm.trans z)
        subst hb
        exact ⟨ha, by rw [List.length_map]; exact hl, vs, _, rv, ha⟩
      · cases ((if_neg hb).symm.trans z)
    · by_cases hb : b = a
      · exact hb
      · exact absurd (if_neg hb) z
theorem room11 : Room 11 callerA := ⟨rfl, by decide, by decide⟩
theorem walk_27 {l : PySem.W.OpenLaw} {q : Program} {loose : List Str} {XP : (Str → Option Value) → Heap → Prop} {YP : World → Heap → Prop} {d : DefRec}
    (hn : l.most = some 63) (hdf : d.params.defaults = []) (hnm : d.name = "law")
    (hY : ∀ (w : World) (h : Heap), YP w h → (HK w.params).In h) :
    PySem.W.WalkO q loose XP YP l.row.toRowW d [] (fun f vs => PySem.call f vs) := by
  refine Att.attach_call hn hdf fun w s₀ s₁ mg mb fa o pm cd doc a vs ns G Y ho hd hcd hmg hobj hints hlen hg => ?_
  have KX := hY w _ Y
  rw [hnm] at hmg
  exact call_g2 KX G.T.g G.T.b G.T.builtins G.T.nolimit hg hobj hints (Nat.le_trans hlen (by decide)) room11
    (fun base => law_all (P := l.prog) (w := w) (base := base) (ds_of KX G.T.g) (bl_of KX G.T.g) (sh_of KX G.T.g)) hmg fun H hS => ⟨a, ns, rfl, hS, hlen, fun _ => rfl⟩
end Xq
open PySem PySem.W PyProof.Rows in
theorem PySem.Challenge.cw_likepanes_k27_whole_numbers_of_fractions_holds : PySem.Challenge.rw_likepanes_k27_whole_numbers_of_fractions.Holds := by
  refine hd27 ?_
  exact Xq.walk_27 (l := PySem.Challenge.rw_likepanes_k27_whole_numbers_of_fractions) rfl rfl rfl (fun w h Y => PySem.W.kIn_of Y)
#print axioms PySem.Challenge.cw_likepanes_k27_whole_numbers_of_fractions_holds
