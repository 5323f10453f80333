import PyProof.Rows.All
import Wide.All
import OpenK.AllK
import Wide.FinOn
import KE.KExcInit
import HandS.Base
import HandS.Call
import HandS.Exc
import HandS.ExcInit
import KE.KIsAll
import KE.KTryMore
import HandS.ForMost
import HandS.ClsMeth
import HandS.Defaults
import PyProof.ReprRoads
import PySem.Challenge.RW_likepanes_k01_limits_and_errors
set_option Elab.async false
set_option linter.all false
set_option maxRecDepth 100000
set_option maxHeartbeats 0
section
open PySem PySem.W PyProof.Rows
open_top hd for PySem.Challenge.rw_likepanes_k01_limits_and_errors
end

/-! Own exceptions over a built-in one by way of an own base class: stored into, made (by place, by keyword). -/
namespace Xk
open PySem PySem.W PySem.Calls PyProof.Rows PySem.HandSPX Builtin Builtin.ObjectAttr

/-- what a built-in base gives -/
structure Bse (B newId initId : String) (tl : List Value) : Prop where
  F : ExcBaseFacts B newId initId tl
  pass : ∀ self : Value, refuseLoop self "__setattr__" tl = pure ()
  obj : tl.contains (.type "object") = true
abbrev tlV : List Value := [.type "ValueError", .type "Exception", .type "BaseException", .type "object"]
abbrev tlL : List Value := [.type "LookupError", .type "Exception", .type "BaseException", .type "object"]
abbrev tlA : List Value := [.type "ArithmeticError", .type "Exception", .type "BaseException", .type "object"]
theorem bseV : Bse "ValueError" "ValueError.__new__" "ValueError.__init__" tlV := ⟨F.excBase_ValueError, F.store_ValueError.passes, by decide +kernel⟩
theorem bseL : Bse "LookupError" "LookupError.__new__" "LookupError.__init__" tlL := ⟨F.excBase_LookupError, F.store_LookupError.passes, by decide +kernel⟩
theorem bseA : Bse "ArithmeticError" "ArithmeticError.__new__" "ArithmeticError.__init__" tlA := ⟨F.excBase_ArithmeticError, F.store_ArithmeticError.passes, by decide +kernel⟩

theorem has_tl (Bc : Addr) (tl : List Value) (Y : String) :
    (Value.ref Bc :: tl).contains (.type Y) = tl.contains (.type Y) := by
  rw [List.contains_cons]; rfl
theorem pass2 {tl : List Value} (self : Value) (C Bc : Addr) (h : refuseLoop self "__setattr__" tl = pure ()) :
    refuseLoop self "__setattr__" (.ref C :: .ref Bc :: tl) = pure () := by
  rw [refuseLoop_ref, refuseLoop_ref]; exact h

section
variable {prog : Program} {w : World} {A : Around} {E : Value → Shared → Prop} {R : Result → Shared → Prop}
variable {hp : Heap} {g : Array GenState} {d : Drawn} {t : Nat} {os : OsState}
variable {K : W.Frag} {name : Str} {tk : Tok} {v : Value} {x C Bc : Addr} {fv : Array Value} {cd : ClassData} {tl : List Value}

/-- the first store: the dict is laid -/
theorem st_new (X : K.In hp) (hx : hp.get? x = some { cls := .ref C, data := .fields fv })
    (hcd : W.clsIn K C = some cd) (hm : cd.mro = .ref C :: .ref Bc :: tl) (ps : ∀ self : Value, refuseLoop self "__setattr__" tl = pure ())
    (ob : tl.contains (.type "object") = true) (hh : cd.hasDict = true) (ha : W.findIn K (.ref C) name = some none)
    (hq : ∀ h' tk' dx, (∀ b o, b ≠ x → hp.get? b = some o → h'.get? b = some o) → hp.objs.size ≤ dx → dx ≠ x →
      h'.get? x = some { cls := .ref C, dict := some dx, data := .fields fv } →
      h'.Ns1 dx (fun y => if y = name then some v else none) → R (.ok (.ret .none)) ⟨h', g, d, tk', os⟩) :
    codeAny (model prog w) A (.call (.builtin "object.__setattr__") ⟨[.ref x, .str name tk, v], []⟩) R ⟨hp, g, d, t, os⟩ := by
  have J : W.InstAt hp x { cls := .ref C, data := .fields fv } C none := ⟨hx, rfl, rfl, trivial⟩
  have SF := F.store_object
  have nex : cd.mro.isEmpty = false := by rw [hm]; rfl
  have hob : cd.mro.contains (.type "object") = true := by
    rw [hm, List.contains_cons, has_tl, ob, Bool.or_true]
  have nxs : x ≠ hp.objs.size := Nat.ne_of_lt (Heap.lt_size hx)
  have sub : W.Looks (model prog w) hp (isInstance (.ref x) (.type "object")) true :=
    J.type.andThen (W.looks_mroIn X (by
      unfold W.mroIn
      rw [hcd, Option.bind_some, if_neg (by rw [nex]; decide), hob]))
  refine codeAny_call_builtin SF.slot.plain SF.entry
    (@W.check_slot (model prog w) _ _ ⟨hp, g, d, t, os⟩ "object.__setattr__" "object" "__setattr__" (.ref x)
      [.str name tk, v] [] _ SF.kind SF.split sub (SF.args (.ref x) (.str name tk) v) ?_)
  have lm : W.Looks (model prog w) hp (mroOf (.ref C)) cd.mro := (W.looks_clsIn X hcd).andThen .now
  have ln : W.Looks (model prog w) hp (storeTaker? none) none := .now
  have lc : W.Looks (model prog w) hp (classData C) cd := W.looks_clsIn X hcd
  rw [W.osa_eq, refuse_eq]
  refine wpAny_bind (wpAny_bind (J.type.at (wpAny_bind (lm.at ?_))))
  rw [hm, pass2 _ _ _ (ps _)]
  refine wpAny_pure (wpAny_bind (J.type.at (wpAny_bind ((W.looks_findIn X ha).at (wpAny_bind (ln.at ?_))))))
  show wpAny _ _ (storeInOwnDict (.ref x) (.ref C) (.str name tk) name v false) _ _ _
  obtain ⟨c1, c2, c3, c4, c5, c6, c7, c8, c9, c10, c11⟩ := cd
  dsimp only at hh
  subst hh
  unfold storeInOwnDict ownDictForStores
  repeat (first | with_reducible refine store_in_new ?_ ?_
                | with_reducible refine wpAny_loadPart_at hx ?_
                | with_reducible refine lc.at ?_
                | wp_step)
  · exact ⟨_, #[], _, (Heap.get?_update_ne _ _ _ _ nxs.symm).trans (Heap.get?_push_at rfl rfl), rfl,
      fun e he => absurd he (by simp), fun _ => rfl⟩
  · intro h' tk' hn' hs
    have hx1 : (hp.push { cls := .type "dict", data := .dict #[] }).get? x = some { cls := .ref C, data := .fields fv } :=
      Heap.get?_push_of_some _ hx
    refine hq h' tk' hp.objs.size (fun b o hb ho => ?_) (Nat.le_refl _) nxs.symm ?_ hn'
    · refine (hs.2 b (Nat.ne_of_lt (Heap.lt_size ho))).trans ?_
      exact (Heap.get?_update_ne _ _ _ _ hb).trans (Heap.get?_push_of_some _ ho)
    · exact (hs.2 x nxs).trans (Heap.get?_update_self _ hx1 rfl)

/-- a further store -/
theorem st_old {dx : Addr} {m0 : Str → Option Value} {nl : List Str} (X : K.In hp)
    (hx : hp.get? x = some { cls := .ref C, dict := some dx, data := .fields fv }) (hns : hp.Ns1 dx m0) (hw : Within m0 nl) (hz : nl.length ≤ 1000)
    (hcd : W.clsIn K C = some cd) (hm : cd.mro = .ref C :: .ref Bc :: tl) (ps : ∀ self : Value, refuseLoop self "__setattr__" tl = pure ())
    (ob : tl.contains (.type "object") = true) (hh : cd.hasDict = true) (ha : W.findIn K (.ref C) name = some none)
    (hq : ∀ h' tk', (∀ b o, b ≠ dx → hp.get? b = some o → h'.get? b = some o) →
      h'.Ns1 dx (fun y => if y = name then some v else m0 y) → R (.ok (.ret .none)) ⟨h', g, d, tk', os⟩) :
    codeAny (model prog w) A (.call (.builtin "object.__setattr__") ⟨[.ref x, .str name tk, v], []⟩) R ⟨hp, g, d, t, os⟩ := by
  obtain ⟨oD, eD, pD, hoD, hdD, _⟩ := hns.count hw
  have J : W.InstAt hp x { cls := .ref C, dict := some dx, data := .fields fv } C (some oD) := ⟨hx, rfl, rfl, hoD⟩
  have SF := F.store_object
  have nex : cd.mro.isEmpty = false := by rw [hm]; rfl
  have hob : cd.mro.contains (.type "object") = true := by
    rw [hm, List.contains_cons, has_tl, ob, Bool.or_true]
  have sub : W.Looks (model prog w) hp (isInstance (.ref x) (.type "object")) true :=
    J.type.andThen (W.looks_mroIn X (by
      unfold W.mroIn
      rw [hcd, Option.bind_some, if_neg (by rw [nex]; decide), hob]))
  refine codeAny_call_builtin SF.slot.plain SF.entry
    (@W.check_slot (model prog w) _ _ ⟨hp, g, d, t, os⟩ "object.__setattr__" "object" "__setattr__" (.ref x)
      [.str name tk, v] [] _ SF.kind SF.split sub (SF.args (.ref x) (.str name tk) v) ?_)
  have lm : W.Looks (model prog w) hp (mroOf (.ref C)) cd.mro := (W.looks_clsIn X hcd).andThen .now
  have ln : W.Looks (model prog w) hp (storeTaker? none) none := .now
  have lc : W.Looks (model prog w) hp (classData C) cd := W.looks_clsIn X hcd
  rw [W.osa_eq, refuse_eq]
  refine wpAny_bind (wpAny_bind (J.type.at (wpAny_bind (lm.at ?_))))
  rw [hm, pass2 _ _ _ (ps _)]
  refine wpAny_pure (wpAny_bind (J.type.at (wpAny_bind ((W.looks_findIn X ha).at (wpAny_bind (ln.at ?_))))))
  show wpAny _ _ (storeInOwnDict (.ref x) (.ref C) (.str name tk) name v false) _ _ _
  obtain ⟨c1, c2, c3, c4, c5, c6, c7, c8, c9, c10, c11⟩ := cd
  dsimp only at hh
  subst hh
  unfold storeInOwnDict ownDictForStores
  repeat (first | with_reducible refine PySem.OEX.store_in_old hns hw hz ?_
                | with_reducible refine wpAny_loadPart_at hx ?_
                | with_reducible refine lc.at ?_
                | wp_step)
  intro h' tk' hn' hs
  exact hq h' tk' (fun b o hb ho => (hs.2 b hb).trans ho) hn'
end

/-! ### type.__call__ with keywords -/
section
variable {M : Model} {A : Around} {E : Value → Shared → Prop} {h : Heap} {g : Array GenState} {d : Drawn} {t : Nat} {os : OsState}
variable {nm q : Str} {C N : Addr} {bs bm bmB : List Value} {hdct : Bool} {sn : List Str} {sub : List Value} {ab : Bool} {col : Option Bool} {dd : Option Addr} {k0 k1 k2 k3 k5 : Option Value} {B newId initId : String}
variable {kw : List (Str × Value)}

theorem chk_tc {rest : List Value} {Q : Unit → Shared → Prop}
    (hC : h.get? C = some (excClassObj nm q C N bs bm hdct sn sub ab col dd k0 k1 k2 k3 k5 newId))
    (hq : Q () ⟨h, g, d, t, os⟩) : wpAny M A (checkBuiltinCall "type.__call__" ⟨.ref C :: rest, kw⟩) Q E ⟨h, g, d, t, os⟩ := by
  have f3 := tc_sub
  have hT : (⟨h, g, d, t, os⟩ : Shared).TypeIs (.ref C) "type" := ⟨_, hC, rfl⟩
  simp only [checkBuiltinCall, tc_kind, tc_split]
  repeat (any_goals (first | assumption
                           | with_reducible refine wpAny_loadPart_at hC ?_
                           | with_reducible refine wpAny_onRaise ?_
                           | with_reducible refine wpAny_map ?_
                           | wp_step))

theorem chk_new (F : ExcBaseFacts B newId initId bmB) (hT : ∀ X : String, bm.contains (.type X) = bmB.contains (.type X)) {rest : List Value} {Q : Unit → Shared → Prop}
    (hC : h.get? C = some (excClassObj nm q C N bs bm hdct sn sub ab col dd k0 k1 k2 k3 k5 newId)) (hq : Q () ⟨h, g, d, t, os⟩) :
    wpAny M A (checkBuiltinCall newId ⟨.ref C :: rest, kw⟩) Q E ⟨h, g, d, t, os⟩ := by
  have hcont : (Value.ref C :: bm).contains (.type B) = true := by
    rw [List.contains_cons, hT, F.hasB, Bool.or_true]
  have hstar := F.noStar
  simp only [checkBuiltinCall, F.newKind, F.newSplit, F.newRow]
  repeat (first | refine wpAny_loadPart_at hC ?_
                | (refine wpAny_isSubtype_exc hC ?_; rw [hcont])
                | refine wpAny_staticBase_exc hC ?_
                | refine wpAny_madeBy_exc hC ?_
                | simp only [bne_self_eq_false, Bool.false_eq_true, if_false]
                | wp_step)
  exact hq
end

section
variable {prog : Program} {w : World} {A : Around} {E : Value → Shared → Prop} {R : Result → Shared → Prop} {h : Heap} {g : Array GenState} {d : Drawn} {t : Nat} {os : OsState}
variable {nm q : Str} {C N : Addr} {bs bm bmB : List Value} {hdct : Bool} {sn : List Str} {sub : List Value} {ab : Bool} {col : Option Bool} {dd : Option Addr} {k0 k1 k2 k3 k5 : Option Value} {B newId initId : String}
variable {kw : List (Str × Value)}

theorem new_kw (F : ExcBaseFacts B newId initId bmB) (hT : ∀ X : String, bm.contains (.type X) = bmB.contains (.type X)) {rest : List Value}
    (hC : h.get? C = some (excClassObj nm q C N bs bm hdct sn sub ab col dd k0 k1 k2 k3 k5 newId))
    (hq : R (.ok (.ret (.ref (h.objs.size + 1)))) ⟨(h.push (W.kdv_tup rest)).push (excO C h.objs.size), g, d, t, os⟩)
    (hrest : rest.length ≤ sizeLine) :
    codeAny (model prog w) A (.builtin newId ⟨.ref C :: rest, kw⟩) R ⟨h, g, d, t, os⟩ := by
  have hends := F.ends
  have hB : (Value.ref C :: bm).contains (.type B) = true := by
    rw [List.contains_cons, hT, F.hasB, Bool.or_true]
  have hA : (Value.ref C :: bm).contains (.type "AttributeError") = false := by
    rw [List.contains_cons, hT, F.noAttr]; rfl
  have hN : (Value.ref C :: bm).contains (.type "NameError") = false := by
    rw [List.contains_cons, hT, F.noName]; rfl
  refine codeAny_builtinAt F.entry ?_
  unfold Builtin.«BaseException.__new__»
  refine PySem.wpAt_bind ?_
  show PySem.wpAt _ _ _ (stack >>= _) _ _ _
  refine PySem.wpAt_bind (PySem.wpAt_stack fun p below => PySem.wpAt_of_wpAny ?_)
  wp_walk
  refine PySem.wpAt_of_wpAny ?_
  rw [F.owner]
  repeat (first | with_reducible refine wpAny_madeHere_exc F.canon hC ?_
                | with_reducible refine wpAny_loadPart_at hC ?_
                | (with_reducible refine wpAny_isSubtype_exc hC ?_; first | rw [hB] | rw [hA] | rw [hN])
                | wp_step)
  show R _ _
  rw [Heap.size_push]
  exact hq

theorem tc_kw (F : ExcBaseFacts B newId initId bmB) (hT : ∀ X : String, bm.contains (.type X) = bmB.contains (.type X)) {rest : List Value} {fI : Addr} {Q : Fin → Shared → Prop}
    (hC : h.get? C = some (excClassObj nm q C N bs bm hdct sn sub ab col dd k0 k1 k2 k3 k5 newId))
    (hi : W.Looks (model prog w) h (typeLookup (.ref C) "__init__") (some (.ref fI)))
    (hb : ∀ self, W.Looks (model prog w) h (bindSpecial (.ref fI) self) (.ref fI, [self])) (hrest : rest.length ≤ sizeLine)
    (hq : codeAny (model prog w) A (.call (.ref fI) ⟨.ref (h.objs.size + 1) :: rest, kw⟩)
      (fun r s' => match r with | .ok (.ret v) => v = .none ∧ Q (.done (.ret (.ref (h.objs.size + 1)))) s' | .ok _ => False | .error e => E e s')
      ⟨(h.push (W.kdv_tup rest)).push (excO C h.objs.size), g, d, t, os⟩) :
    wpAny (model prog w) A (Builtin.«type.__call__» ⟨.ref C :: rest, kw⟩) Q E ⟨h, g, d, t, os⟩ := by
  repeat (first | with_reducible refine wpAny_loadPart_at hC ?_
                | with_reducible refine wpAny_madeBy_exc hC ?_
                | wp_step)
  refine codeAny_call_builtin_code (Code.quiet_builtin _ F.quiet) (chk_new F hT hC ?_)
  refine new_kw F hT hC ?_ hrest
  show wpAny _ _ _ _ _ _
  have k : ∀ b o, h.get? b = some o → ((h.push (W.kdv_tup rest)).push (excO C h.objs.size)).get? b = some o :=
    fun b o e => Heap.get?_push_of_some _ (Heap.get?_push_of_some _ e)
  have hC1 := k _ _ hC
  have hget : ((h.push (W.kdv_tup rest)).push (excO C h.objs.size)).get? (h.objs.size + 1) = some (excO C h.objs.size) := by heap_get
  have hcC : (Value.ref C :: bm).contains (.ref C) = true := by simp
  have i1 := hi.keeps k
  have b1 := (hb (.ref (h.objs.size + 1))).keeps k
  unfold isInstance
  repeat (first | with_reducible refine wpAny_loadPart_at hget ?_
                | (with_reducible refine wpAny_isSubtype_exc hC1 ?_; rw [hcC])
                | wp_step)
  show wpAny _ _ (typeLookup (.ref C) _) _ _ _
  refine i1.at ?_
  refine wpAny_holding (wpAny_bind (b1.at ?_))
  refine wpAny_bind (wpAny_call (codeAny_mono hq fun r s' z => ?_))
  rcases r with e | (v | _ | _ | _) <;> first | exact z | exact z.elim | skip
  obtain ⟨rfl, z⟩ := z
  first
    | exact wpAny_pure (wpAny_pure z)
    | (wp_walk; exact z)

/-- C(.., k = v): the exception, then its own __init__ -/
theorem call_kw (F : ExcBaseFacts B newId initId bmB) (hT : ∀ X : String, bm.contains (.type X) = bmB.contains (.type X)) {rest : List Value} {fI : Addr}
    (hC : h.get? C = some (excClassObj nm q C N bs bm hdct sn sub ab col dd k0 k1 k2 k3 k5 newId))
    (hi : W.Looks (model prog w) h (typeLookup (.ref C) "__init__") (some (.ref fI)))
    (hb : ∀ self, W.Looks (model prog w) h (bindSpecial (.ref fI) self) (.ref fI, [self])) (hrest : rest.length ≤ sizeLine)
    (hq : codeAny (model prog w) (A.under (.builtin "type.__call__" ⟨.ref C :: rest, kw⟩)) (.call (.ref fI) ⟨.ref (h.objs.size + 1) :: rest, kw⟩)
      (W.InitBack (h.objs.size + 1) R) ⟨(h.push (W.kdv_tup rest)).push (excO C h.objs.size), g, d, t, os⟩) :
    codeAny (model prog w) A (.call (.ref C) ⟨rest, kw⟩) R ⟨h, g, d, t, os⟩ := by
  have f1 := tc_lookup
  have f2 := tc_bind (.ref C)
  have hTy : (⟨h, g, d, t, os⟩ : Shared).TypeIs (.ref C) "type" := ⟨_, hC, rfl⟩
  refine codeAny_of_tree ?_
  show wpAny _ _ (callAny (.ref C) _) _ _ _
  repeat (any_goals (first | assumption
                           | with_reducible refine wpAny_loadPart_at hC ?_
                           | wp_step))
  refine ⟨rfl, ?_⟩
  refine codeAny_call_builtin_at (Code.quiet_builtin _ (by decide +kernel)) entry_typeCall (chk_tc hC (tc_kw F hT hC hi hb hrest ?_))
  refine codeAny_mono hq fun r s' z => ?_
  rcases r with e | (v | _ | _ | _) <;> exact z
end
end Xk

namespace Xk
open PySem PySem.Spec PyProof.Rows L2

/-- what the written part says of an own exception class C over the own class Bc over a built-in one -/
structure OxC (K : PySem.W.Frag) (C Bc : Addr) (newId : String) (tl : List Value) : Prop where
  cls : ∃ nm q N bs sn sub ab col dd k0 k1 k2 k3 k5,
    K.lookup C = some (excClassObj nm q C N bs (.ref Bc :: tl) true sn sub ab col dd k0 k1 k2 k3 k5 newId)
  sa : PySem.W.findIn K (.ref C) "__setattr__" = some (some (.builtin "object.__setattr__"))
  kC : PySem.W.keepIn K (.ref C) = true
  hg : PySem.W.findIn K (.ref C) "__getattribute__" = some (some (.builtin "BaseException.__getattribute__"))
  hk : PySem.W.findIn K (.ref C) "__getattr__" = some none
  hs : PySem.W.subIn K (.ref C) (.type "BaseException") = some true
  hd : PySem.W.hasDictIn K C = true
  ha : PySem.W.findIn K (.ref C) "__class__" = some (some (.builtin "object.__class__"))
  hn : PySem.W.specialIn K (.builtin "object.__class__") "__get__" = some (some (.builtin "getset_descriptor.__get__"))
  ht : PySem.W.takesIn K (.builtin "object.__class__") = some true
  hm : PySem.W.mroIn K C (.type "object") = some true

section
variable {X : Cx} {pins : List (Addr × Obj)} {σ : L2.St} {H : Hp} {s : Shared} {a C Bc dx : Addr} {f : Str} {y : V} {u : Value}
variable {fs : List (Str × V)} {Q : Unit → Shared → Prop} {E : Value → Shared → Prop} {A : Around} {Bn newId initId : String} {tl : List Value}

theorem OxC.cd {K : PySem.W.Frag} (T : OxC K C Bc newId tl) : ∃ cd : ClassData, PySem.W.clsIn K C = some cd ∧ cd.mro = .ref C :: .ref Bc :: tl ∧ cd.hasDict = true := by
  obtain ⟨nm, q, N, bs, sn, sub, ab, col, dd, k0, k1, k2, k3, k5, hC⟩ := T.cls
  refine ⟨{ name := nm, bases := bs, mro := .ref C :: .ref Bc :: tl, ns := N, qualname := q, hasDict := true, slotNames := sn, subclasses := sub, abstract := ab, collection := col, hasDel := false }, ?_, rfl, rfl⟩
  unfold PySem.W.clsIn
  rw [hC] <;> rfl

theorem ox_new (T : OxC X.K C Bc newId tl) (B : Bse Bn newId initId tl) (I : Inv X pins σ H s) (e : H a = some (exo a C none))
    (hno : PySem.W.findIn X.K (.ref C) f = some none) (ry : RelV y u)
    (h : ∀ dx s', H dx = none → dx ≠ a → Inv X pins σ (upd (upd H dx (exd dx [(f, y)])) a (exo a C (some dx))) s' → Q () s') :
    wpAny (model X.prog X.w) A (setAttr (.ref a) f u) Q E s := by
  obtain ⟨cd, hcl, hmr, hhd⟩ := T.cd
  obtain ⟨t1, ho⟩ := exo_at I.hok e
  obtain ⟨hp, g, d, t, os⟩ := s
  refine PySem.W.set_plain I.kIn (ox := { cls := .ref C, dict := none, data := .fields #[.ref t1, .none, .none, .none, .bool false, .none] })
    (od := none) ⟨ho, rfl, rfl, trivial⟩ T.sa ?_
  refine st_new I.kIn ho hcl hmr B.pass B.obj hhd hno (fun h' tk' dx k dn dne hx hn => ?_)
  have hnd : H dx = none := I.hok.fresh dn
  have nd : ∀ {b : Addr} {o : Obj}, hp.get? b = some o → b ≠ dx := fun {b o} q =>
    Nat.ne_of_lt (Nat.lt_of_lt_of_le (Heap.lt_size q) dn)
  have na : ∀ {b : Addr}, H b = none → b ≠ a := fun {b} n z => by
    rw [z, e] at n
    cases n
  have U : Un X.fs [] H (upd (upd H dx (exd dx [(f, y)])) a (exo a C (some dx))) hp h' := {
    keep := fun b o q n _ _ => k b o (na n) q
    slot := fun b o q n _ _ => ⟨o.slots, k b o (na n) q⟩
    free := fun b o q n _ => by rw [upd_ne (na n), upd_ne (nd q)]; exact n
    there := fun b o q _ => by
      by_cases hb : b = a
      · exact ⟨_, by rw [hb]; exact hx⟩
      · exact ⟨o, k b o hb q⟩
    tups := fun b xs q => by rw [upd_ne (at_ne e q exo_tup), upd_ne (ne_of_none q hnd)]; exact q
    frzs := fun b o v q => by rw [upd_ne (at_ne e q exo_frz), upd_ne (ne_of_none q hnd)]; exact q
    tbls := fun b ps q => ⟨#[], by rw [upd_ne (at_ne e q exo_tbl), upd_ne (ne_of_none q hnd), q]; simp⟩ }
  refine h dx _ hnd dne (I.un (t' := tk') U fun b o q => ?_)
  by_cases hb : b = a
  · subst hb
    rw [upd_same] at q
    cases q
    exact exo_ok hx
  · rw [upd_ne hb] at q
    by_cases hd : b = dx
    · subst hd
      rw [upd_same] at q
      cases q
      exact exd_ok hn (relO_put (fs := []) ry fun g => True.intro)
    · rw [upd_ne hd] at q
      refine (I.hok b o q).stay (fun c v hc z => k c v ?_ z) (fun c hc => ?_) (fun c xs hc => ?_)
      · rcases hc with hc | hc
        · rw [hc]
          exact hb
        · exact at_ne e hc exo_own
      · rw [upd_ne (at_ne e hc exo_own), upd_ne (ne_of_none hc hnd)]
        exact hc
      · rw [upd_ne (at_ne e hc exo_tup), upd_ne (ne_of_none hc hnd)]
        exact hc

theorem ox_old (T : OxC X.K C Bc newId tl) (B : Bse Bn newId initId tl) (I : Inv X pins σ H s) (e : H a = some (exo a C (some dx)))
    (ed : H dx = some (exd dx fs)) (hl : fs.length ≤ 900) (hno : PySem.W.findIn X.K (.ref C) f = some none) (ry : RelV y u)
    (h : ∀ s', Inv X pins σ (upd H dx (exd dx ((f, y) :: fs))) s' → Q () s') :
    wpAny (model X.prog X.w) A (setAttr (.ref a) f u) Q E s := by
  obtain ⟨cd, hcl, hmr, hhd⟩ := T.cd
  obtain ⟨t1, ho⟩ := exo_at I.hok e
  obtain ⟨mA, hns, rel⟩ := exd_at I.hok ed
  have hw := within_of rel
  obtain ⟨hp, g, d, t, os⟩ := s
  obtain ⟨oD, _, _, hoD, _, _⟩ := hns.count hw
  refine PySem.W.set_plain I.kIn (ox := { cls := .ref C, dict := some dx, data := .fields #[.ref t1, .none, .none, .none, .bool false, .none] })
    (od := some oD) ⟨ho, rfl, rfl, hoD⟩ T.sa ?_
  refine st_old I.kIn ho hns hw (by rw [List.length_map]; omega) hcl hmr B.pass B.obj hhd hno (fun h' tk' k hn => ?_)
  have hd : ∃ o, h'.get? dx = some o := by
    obtain ⟨o, _, _, e', _⟩ := hn
    exact ⟨o, e'⟩
  refine h _ (I.write (t' := tk') (x := dx) (e := dx) (o := exd dx ((f, y) :: fs)) ?_ (.inl rfl) k hd (exd_ok hn (relO_put ry rel)))
  rw [ed]
  exact True.intro

theorem ox_init {us : List Value} {Q : Value → Shared → Prop} (T : OxC X.K C Bc newId tl) (B : Bse Bn newId initId tl) (I : Inv X pins σ H s)
    (e : H a = some (exo a C none)) (hl : us.length ≤ sizeLine) (h : ∀ s', Inv X pins σ H s' → Q .none s') :
    wpAny (model X.prog X.w) A (call (.builtin initId) (.ref a :: us)) Q E s := by
  obtain ⟨nm, q, N, bs, sn, sub, ab, col, dd, k0, k1, k2, k3, k5, hC⟩ := T.cls
  obtain ⟨t1, ho⟩ := exo_at I.hok e
  obtain ⟨hp, g, d, t, os⟩ := s
  refine wpAny_call (PySem.HandSPX.init_base B.F (fun Y => has_tl Bc tl Y) (I.kIn _ _ hC) ho hl fun h' t2 k hx => ?_)
  have J := I.write (t' := t) (x := a) (e := a) (o := exo a C none) (by rw [e]; exact True.intro) (.inl rfl) k ⟨_, hx⟩ (exo_ok hx)
  have eu : upd H a (exo a C none) = H := by
    funext b
    by_cases hb : b = a
    · rw [hb, upd_same, e]
    · rw [upd_ne hb]
  rw [eu] at J
  exact h _ J
end

/-! ### readings and rules -/
/-- what the written part says of the own base class Bc: Bc.__init__ is the built-in one -/
structure BoC (K : PySem.W.Frag) (Bc : Addr) (initId : String) : Prop where
  rd : PySem.W.readsIn K Bc (.type "type") = true
  ga : PySem.W.specialIn K (.ref Bc) "__getattribute__" = some (some (.builtin "type.__getattribute__"))
  at_ : PySem.W.findCls K (.ref Bc) (.type "type") "__init__" = some (.val (.builtin initId))

def tBin (K : PySem.W.Frag) (Bc : Addr) (newId : String) (tl : List Value) (ta : TA) : TE := fun σ H Q => ta σ H fun vs H1 =>
  ∃ (a C : Addr) (ws : List V), vs = .ref a :: ws ∧ ws.length ≤ 1000 ∧ OxC K C Bc newId tl ∧ H1 a = some (exo a C none) ∧ Q .non H1
def tOx (K : PySem.W.Frag) (Bc : Addr) (newId : String) (tl : List Value) (f : Str) (to te : TE) : TS := fun D σ H => te σ H fun y H1 => to σ H1 fun x H2 =>
  ∃ a C : Addr, x = .ref a ∧ OxC K C Bc newId tl ∧ PySem.W.findIn K (.ref C) f = some none ∧
  ((H2 a = some (exo a C none) ∧ ∀ dx, H2 dx = none → dx ≠ a → D.nx σ (upd (upd H2 dx (exd dx [(f, y)])) a (exo a C (some dx)))) ∨
    ∃ (dx : Addr) (fs : List (Str × V)), H2 a = some (exo a C (some dx)) ∧ H2 dx = some (exd dx fs) ∧ fs.length ≤ 900 ∧ D.nx σ (upd H2 dx (exd dx ((f, y) :: fs))))

section
variable {X : Cx} {o e : Expr} {es : List Expr} {to te : TE} {ta : TA} {f b : Str} {p p' p1 p2 pos : Pos} {Bc : Addr} {Bn newId initId : String} {tl : List Value}
/-- Base.__init__(self, ..) -/
theorem pe_bin {pl : Sem Bool} (R : BoC X.K Bc initId) (B : Bse Bn newId initId tl) (hg : Gl X b) (hm : X.mg b = some (.ref Bc)) (ha : PA X (e :: es) ta)
    (hh : PySem.W.handedIn (.builtin initId) = true)
    (hc : eval (.Call (.Attribute (.Name b p1) "__init__" p2) (e :: es) [] pos) X.env = (do
      let ov ← eval (.Name b p1) X.env
      standAt p2.atName
      let (f, first) ← holding [ov] (getMethod ov "__init__" pl)
      callWith pos f first (backTo pos (starEach (e :: es) X.env)) (backToKw pos (keywordEach [] X.env))) := by rfl)
    (hdb : (b == ("__debug__" : Str)) = false := by decide)
    (he : starEach (e :: es) X.env = (false, eval e X.env) :: starEach es X.env := by rfl) (hpl : (backTo pos (starEach es X.env)).any (·.1) = false := by rfl) :
    PE X (.Call (.Attribute (.Name b p1) "__init__" p2) (e :: es) [] pos) (tBin X.K Bc newId tl ta) := by
  refine ⟨fun pins s σ H Q I h => ?_⟩
  refine PySem.W.methodCall_KW (ld_glob I hg hm ?_ hdb) hc
  refine PySem.W.method_cls I.kIn R.ga (PySem.W.cls_value I.kIn R.rd R.at_ hh ?_)
  show wpAny _ _ (callWith pos (Value.builtin initId) [] (backTo pos (starEach (e :: es) X.env)) []) _ _ _
  refine PyProof.Rows.callWith_method1 (thn (ha.run pos pins _ σ H _ (I.tok _) h) fun us s1 ⟨vs, H1, I1, r1, a, C, ws, ev, hl, T, ea, q⟩ => ?_) he hpl
  subst ev
  cases r1 with
  | @cons _ u0 _ ur ra rw' =>
    obtain rfl : u0 = Value.ref a := ra
    have hlen : ur.length ≤ sizeLine := by
      rw [← Paired.length rw', sizeLine_eq]
      omega
    exact ox_init T B I1 ea hlen fun s' J => ⟨.non, H1, J, rfl, q⟩
/-- self.f = e -/
theorem ps_ox (B : Bse Bn newId initId tl) (ho : PE X o to) (he : PE X e te) (hs : swapsWith e (some (.Attribute o f p')) pos.line X.env = pure false := by rfl) :
    PS X (.Assign [.Attribute o f p'] e pos) (tOx X.K Bc newId tl f to te) := by
  refine ⟨fun pins s σ H D I h => ?_⟩
  refine plainObj_wpAny_Assign_Attribute (thn (he.run pins s σ H _ I h) fun v s1 ⟨y, H1, I1, r1, q1⟩ =>
    thn (ho.run pins s1 σ H1 _ I1 q1) fun u s2 ⟨x, H2, I2, r2, a, C, ex, T, hno, q⟩ => ?_) hs
  subst ex
  obtain rfl : u = Value.ref a := r2
  rcases q with ⟨ea, q⟩ | ⟨dx, fs, ea, ed, hl, q⟩
  · exact ox_new T B I2 ea hno r1 fun dx s' n ne J => ⟨σ, _, J, q dx n ne⟩
  · exact ox_old T B I2 ea ed hl hno r1 fun s' J => ⟨σ, _, J, q⟩
end
end Xk

/-! Own exceptions: made as values, asked by isinstance, their fields read. -/
namespace Xk
section
open PySem PySem.W PySem.Spec PySem.Calls PyProof.Rows
variable {prog : Program} {w : World} {A : Around} {E : Value → Shared → Prop} {s : Shared} {K : Frag} {x D : Addr} {ox : Obj} {od : Option Obj}
theorem bindN {C : Addr} {name : Str} {a g : Value} (hc : (clsIn K C).isSome = true) (ha : findIn K (.ref C) name = some (some a))
    (hg : specialIn K a "__get__" = some (some g)) (ht : takesIn K a = some true) : findObj K C od name = some (.bind g a) := by
  obtain ⟨cd, hc⟩ := Option.isSome_iff_exists.mp hc
  unfold findObj
  rw [hc, Option.bind_some, ha, Option.bind_some]
  simp [hg, ht]
theorem cls_of_exc (hga : findIn K (.ref D) "__getattribute__" = some (some (.builtin "BaseException.__getattribute__")))
    (hgt : findIn K (.ref D) "__getattr__" = some none) (hsub : subIn K (.ref D) (.type "BaseException") = some true)
    (hdct : hasDictIn K D = true) (ha : findIn K (.ref D) "__class__" = some (some (.builtin "object.__class__")))
    (hn : specialIn K (.builtin "object.__class__") "__get__" = some (some (.builtin "getset_descriptor.__get__")))
    (htk : takesIn K (.builtin "object.__class__") = some true) (hm : mroIn K D (.type "object") = some true)
    {Q : Option Value → Shared → Prop} (X : K.In s.heap) (I : InstAt s.heap x ox D od) (h : Q (some (.ref D)) { s with toks := s.toks + 1 }) :
    wpAny (model prog w) A (getAttr? (.ref x) "__class__") Q E s := by
  have hcs : (clsIn K D).isSome = true := by
    obtain ⟨cd, hc, _⟩ := any_some hdct
    rw [hc]; rfl
  have hf : findObj K D od "__class__" = some (.bind (.builtin "getset_descriptor.__get__") (.builtin "object.__class__")) := bindN hcs ha hn htk
  obtain ⟨hp, g, d, t, os⟩ := s
  have L0 := I.type (M := model prog w)
  have L1 := looks_findIn (M := model prog w) X hga
  have L2 := looks_findIn (M := model prog w) X hgt
  have L3 := looks_find (M := model prog w) X I hf
  have sub : Looks (model prog w) hp (isInstance (.ref x) (.type "BaseException")) true := L0.andThen (looks_subIn X hsub)
  have e0 : (false && onTheHeap (Value.builtin "BaseException.__getattribute__")) = false := rfl
  have e2 : (Value.builtin "BaseException.__getattribute__" == Value.builtin "object.__getattribute__") = false := by decide +kernel
  have e1 : (onTheHeap (Value.ref D) && Value.builtin "BaseException.__getattribute__" == Value.builtin "object.__getattribute__") = false := by
    rw [e2]; rfl
  unfold getAttr? getAttrBy? getAttrBy
  refine wpAny_bind (wpAny_mkText (wpAny_bind (wpAny_attempt (wpAny_holding (wpAny_bind (L0.at (wpAny_bind (L1.at ?_))))))))
  show wpAny _ _ (if (onTheHeap (Value.ref D) && Value.builtin "BaseException.__getattribute__" == Value.builtin "object.__getattribute__") = true then _ else _) _ _ _
  rw [e1, if_neg Bool.false_ne_true]
  unfold getAttrByItsOwn hookBefore
  refine wpAny_bind ?_
  rw [if_pos (show onTheHeap (Value.ref D) = true from rfl)]
  refine L2.at ?_
  refine wpAny_bind (wpAny_attempt (wpAny_holding ?_))
  unfold callGetattribute
  rw [e0, if_neg Bool.false_ne_true]
  unfold boundAndCalled
  rw [PySem.F.excAttr_ValueError.ga.bind (.ref x)]
  refine wpAny_bind (wpAny_pure ?_)
  show wpAny _ _ (call (.builtin "BaseException.__getattribute__") [.ref x, .str "__class__" t]) _ _ _
  refine wpAny_call (codeAny_call_builtin PySem.F.excAttr_ValueError.ga.plain PySem.F.entry_bexc_ga ?_)
  refine @check_slot (model prog w) _ _ ⟨hp, g, d, t + 1, os⟩ "BaseException.__getattribute__" "BaseException" "__getattribute__" (.ref x)
    [.str "__class__" t] [] _ (by decide +kernel) (by decide +kernel) sub (PySem.F.args_bexc_ga (.ref x) (.str "__class__" t)) ?_
  unfold Builtin.«object.__getattribute__»
  refine wpAny_bind (wpAny_of_eq (a := ((Value.ref x : Value), [Value.str "__class__" t])) (by first | rfl | (simp only [slotArgs]; rfl)) ?_)
  refine wpAny_bind (wpAny_pure (wpAny_bind (L0.at (wpAny_bind (L3.at ?_)))))
  show wpAny _ _ (holding [Value.builtin "object.__class__"] (call (.builtin "getset_descriptor.__get__") [.builtin "object.__class__", .ref x, .ref D]) >>= ret) _ _ _
  refine wpAny_bind (wpAny_holding (wpAny_call (class_get (s := ⟨hp, g, d, t + 1, os⟩) (ox := ox) (od := od) X I hm ?_)))
  refine wpAny_pure ?_
  show wpAny _ _ (handedOut (.ref D)) _ _ _
  rw [handedOut_of (v := .ref D) rfl]
  first
    | exact wpAny_pure (wpAny_pure h)
    | exact wpAny_pure h
    | exact wpAny_pure (wpAny_bind (wpAny_pure (wpAny_pure h)))
theorem kit_exc (hga : findIn K (.ref D) "__getattribute__" = some (some (.builtin "BaseException.__getattribute__")))
    (hgt : findIn K (.ref D) "__getattr__" = some none) (hsub : subIn K (.ref D) (.type "BaseException") = some true)
    (hdct : hasDictIn K D = true) (ha : findIn K (.ref D) "__class__" = some (some (.builtin "object.__class__")))
    (hn : specialIn K (.builtin "object.__class__") "__get__" = some (some (.builtin "getset_descriptor.__get__")))
    (htk : takesIn K (.builtin "object.__class__") = some true) (hm : mroIn K D (.type "object") = some true) :
    KitX K (.ref x) (.ref D) (fun h => ∃ ox od, InstAt h x ox D od) where
  ty := fun _ _ _ ⟨_, _, I⟩ => I.type
  it := fun _ _ X _ => by
    obtain ⟨cdD, hcD, _⟩ := any_some hdct
    unfold clsIn at hcD
    split at hcD
    · rename_i c' d' cd' sl' ho
      intro A' Q' E' s' k q
      unfold isType loadHead
      exact wpAny_bind (wpAny_loadPart (k _ _ (X _ _ ho)) (wpAny_pure q))
    · cases hcD
  ne := fun h tp dd its n sl X htp => by
    obtain ⟨cdD, hcD, _⟩ := any_some hdct
    refine Bool.eq_false_iff.mpr fun q => ?_
    have e : D = tp := Value.ref.inj (beq_iff_eq.mp q)
    subst e
    unfold clsIn at hcD
    split at hcD
    · rename_i c' d' cd' sl' ho
      have z := (X _ _ ho).symm.trans htp
      cases z
    · cases hcD
  ca := fun X ⟨_, _, I⟩ k => cls_of_exc hga hgt hsub hdct ha hn htk hm X I k
end

open PySem PySem.Spec PyProof.Rows L2
/-- at a: an exception of the class at C with the fields fs -/
def ExAt (H : Hp) (a C : Addr) (fs : List (Str × V)) : Prop :=
  (fs = [] ∧ H a = some (exo a C none)) ∨ ∃ dx, H a = some (exo a C (some dx)) ∧ H dx = some (exd dx fs)
theorem ExAt.same {H H' : Hp} {a C : Addr} {fs : List (Str × V)} (h : ExAt H a C fs) (k : Same H H') : ExAt H' a C fs := by
  rcases h with ⟨e, h⟩ | ⟨dx, h1, h2⟩
  · exact .inl ⟨e, k _ _ h⟩
  · exact .inr ⟨dx, k _ _ h1, k _ _ h2⟩

section
variable {X : Cx} {pins : List (Addr × Obj)} {σ : L2.St} {H : Hp} {s : Shared}
theorem ExAt.inst {a C : Addr} {fs : List (Str × V)} (I : Inv X pins σ H s) (h : ExAt H a C fs) : ∃ ox od, PySem.W.InstAt s.heap a ox C od ∧
    ∀ f v, fs.lookup f = some v → ∃ o u, od = some o ∧ PySem.W.lookIn f o = some (some u) ∧ RelV v u := by
  rcases h with ⟨e, h⟩ | ⟨dx, h1, h2⟩
  · obtain ⟨t1, ho⟩ := exo_at I.hok h
    refine ⟨_, none, ⟨ho, rfl, rfl, trivial⟩, fun f v q => ?_⟩
    rw [e] at q
    cases q
  · obtain ⟨t1, ho⟩ := exo_at I.hok h1
    obtain ⟨mA, hns, hr⟩ := exd_at I.hok h2
    obtain ⟨o, ho2, hl⟩ := lookIn_ns hns
    refine ⟨_, some o, ⟨ho, rfl, rfl, ho2⟩, fun f v q => ?_⟩
    obtain ⟨u, hu, ru⟩ := RelO.some_of (v := v) (o := mA f) (by rw [← q]; exact hr f)
    exact ⟨o, u, rfl, by rw [hl, hu], ru⟩
end

/-- isinstance(e, c) -/
def rIsO (K : PySem.W.Frag) : List V → Hp → VK → Prop := fun xs H Q => ∃ (a C : Addr) (fs : List (Str × V)) (c : V) (cv : Value) (b : Bool) (Bc : Addr) (newId : String) (tl : List Value),
  xs = [.ref a, c] ∧ ExAt H a C fs ∧ OxC K C Bc newId tl ∧ (∀ u, RelV c u → u = cv) ∧ PySem.W.kitOne K (.ref C) cv = some b ∧ Q (.bl b) H
theorem call_isO {X : Cx} : CallR X (.builtin "isinstance") (rIsO X.K) := by
  intro pins s σ H xs us Q I r h
  obtain ⟨a, C, fs, c, cv, b, Bc, newId, tl, rfl, hex, T, hcv, e, q⟩ := h
  cases r with
  | cons rx rr =>
    cases rr with
    | cons rt rr =>
      cases rr
      cases rx
      have ec := hcv _ rt
      subst ec
      obtain ⟨ox, od, J, _⟩ := hex.inst I
      exact PySem.W.kia_one (kit_exc T.hg T.hk T.hs T.hd T.ha T.hn T.ht T.hm) I.kIn ⟨ox, od, J⟩ e (fun z => nomatch z)
        fun tk => ⟨.bl b, H, I.kept (t' := tk) fun _ _ z => z, rfl, q⟩

/-- e.f -/
def tOat (K : PySem.W.Frag) (f : Str) (te : TE) : TE := fun σ H Q => te σ H fun x H1 => ∃ (a C : Addr) (fs : List (Str × V)) (v : V) (Bc : Addr) (newId : String) (tl : List Value),
  x = .ref a ∧ ExAt H1 a C fs ∧ OxC K C Bc newId tl ∧ PySem.W.findIn K (.ref C) f = some none ∧ fs.lookup f = some v ∧ Q v H1
theorem pe_oat {X : Cx} {e : Expr} {te : TE} {pos : Pos} {f : Str} (he : PE X e te) (hb : attributeBase e f X.env (eval e X.env) = eval e X.env := by rfl) :
    PE X (.Attribute e f pos) (tOat X.K f te) := by
  refine ⟨fun pins s σ H Q I h => ?_⟩
  refine attr_of hb (thn (he.run pins s σ H _ I h) fun u s1 hh => ?_)
  obtain ⟨x, H1, I1, rx, a, C, fs, v, Bc, newId, tl, ex, hex, T, hno, hl, q⟩ := hh
  subst ex
  obtain rfl : u = Value.ref a := rx
  obtain ⟨ox, od, J, g⟩ := hex.inst I1
  obtain ⟨o, u, rfl, hu, ru⟩ := g f v hl
  exact PySem.HandSPX.exc_get I1.kIn J T.hg T.hk T.hs (PySem.W.findObj_own T.hd hno rfl hu) (handed_of ru) ⟨v, H1, I1.tok _, ru, q⟩

/-! ### C(.., k = v, ..) as a value -/
def tMkE (C n m : Nat) (sp : Sp) (gV : List V → List V → List V) (t tk : TA) : TE := fun σ H Q => t σ H fun vs H1 => tk σ H1 fun zs H2 =>
  vs.length = n ∧ zs.length = m ∧ vs.length ≤ 1000 ∧ ∀ a, H2 a = none → sp (gV (.ref a :: vs) zs) (upd H2 a (exo a C none)) (fun v H3 => v = .non ∧ Q (.ref a) H3) E0
section
variable {X : Cx} {CX : CXT} {k n : Nat} {f C Bc : Addr} {fd : FuncData} {ps ks : List Str} {sp : Sp} {x : Str} {p pos : Pos} {e : Expr} {es : List Expr} {kws : List Keyword} {t tk : TA}
variable {g : List Value → List Value → List Value} {gV : List V → List V → List V} {Bn newId initId : String} {tl : List Value}
theorem run_mkE {pins : List (Addr × Obj)} {σ : L2.St} {H : Hp} {s : Shared} {Q : VK} {us ws : List Value} {vs zs : List V}
    (T : OxC X.K C Bc newId tl) (B : Bse Bn newId initId tl) (iC : PySem.W.findIn X.K (.ref C) "__init__" = some (some (.ref f)))
    (tI : PySem.W.typeIn X.K (.ref f) = some (.type "function"))
    (F : FnOk X.prog X.w X.K X.mg X.base CX k f fd ps sp) (hr : Room (k + 1) X.A) (hb : KBn X.K fd ps (n + 1) ks g gV) (hx : Passes CX X E0)
    (I : Inv X pins σ H s) (r : Vals vs us) (rz : Vals zs ws) (l1 : vs.length = n) (l2 : zs.length = ks.length) (l3 : vs.length ≤ 1000)
    (h : ∀ a, H a = none → sp (gV (.ref a :: vs) zs) (upd H a (exo a C none)) (fun v H3 => v = .non ∧ Q (.ref a) H3) E0) :
    wpAny (model X.prog X.w) X.A (call (.ref C) us (ks.zip ws)) (EP X pins σ Q) X.xe s := by
  obtain ⟨nm, q, N, bs, sn, sub, ab, col, dd, k0, k1, k2, k3, k5, hC⟩ := T.cls
  obtain ⟨hp, gg, dr, tk0, os⟩ := s
  have hsz : hp.objs.size ≤ hp.objs.size + 1 := Nat.le_succ _
  have hq := h (hp.objs.size + 1) (I.hok.fresh hsz)
  have kk : ∀ b o, hp.get? b = some o → ((hp.push (PySem.W.kdv_tup us)).push (PySem.HandSPX.excO C hp.objs.size)).get? b = some o :=
    fun b o e => Heap.get?_push_of_some _ (Heap.get?_push_of_some _ e)
  have hget : ((hp.push (PySem.W.kdv_tup us)).push (PySem.HandSPX.excO C hp.objs.size)).get? (hp.objs.size + 1) = some (PySem.HandSPX.excO C hp.objs.size) := by heap_get
  have I2 : Inv X pins σ (upd H (hp.objs.size + 1) (exo (hp.objs.size + 1) C none)) ⟨(hp.push (PySem.W.kdv_tup us)).push (PySem.HandSPX.excO C hp.objs.size), gg, dr, tk0, os⟩ :=
    I.laid (t' := tk0) (a := hp.objs.size + 1) (o := exo (hp.objs.size + 1) C none) (h' := (hp.push (PySem.W.kdv_tup us)).push (PySem.HandSPX.excO C hp.objs.size)) kk hsz (exo_ok hget)
  have r1 : Vals (V.ref (hp.objs.size + 1) :: vs) (Value.ref (hp.objs.size + 1) :: us) := .cons rfl r
  have r2 := hb.rel r1 rz
  have n1 : (Value.ref (hp.objs.size + 1) :: us).length = n + 1 := by
    rw [List.length_cons, ← r.length, l1]
  have hus : us.length ≤ sizeLine := by
    rw [← Paired.length r, sizeLine_eq]
    omega
  refine wpAny_call (call_kw B.F (fun Y => has_tl Bc tl Y) (I.kIn _ _ hC) (PySem.W.looks_findIn I.kIn iC) (fun self => PySem.W.bind_fn I.kIn self tI) hus
    (codeAny_mono (F.run _ X.stack _ _ ⟨Value.ref (hp.objs.size + 1) :: us, ks.zip ws⟩ (g (Value.ref (hp.objs.size + 1) :: us) ws) _ _ E0
      (hr.make C us (ks.zip ws)) (I2.env0.make C us (ks.zip ws)) (hb.to _ (Value.ref (hp.objs.size + 1) :: us) ws I2.kIn n1 (rz.length.symm.trans l2)) r2 hq) fun r s' hq' => ?_))
  cases r with
  | error er => exact hx pins σ _ _ er s' I2 hq'
  | ok fl =>
    cases fl with
    | ret u =>
      obtain ⟨v, H', I3, rv, ev, q3⟩ := I2.after hq'
      subst ev
      exact ⟨rv, ⟨V.ref (hp.objs.size + 1), H', I3, rfl, q3⟩⟩
    | next => exact False.elim hq'
    | brk => exact False.elim hq'
    | cont => exact False.elim hq'
/-- C(k = v, ..) and C() -/
theorem pe_mkE0 (T : OxC X.K C Bc newId tl) (B : Bse Bn newId initId tl) (iC : PySem.W.findIn X.K (.ref C) "__init__" = some (some (.ref f)))
    (tI : PySem.W.typeIn X.K (.ref f) = some (.type "function"))
    (F : FnOk X.prog X.w X.K X.mg X.base CX k f fd ps sp) (hr : Room (k + 1) X.A) (hg : Gl X x) (hm : X.mg x = some (.ref C)) (hb : KBn X.K fd ps 1 ks g gV) (hx : Passes CX X E0) (hkw : PK X kws tk)
    (hall : (backToKw pos (keywordEach kws X.env)).all (·.1.isSome) = true := by rfl) (hks : (backToKw pos (keywordEach kws X.env)).filterMap (·.1) = ks := by rfl) (hdb : (x == ("__debug__" : Str)) = false := by decide)
    (hpl : ((backTo pos (starEach [] X.env)).any (·.1) || (backToKw pos (keywordEach kws X.env)).any (·.1.isNone)) = false := by rfl) :
    PE X (.Call (.Name x p) [] kws pos) (tMkE C 0 ks.length sp gV tNil tk) := by
  refine ⟨fun pins s σ H Q I h => ?_⟩
  refine wpAny_Call_Name_kw (ld_glob I hg hm ?_ hdb)
  refine PySem.W.callWith_KW0 (h₀ := X.base) I.ok.mod.kin T.kC hall ?_ hpl
  refine thn (hkw.run pos pins s σ H _ I h) fun ws s2 ⟨zs, H2, I2, rz, l1, l2, l3, q2⟩ => ⟨I2.kIn, ?_⟩
  rw [hks]
  exact run_mkE (us := []) (vs := []) T B iC tI F hr hb hx I2 .nil rz rfl l2 l3 q2
/-- C(e, ..) -/
theorem pe_mkE (T : OxC X.K C Bc newId tl) (B : Bse Bn newId initId tl) (iC : PySem.W.findIn X.K (.ref C) "__init__" = some (some (.ref f)))
    (tI : PySem.W.typeIn X.K (.ref f) = some (.type "function"))
    (F : FnOk X.prog X.w X.K X.mg X.base CX k f fd ps sp) (hr : Room (k + 1) X.A) (hg : Gl X x) (hm : X.mg x = some (.ref C)) (hb : KBn X.K fd ps (n + 1) ks g gV) (hx : Passes CX X E0) (ha : PA X (e :: es) t) (hkw : PK X kws tk)
    (hall : (backToKw pos (keywordEach kws X.env)).all (·.1.isSome) = true := by rfl) (hks : (backToKw pos (keywordEach kws X.env)).filterMap (·.1) = ks := by rfl) (hdb : (x == ("__debug__" : Str)) = false := by decide)
    (he : starEach (e :: es) X.env = (false, eval e X.env) :: starEach es X.env := by rfl)
    (hpl : ((backTo pos (starEach (e :: es) X.env)).any (·.1) || (backToKw pos (keywordEach kws X.env)).any (·.1.isNone)) = false := by rfl) :
    PE X (.Call (.Name x p) (e :: es) kws pos) (tMkE C n ks.length sp gV t tk) := by
  refine ⟨fun pins s σ H Q I h => ?_⟩
  refine wpAny_Call_Name_kw (ld_glob I hg hm ?_ hdb)
  refine PySem.W.callWith_KW (h₀ := X.base) I.ok.mod.kin T.kC hall (thn (ha.run pos pins s σ H _ I h) fun us s1 ⟨vs, H1, I1, r, q⟩ => ?_) hpl he
  refine thn (hkw.run pos pins s1 σ H1 _ I1 q) fun ws s2 ⟨zs, H2, I2, rz, l1, l2, l3, q2⟩ => ⟨I2.kIn, ?_⟩
  rw [hks]
  exact run_mkE T B iC tI F hr hb hx I2 r rz l1 l2 l3 q2
end
end Xk

/-! repr of data; lists whose place is told; defs run where no repr is under way. -/
namespace Xk
open PySem PySem.Spec PyProof.Rows L2
section
variable {X : Cx} {pins : List (Addr × Obj)} {σ : L2.St} {H : Hp} {s : Shared} {es : List Expr} {t : TA} {pos : Pos}
theorem past1 (I : Inv X pins σ H s) : ∀ p, s.heap.objs.size ≤ p → p ≠ sysModules := fun p hp e => by
  have h1 : mainGlobals < X.base.objs.size := I.ok.mod.glob.lt
  have h2 := I.ok.bsz
  have h3 := I.sz
  have e1 : p = (1 : Nat) := e
  have h4 : (3 : Nat) < X.base.objs.size := h1
  omega
/-- [e, ..], its place -/
def tLstN (t : TA) : TE := fun σ H Q => t σ H fun xs H1 => xs.length ≤ sizeLine ∧ ∀ p, H1 p = none → p ≠ sysModules → Q (.ref p) (upd H1 p (.lst xs))
theorem pe_lstN (h : PA X es t) : PE X (.List es pos) (tLstN t) := by
  refine ⟨fun pins s σ H Q I hq => ?_⟩
  refine wpAny_List_spliced (thn (h.run pos pins s σ H _ I hq) fun us s1 hh => ?_)
  obtain ⟨xs, H1, I1, r, z, q⟩ := hh
  refine ⟨by rw [← r.length]; exact z, ?_⟩
  have hf : H1 s1.heap.objs.size = none := I1.hok.fresh (Nat.le_refl _)
  refine ⟨.ref s1.heap.objs.size, upd H1 s1.heap.objs.size (.lst xs),
    I1.laid (t' := s1.toks) (fun b u e => Heap.get?_push_of_some _ e) (Nat.le_refl _) ?_, rfl, q _ hf (past1 I1 _ (Nat.le_refl _))⟩
  exact ⟨z, us, 0, r, Heap.get?_push_size _ rfl⟩
/-- xs * k, its place -/
def rRepN : R2 := fun x y H Q => ∃ l k xs, x = .ref l ∧ y = .int k ∧ H l = some (.lst xs) ∧ -(2 ^ 63) ≤ k ∧ k < 2 ^ 63 ∧ xs.length * k.toNat ≤ sizeLine ∧
  ∀ p, H p = none → p ≠ sysModules → Q (.ref p) (upd H p (.lst (List.replicate k.toNat xs).flatten))
theorem op_repN : OpR X (binaryOp .Mult) rRepN := by
  intro pins s σ H x y v u Q I rx ry h
  obtain ⟨l, k, xs, rfl, rfl, hH, h1, h2, hz, q⟩ := h
  cases rx
  obtain ⟨t, rfl⟩ := ry
  obtain ⟨z, its, n, r, hl, e⟩ := I.lstM hH
  have a1 : its.toArray.size * k.toNat ≤ sizeLine := by
    rw [List.size_toArray, ← hl]
    exact hz
  have a2 : ¬ its.toArray.size * k.toNat > (2 ^ 63 - 1) / 8 := by
    have h8 : (sizeLine : Nat) ≤ (2 ^ 63 - 1) / 8 := by decide
    omega
  have a3 : ¬ (!Builtin.List.listFitsIndex k) = true := by
    rw [fitsIndex_both h1 h2]; exact Bool.false_ne_true
  have a4 : ¬ Builtin.List.listTooLong (its.toArray.size * k.toNat) = true := by
    rw [notLongL a1]; exact Bool.false_ne_true
  have a5 : List.foldl (fun x1 x2 => x1 ++ x2) #[] (List.replicate (if its.toArray.isEmpty = true then 0 else k.toNat) its.toArray) =
      (List.replicate k.toNat its).flatten.toArray := by
    have f0 : ∀ m : Nat, List.foldl (fun x1 x2 => x1 ++ x2) #[] (List.replicate m its.toArray) = (List.replicate m its).flatten.toArray := fun m => by
      have := foldl_rep its m []
      rw [List.nil_append] at this; exact this
    rw [f0]
    cases its with
    | nil => simp
    | cons a r' => rw [if_neg (by simp)]
  refine wpAny_binaryOp_repeat_ref (T := "list") (U := "int") (by decide) ⟨_, e, rfl⟩ (fun s' => typeIs_int s' k t) noFill_list_mul F.fills_int_mul
    F.slot_int_rmul repeat_list F.slot_int_index.lookup
    (call_meets F.slot_int_rmul (typeIs_int s k t) F.entry_int_rmul (F.args_int_rmul_2 _ _) (int___rmul___int_list k t l its.toArray n)
      ⟨e, rfl, ⟨_, e, rfl⟩, call_meets F.slot_list_mul ⟨_, e, rfl⟩ F.entry_list_mul (F.args_list_mul_2 _ _)
        (AutoListH.list___mul___list_int_3 l its.toArray n k t a3 a2 a4) ⟨e, ?_⟩⟩)
  rw [a5]
  exact ⟨.ref _, _, I.lnew (t' := s.toks) (r.rep k.toNat) (by rw [PyProof.Rows.lm_len_rep_flat, Nat.mul_comm]; exact hz), rfl,
    q _ I.fresh (past1 I _ (Nat.le_refl _))⟩
end

/-! ### data -/
mutual
inductive Sh (H : Hp) : V → PyData → Prop
  | non : Sh H .non .none
  | bl (b : Bool) : Sh H (.bl b) (.bool b)
  | int (i : Int) : Sh H (.int i) (.int i)
  | str (x : Str) : Sh H (.str x) (.str x)
  | lst {a : Addr} {xs : List V} {ds : List PyData} : H a = some (.lst xs) → a ≠ sysModules → ShA H xs ds → Sh H (.ref a) (.list ds)
  | tup {a : Addr} {xs : List V} {ds : List PyData} : H a = some (.tup xs) → ShA H xs ds → Sh H (.ref a) (.tuple ds)
  | dct {a : Addr} {kvs : List (Int × Int)} : H a = some (.dK (kvs.map fun p => (Sum.inl p.1, V.int p.2))) →
      Sh H (.ref a) (.dict (kvs.map fun p => (PyData.int p.1, PyData.int p.2)))
inductive ShA (H : Hp) : List V → List PyData → Prop
  | nil : ShA H [] []
  | cons {v : V} {vs : List V} {d : PyData} {ds : List PyData} : Sh H v d → ShA H vs ds → ShA H (v :: vs) (d :: ds)
end
section
variable {H H' : Hp}
mutual
theorem Sh.same (k : Same H H') : ∀ (d : PyData) (v : V), Sh H v d → Sh H' v d
  | .none, _, h => by cases h; exact .non
  | .bool b, _, h => by cases h; exact .bl b
  | .int i, _, h => by cases h; exact .int i
  | .str x, _, h => by cases h; exact .str x
  | .list ds, _, h => by
    cases h with
    | lst e n a => exact .lst (k _ _ e) n (ShA.same k ds _ a)
  | .tuple ds, _, h => by
    cases h with
    | tup e a => exact .tup (k _ _ e) (ShA.same k ds _ a)
  | .dict _, _, h => by
    cases h with
    | dct e => exact .dct (k _ _ e)
theorem ShA.same (k : Same H H') : ∀ (ds : List PyData) (vs : List V), ShA H vs ds → ShA H' vs ds
  | [], _, h => by cases h; exact .nil
  | d :: ds, _, h => by
    cases h with
    | cons a b => exact .cons (Sh.same k d _ a) (ShA.same k ds _ b)
end
end
section
variable {X : Cx} {pins : List (Addr × Obj)} {σ : L2.St} {H : Hp} {s : Shared}
theorem ints_reads {h : Heap} : ∀ (l : List Int) (us : List Value), Vals (l.map V.int) us → ReadsAll h us (l.map PyData.int) []
  | [], _, r => by cases r; exact .nil
  | i :: l, _, r => by
    cases r with
    | cons r1 r2 =>
      obtain ⟨t, rfl⟩ := r1
      exact ReadsAll.cons (Reads.int i t) (ints_reads l _ r2)
theorem kv_reads {P : Program} {w : World} {h : Heap} : ∀ (kvs : List (Int × Int)) (es : List DictEntry) (vs : List (Key × Value)),
    KV (kvs.map fun p => ((Sum.inl p.1 : Key), V.int p.2)) vs → PySem.Pairs (mixKind P w) es vs →
    ReadsAll h (es.map (·.key)) (kvs.map fun p => PyData.int p.1) [] ∧ ReadsAll h (es.map (·.val)) (kvs.map fun p => PyData.int p.2) []
  | [], _, _, r, q => by
    cases r; cases q
    exact ⟨.nil, .nil⟩
  | (i, j) :: l, _, _, r, q => by
    cases r with
    | cons r1 r2 =>
      cases q with
      | cons q1 q2 q3 =>
        obtain ⟨h1, h2⟩ := kv_reads l _ _ r2 q3
        obtain ⟨e1, t, e2⟩ := r1
        rw [← e1] at q1
        obtain ⟨t2, e3⟩ := Value.isInt_shape (show Value.isInt i _ = true from q1)
        refine ⟨?_, ?_⟩
        · rw [List.map_cons, List.map_cons, e3]
          exact ReadsAll.cons (Reads.int i t2) h1
        · rw [List.map_cons, List.map_cons, q2, e2]
          exact ReadsAll.cons (Reads.int j t) h2
mutual
theorem Sh.reads (I : Inv X pins σ H s) : ∀ (d : PyData) (v : V) (u : Value), Sh H v d → RelV v u → ∃ as, Reads s.heap u d as ∧ sysModules ∉ as
  | .none, _, _, h, r => by
    cases h; cases r
    exact ⟨_, Reads.none, nofun⟩
  | .bool b, _, _, h, r => by
    cases h; cases r
    exact ⟨_, Reads.bool b, nofun⟩
  | .int i, _, _, h, r => by
    cases h
    obtain ⟨t, rfl⟩ := r
    exact ⟨_, Reads.int i t, nofun⟩
  | .str x, _, _, h, r => by
    cases h
    obtain ⟨t, rfl⟩ := r
    exact ⟨_, Reads.str x t, nofun⟩
  | .list ds, _, _, h, r => by
    cases h with
    | @lst a xs _ e n ha =>
      cases r
      obtain ⟨_, its, m, rv, ho⟩ := (show ObjOk X.prog X.w H s.heap a (.lst xs) from I.hok a _ e)
      obtain ⟨as, hr, hn⟩ := ShA.reads I ds _ its ha rv
      refine ⟨a :: as, Reads.list ho rfl rfl hr, fun hm => ?_⟩
      rcases List.mem_cons.mp hm with q | q
      · exact n q.symm
      · exact hn q
  | .tuple ds, _, _, h, r => by
    cases h with
    | @tup a xs _ e ha =>
      cases r
      obtain ⟨_, its, rv, o, ho, hc, n, hd⟩ := (show ObjOk X.prog X.w H s.heap a (.tup xs) from I.hok a _ e)
      obtain ⟨as, hr, hn⟩ := ShA.reads I ds _ its ha rv
      exact ⟨as, Reads.tuple ho hc hd hr, hn⟩
  | .dict _, _, _, h, r => by
    cases h with
    | @dct a kvs e =>
      cases r
      obtain ⟨_, hs, vs, rv, o, es, ep, ho, hc, hd, _, hpr, _⟩ := (show ObjOk X.prog X.w H s.heap a (.dK _) from I.hok a _ e)
      obtain ⟨h1, h2⟩ := kv_reads (h := s.heap) kvs _ _ rv hpr
      refine ⟨_, Reads.dict (as := []) (bs := []) ho hc.1 hd ?_ ?_, fun hm => ?_⟩
      · rw [List.map_map]; exact h1
      · rw [List.map_map]; exact h2
      · have q : sysModules = a := by simpa using hm
        rw [← q] at hs
        exact absurd hs (by decide)
theorem ShA.reads (I : Inv X pins σ H s) : ∀ (ds : List PyData) (vs : List V) (us : List Value), ShA H vs ds → Vals vs us → ∃ as, ReadsAll s.heap us ds as ∧ sysModules ∉ as
  | [], _, _, h, r => by
    cases h; cases r
    exact ⟨_, ReadsAll.nil, nofun⟩
  | d :: ds, _, _, h, r => by
    cases h with
    | cons h1 h2 =>
      cases r with
      | cons r1 r2 =>
        obtain ⟨as, q1, n1⟩ := Sh.reads I d _ _ h1 r1
        obtain ⟨bs, q2, n2⟩ := ShA.reads I ds _ _ h2 r2
        exact ⟨_, ReadsAll.cons q1 q2, fun hm => (List.mem_append.mp hm).elim n1 n2⟩
end
/-- repr(v), v an object -/
def rRepr : List V → Hp → VK → Prop := fun xs H Q => ∃ (a : Addr) (d : PyData), xs = [.ref a] ∧ Sh H (.ref a) d ∧ d.showable = true ∧ d.depth ≤ 20 ∧
  d.shown.length ≤ sizeLine ∧ Q (.str d.shown) H
theorem call_repr (hG : X.A.guards = some []) (hu : X.A.units + 21 < cLine) : CallR X (.builtin "repr") rRepr := by
  intro pins s σ H xs us Q I r h
  obtain ⟨a, d, rfl, hd, h1, h2, h3, q⟩ := h
  cases r with
  | cons rx rr =>
    cases rr
    obtain ⟨as, hr, hn⟩ := Sh.reads I d _ _ hd rx
    cases rx
    refine repr_of_reads' hr h1 (fun _ => hn) hG (by omega) (fun _ _ e => e) (fun h' u tk k => ?_) h3
    exact ⟨.str d.shown, H, I.kept k, ⟨u, rfl⟩, q⟩
end

/-! ### defs where no repr is under way -/
/-- the def at f keeps the promise sp wherever no guarded built-in runs -/
structure FnG (P : Program) (w : World) (K : PySem.W.Frag) (mg : Str → Option Value) (base : Heap) (k : Nat) (f : Addr) (fd : FuncData) (ps : List Str) (sp : Sp) : Prop where
  len : ∀ vs H Q E, sp vs H Q E → vs.length = ps.length
  run : ∀ (A : Around) (outer : List Env) (s : Shared) (H : Hp) (args : Args) (us : List Value) (vs : List V) (Q : VK) (E : XK), Room k A → A.guards = some [] →
    Env0 P w K mg base A outer s H → BindsTo s fd args (ps.zip us) → Vals vs us → sp vs H Q E → codeAny (model P w) A (.call (.ref f) args) (CR CX0 outer P w H s Q E) s
theorem fn_g {P : Program} {w : World} {K : PySem.W.Frag} {mg : Str → Option Value} {base : Heap} {k : Nat} {x qual : Str} {st : Stmt} {f : Addr} {fd : FuncData} {N ps : List Str} {sp : Sp}
    (F : Fun K x qual st f fd) (S : FnScope N ps (defScope st)) (len : ∀ vs H Q E, sp vs H Q E → vs.length = ps.length)
    (hbody : ∀ (cdv : Value) (A : Around) (outer : List Env) (s : Shared) (H : Hp) (vs : List V) (Q : VK) (E : XK),
      Room k (A.deeper (envOfC qual (defScope st) s.heap.objs.size f cdv)) → A.guards = some [] → sp vs H Q E →
      ∃ t, PSs (cxOf CX0 P w K mg base N qual (defScope st) f cdv A outer s H E).nox (defBody st) t ∧ t { nx := fun _ H' => Q .non H', rt := Q } (start N vs) H) :
    FnG P w K mg base (k + 1) f fd ps sp := by
  obtain ⟨oc, od, kV, doc, pm, an, cdv, ct, osl, rfl, lk, hcd⟩ := F.ex
  refine ⟨len, fun A outer s H args us vs Q E hr hG e0 hb r hsp => ?_⟩
  have hl := len _ _ _ _ hsp
  have KX : K.In s.heap := e0.mod.kin.keeps fun b o e => (e0.bs b o e).1
  have lim : s.heap.NoLimit := e0.mod.nolimit.keeps fun b o e => (e0.bs b o e).1
  have hkind : ∀ y ∈ ps.zip us, (defScope st).names.lookup y.1 = some .local ∨
      ((defScope st).names.lookup y.1 = some .cell ∧ ((cellsFrom (s.heap.objs.size + 1) (defScope st).names []).lookup y.1).isSome = true) := fun ⟨n, v⟩ hy => by
    rcases S.par n (List.of_mem_zip hy).1 with q | q
    · exact .inl q
    · exact .inr ⟨q, PySem.W.cellsFrom_some _ _ _ (.inl q)⟩
  refine codeAny_call_function hr.depth (KX _ _ lk) rfl S.co S.gen rfl (PySem.W.codeRec_of KX hcd) (hb _ _ _ _ ?_)
  refine wpAny_newFunctionEnv_cells S.kind hkind fun env he s1 x => ?_
  subst he
  refine ⟨lim.keeps x.toInCall.keep, codeAny_func ?_⟩
  obtain ⟨t, ht, hq⟩ := hbody cdv A outer s H vs Q E (hr.deeper _) hG hsp
  have I : Inv (cxOf CX0 P w K mg base N qual (defScope st) f cdv A outer s H E) [] (start N vs) H s1 := inv_start S hr.hd e0 hl r x
  refine wpAny_mono (ht.nox.run [] s1 (start N vs) H _ I hq) (fun fl s' hs => ?_) fun e s' hs => hs
  have fin : ∀ {σ' : L2.St} {H' : Hp} {v : V} {u : Value}, Inv (cxOf CX0 P w K mg base N qual (defScope st) f cdv A outer s H E) [] σ' H' s' → RelV v u → Q v H' → CE outer P w H s Q u s' :=
    fun {σ' H' v u} J rv q => ⟨v, H', J.os, J.bare, J.base, J.hok, rv, q⟩
  cases fl with
  | ret u =>
    obtain ⟨v, σ', H', J, rv, q⟩ := hs
    exact fin J rv q
  | next =>
    obtain ⟨σ', H', J, q⟩ := hs
    exact fin (v := V.non) (u := Value.none) J rfl q
  | brk =>
    obtain ⟨_, _, _, q⟩ := hs
    exact False.elim q
  | cont =>
    obtain ⟨_, _, _, q⟩ := hs
    exact False.elim q
section
variable {X : Cx} {k : Nat} {f : Addr} {fd : FuncData} {ps : List Str} {sp : Sp} {x : Str} {p pos : Pos} {e : Expr} {es : List Expr} {t : TA}
theorem pe_callg (F : FnG X.prog X.w X.K X.mg X.base k f fd ps sp) (hr : Room k X.A) (hG : X.A.guards = some []) (hg : Gl X x) (hm : X.mg x = some (.ref f)) (hk : PySem.W.keepIn X.K (.ref f) = true)
    (hb : Binds X.K fd ps []) (ha : PA X (e :: es) t) (hdb : (x == ("__debug__" : Str)) = false := by decide)
    (he : starEach (e :: es) X.env = (false, eval e X.env) :: starEach es X.env := by rfl) (hpl : (backTo pos (starEach es X.env)).any (·.1) = false := by rfl) :
    PE X (.Call (.Name x p) (e :: es) [] pos) (tCall sp [] E0 t) := by
  refine ⟨fun pins s σ H Q I h => ?_⟩
  refine wpAny_Call_Name_kw (ld_glob I hg hm ?_ hdb)
  refine PySem.W.callWith_K (h₀ := X.base) I.ok.mod.kin hk (thn (ha.run pos pins s σ H _ I h) fun us s1 ⟨vs, H1, I1, r, q⟩ => ⟨I1.kIn, ?_⟩) he hpl
  have q0 : sp (vs ++ []) H1 Q E0 := q
  rw [List.append_nil] at q0
  have hl : us.length = ps.length := by
    rw [← r.length]; exact F.len _ _ _ _ q0
  refine wpAny_call (codeAny_mono (F.run X.A X.stack s1 H1 ⟨us, []⟩ us vs Q E0 hr hG I1.env0 ?_ r q0) fun r s' hq => ?_)
  · have z := hb s1 us I1.kIn (by rw [List.append_nil]; exact hl)
    rw [List.append_nil] at z
    exact z
  · cases r with
    | error e => exact hq.elim
    | ok fl =>
      cases fl with
      | ret u => exact I1.after hq
      | next => exact False.elim hq
      | brk => exact False.elim hq
      | cont => exact False.elim hq
end
end Xk

namespace Xk
open PySem L2
def top (i : Nat) : Stmt := PySem.Challenge.pw_likepanes_k01_limits_and_errors.main.body.getD i (.Pass ⟨0, 0, 0, 0⟩)
abbrev ini (i : Nat) : Stmt := inClass (top i) 0

/-! ### what each __init__ promises -/
def sp1 (K : PySem.W.Frag) (Bc : Addr) (newId : String) (tl : List Value) (f : Str) : Sp := fun vs H Q _ => ∃ (H0 : Hp) (a C : Addr) (v : V),
  vs = [.ref a, v] ∧ OxC K C Bc newId tl ∧ PySem.W.findIn K (.ref C) f = some none ∧ Same H0 H ∧ H0 a = none ∧ H a = some (exo a C none) ∧
  ∀ H', Same H0 H' → ExAt H' a C [(f, v)] → Q .non H'
def sp0 (K : PySem.W.Frag) (Bc : Addr) (newId : String) (tl : List Value) : Sp := fun vs H Q _ => ∃ (H0 : Hp) (a C : Addr),
  vs = [.ref a] ∧ OxC K C Bc newId tl ∧ Same H0 H ∧ H0 a = none ∧ H a = some (exo a C none) ∧
  ∀ H', Same H0 H' → ExAt H' a C [] → Q .non H'
def sp2 (K : PySem.W.Frag) (Bc : Addr) (newId : String) (tl : List Value) (f g : Str) : Sp := fun vs H Q _ => ∃ (H0 : Hp) (a C : Addr) (v u : V),
  vs = [.ref a, v, u] ∧ OxC K C Bc newId tl ∧ PySem.W.findIn K (.ref C) f = some none ∧ PySem.W.findIn K (.ref C) g = some none ∧
  Same H0 H ∧ H0 a = none ∧ H a = some (exo a C none) ∧
  ∀ H', Same H0 H' → ExAt H' a C [(g, u), (f, v)] → Q .non H'

theorem keep1 {H0 H : Hp} {a dx : Addr} {o1 o2 : HO} (s0 : Same H0 H) (a0 : H0 a = none) (hd : H dx = none) : Same H0 (upd (upd H dx o1) a o2) := fun b o e => by
  have n1 : b ≠ a := fun q => by
    rw [q, a0] at e
    cases e
  rw [upd_ne n1, upd_ne (ne_of_none (s0 _ _ e) hd)]
  exact s0 _ _ e
theorem keep2 {H0 H : Hp} {a dx : Addr} {o1 o2 o3 : HO} (s0 : Same H0 H) (a0 : H0 a = none) (hd : H dx = none) : Same H0 (upd (upd (upd H dx o1) a o2) dx o3) := fun b o e => by
  have n1 : b ≠ a := fun q => by
    rw [q, a0] at e
    cases e
  have n2 := ne_of_none (s0 _ _ e) hd
  rw [upd_ne n2, upd_ne n1, upd_ne n2]
  exact s0 _ _ e

section
variable {P : Program} {w : World} {K : PySem.W.Frag} {mg : Str → Option Value} {base : Heap} {f Bc : Addr} {fd : FuncData}
theorem sc2 : FnScope ["self", "given"] ["self", "given"] (defScope (ini 2)) := ⟨rfl, rfl, rfl, by decide +kernel, rfl, by decide +kernel, by decide +kernel⟩
theorem ok2 (F : Fun K "__init__" "InvalidText.__init__" (ini 2) f fd) (R : BoC K Bc "ValueError.__init__") (mB : mg "BadValue" = some (.ref Bc)) :
    FnOk P w K mg base CX0 1 f fd ["self", "given"] (sp1 K Bc "ValueError.__new__" tlV "given") := by
  refine F.ok sc2 (fun vs H Q E h => ?_) (fun cdv A outer s H vs Q E hr h => ?_)
  · obtain ⟨H0, a, C, v, rfl, _⟩ := h
    rfl
  · obtain ⟨H0, a, C, v, rfl, T, hno, s0, a0, ha, k⟩ := h
    refine ⟨_, pss_cons (ps_expr (pe_bin R bseV rfl mB (pa_cons (pv 0) (pa_cons pe_str pa_nil)) rfl)) (pss_one (ps_ox (Bc := Bc) bseV (pv 0) (pv 1))), ?_⟩
    refine ⟨_, rfl, a, C, [.str _], rfl, by decide, T, ha, _, rfl, _, rfl, a, C, rfl, T, hno, .inl ⟨ha, fun dx hdx ne => ?_⟩⟩
    exact k _ (keep1 s0 a0 hdx) (.inr ⟨dx, upd_same, by rw [upd_ne ne, upd_same]⟩)
theorem sc19 : FnScope ["self"] ["self"] (defScope (ini 19)) := ⟨rfl, rfl, rfl, by decide +kernel, rfl, by decide +kernel, by decide +kernel⟩
theorem ok19 (F : Fun K "__init__" "NoRoot.__init__" (ini 19) f fd) (R : BoC K Bc "ArithmeticError.__init__") (mB : mg "NoAnswer" = some (.ref Bc)) :
    FnOk P w K mg base CX0 1 f fd ["self"] (sp0 K Bc "ArithmeticError.__new__" tlA) := by
  refine F.ok sc19 (fun vs H Q E h => ?_) (fun cdv A outer s H vs Q E hr h => ?_)
  · obtain ⟨H0, a, C, rfl, _⟩ := h
    rfl
  · obtain ⟨H0, a, C, rfl, T, s0, a0, ha, k⟩ := h
    refine ⟨_, pss_one (ps_expr (pe_bin R bseA rfl mB (pa_cons (pv 0) (pa_cons pe_str pa_nil)) rfl)), ?_⟩
    refine ⟨_, rfl, a, C, [.str _], rfl, by decide, T, ha, ?_⟩
    exact k _ s0 (.inl ⟨rfl, ha⟩)
theorem sc27 : FnScope ["self", "index", "shown"] ["self", "index", "shown"] (defScope (ini 27)) := ⟨rfl, rfl, rfl, by decide +kernel, rfl, by decide +kernel, by decide +kernel⟩
theorem ok27 (F : Fun K "__init__" "Broken.__init__" (ini 27) f fd) (R : BoC K Bc "ArithmeticError.__init__") (mB : mg "NoAnswer" = some (.ref Bc)) :
    FnOk P w K mg base CX0 1 f fd ["self", "index", "shown"] (sp2 K Bc "ArithmeticError.__new__" tlA "index" "shown") := by
  refine F.ok sc27 (fun vs H Q E h => ?_) (fun cdv A outer s H vs Q E hr h => ?_)
  · obtain ⟨H0, a, C, v, u, rfl, _⟩ := h
    rfl
  · obtain ⟨H0, a, C, v, u, rfl, T, hno, hno2, s0, a0, ha, k⟩ := h
    refine ⟨_, pss_cons (ps_expr (pe_bin R bseA rfl mB (pa_cons (pv 0) (pa_cons pe_str pa_nil)) rfl)) (pss_cons (ps_ox (Bc := Bc) bseA (pv 0) (pv 1)) (pss_one (ps_ox (Bc := Bc) bseA (pv 0) (pv 2)))), ?_⟩
    refine ⟨_, rfl, a, C, [.str _], rfl, by decide, T, ha, _, rfl, _, rfl, a, C, rfl, T, hno, .inl ⟨ha, fun dx hdx ne => ?_⟩⟩
    refine ⟨_, rfl, _, rfl, a, C, rfl, T, hno2, .inr ⟨dx, [("index", v)], upd_same, by rw [upd_ne ne, upd_same], (by show 1 ≤ 900; decide), ?_⟩⟩
    exact k _ (keep2 s0 a0 hdx) (.inr ⟨dx, by rw [upd_ne (Ne.symm ne), upd_same], upd_same⟩)
end
end Xk

/-! Makers of errors in short; lists of like things. -/
namespace Xk
open PySem PySem.Spec PyProof.Rows L2
theorem pe_imp {X : Cx} {e : Expr} {t t' : TE} (h : PE X e t) (k : ∀ σ H Q, t' σ H Q → t σ H Q) : PE X e t' :=
  ⟨fun pins s σ H Q I q => h.run pins s σ H Q I (k σ H Q q)⟩
theorem pa_imp {X : Cx} {es : List Expr} {t t' : TA} (h : PA X es t) (k : ∀ σ H Q, t' σ H Q → t σ H Q) : PA X es t' :=
  ⟨fun pos pins s σ H Q I q => h.run pos pins s σ H Q I (k σ H Q q)⟩

/-! ### makers -/
/-- x makes errors with the one attribute f: the class at C -/
structure M1 (P : Program) (w : World) (K : PySem.W.Frag) (mg : Str → Option Value) (base : Heap) (x f : Str) (C Bc : Addr) (newId : String) (tl : List Value) : Prop where
  ox : OxC K C Bc newId tl
  no : PySem.W.findIn K (.ref C) f = some none
  at_ : mg x = some (.ref C)
  how : ∃ (Bn initId : String) (fI : Addr) (fd : FuncData), Bse Bn newId initId tl ∧
    PySem.W.findIn K (.ref C) "__init__" = some (some (.ref fI)) ∧ PySem.W.typeIn K (.ref fI) = some (.type "function") ∧
    FnOk P w K mg base CX0 1 fI fd ["self", f] (sp1 K Bc newId tl f) ∧
    KBn K fd ["self", f] 2 [] (fun us _ => us) (fun vs _ => vs) ∧ KBn K fd ["self", f] 1 [f] (fun us ws => us ++ ws) (fun vs zs => vs ++ zs)
structure M0 (P : Program) (w : World) (K : PySem.W.Frag) (mg : Str → Option Value) (base : Heap) (x : Str) (C Bc : Addr) (newId : String) (tl : List Value) : Prop where
  ox : OxC K C Bc newId tl
  at_ : mg x = some (.ref C)
  how : ∃ (Bn initId : String) (fI : Addr) (fd : FuncData), Bse Bn newId initId tl ∧
    PySem.W.findIn K (.ref C) "__init__" = some (some (.ref fI)) ∧ PySem.W.typeIn K (.ref fI) = some (.type "function") ∧
    FnOk P w K mg base CX0 1 fI fd ["self"] (sp0 K Bc newId tl) ∧ KBn K fd ["self"] 1 [] (fun us _ => us) (fun vs _ => vs)
structure M2 (P : Program) (w : World) (K : PySem.W.Frag) (mg : Str → Option Value) (base : Heap) (x f g : Str) (C Bc : Addr) (newId : String) (tl : List Value) : Prop where
  ox : OxC K C Bc newId tl
  no : PySem.W.findIn K (.ref C) f = some none
  no2 : PySem.W.findIn K (.ref C) g = some none
  at_ : mg x = some (.ref C)
  how : ∃ (Bn initId : String) (fI : Addr) (fd : FuncData), Bse Bn newId initId tl ∧
    PySem.W.findIn K (.ref C) "__init__" = some (some (.ref fI)) ∧ PySem.W.typeIn K (.ref fI) = some (.type "function") ∧
    FnOk P w K mg base CX0 1 fI fd ["self", f, g] (sp2 K Bc newId tl f g) ∧
    KBn K fd ["self", f, g] 3 [] (fun us _ => us) (fun vs _ => vs) ∧ KBn K fd ["self", f, g] 1 [g, f] (fun us ws => us ++ ws.reverse) (fun vs zs => vs ++ zs.reverse)

def tMk1 (C : Addr) (f : Str) (te : TE) : TE := fun σ H Q => te σ H fun v H1 => ∀ a H', Same H1 H' → ExAt H' a C [(f, v)] → Q (.ref a) H'
def tMk0 (C : Addr) : TE := fun σ H Q => ∀ a H', Same H H' → ExAt H' a C [] → Q (.ref a) H'
def tMk2 (C : Addr) (f g : Str) (te tf : TE) : TE := fun σ H Q => te σ H fun v H1 => tf σ H1 fun u H2 => ∀ a H', Same H2 H' → ExAt H' a C [(g, u), (f, v)] → Q (.ref a) H'
theorem same_new {H : Hp} {a : Addr} {o : HO} (h : H a = none) : Same H (upd H a o) := fun b u e => by
  rw [upd_ne (ne_of_none e h)]
  exact e
/-- the reading with a weaker end -/
def tMn (t : TE) : TE := fun σ H Q => ∃ Q0 : VK, t σ H Q0 ∧ ∀ x H1, Q0 x H1 → Q x H1
theorem pe_mn {X : Cx} {e : Expr} {t : TE} (h : PE X e t) : PE X e (tMn t) := by
  refine ⟨fun pins s σ H Q I q => ?_⟩
  obtain ⟨Q0, q0, k⟩ := q
  exact thn (h.run pins s σ H Q0 I q0) fun u s1 ⟨v, H1, I1, r, z⟩ => ⟨v, H1, I1, r, k v H1 z⟩
section
variable {X : Cx} {x f g : Str} {C Bc : Addr} {newId : String} {tl : List Value} {p pos kp kp2 : Pos} {e e2 : Expr} {te te2 : TE}
theorem pe_m1 (M : M1 X.prog X.w X.K X.mg X.base x f C Bc newId tl) (hr : Room 2 X.A) (hg : Gl X x) (he : PE X e te)
    (hall : (backToKw pos (keywordEach [] X.env)).all (·.1.isSome) = true := by rfl) (hks : (backToKw pos (keywordEach [] X.env)).filterMap (·.1) = [] := by rfl) (hdb : (x == ("__debug__" : Str)) = false := by decide)
    (hst : starEach (e :: []) X.env = (false, eval e X.env) :: starEach [] X.env := by rfl)
    (hpl : ((backTo pos (starEach (e :: []) X.env)).any (·.1) || (backToKw pos (keywordEach [] X.env)).any (·.1.isNone)) = false := by rfl) :
    PE X (.Call (.Name x p) [e] [] pos) (tMk1 C f te) := by
  obtain ⟨Bn, initId, fI, fd, B, iC, tI, F, b1, b2⟩ := M.how
  refine pe_imp (pe_mkE (n := 1) (ks := []) M.ox B iC tI F hr hg M.at_ b1 pass0 (pa_cons (pe_mn he) pa_nil hst) pk_nil hall hks hdb hst hpl) fun σ H Q q => ?_
  refine ⟨_, q, fun v H1 k => ⟨rfl, rfl, by show 1 ≤ 1000; decide, fun a ha => ?_⟩⟩
  exact ⟨H1, a, C, v, rfl, M.ox, M.no, same_new ha, ha, upd_same, fun H' s' e' => ⟨rfl, k a H' s' e'⟩⟩
theorem pe_m1k (M : M1 X.prog X.w X.K X.mg X.base x f C Bc newId tl) (hr : Room 2 X.A) (hg : Gl X x) (he : PE X e te)
    (hall : (backToKw pos (keywordEach [⟨some f, e, kp⟩] X.env)).all (·.1.isSome) = true := by rfl) (hks : (backToKw pos (keywordEach [⟨some f, e, kp⟩] X.env)).filterMap (·.1) = [f] := by rfl) (hdb : (x == ("__debug__" : Str)) = false := by decide)
    (hpl : ((backTo pos (starEach [] X.env)).any (·.1) || (backToKw pos (keywordEach [⟨some f, e, kp⟩] X.env)).any (·.1.isNone)) = false := by rfl) :
    PE X (.Call (.Name x p) [] [⟨some f, e, kp⟩] pos) (tMk1 C f te) := by
  obtain ⟨Bn, initId, fI, fd, B, iC, tI, F, b1, b2⟩ := M.how
  refine pe_imp (pe_mkE0 (ks := [f]) M.ox B iC tI F hr hg M.at_ b2 pass0 (pk_cons (pe_mn he) pk_nil) hall hks hdb hpl) fun σ H Q q => ?_
  refine ⟨_, q, fun v H1 k => ⟨rfl, rfl, by show 0 ≤ 1000; decide, fun a ha => ?_⟩⟩
  exact ⟨H1, a, C, v, rfl, M.ox, M.no, same_new ha, ha, upd_same, fun H' s' e' => ⟨rfl, k a H' s' e'⟩⟩
theorem pe_m0 (M : M0 X.prog X.w X.K X.mg X.base x C Bc newId tl) (hr : Room 2 X.A) (hg : Gl X x)
    (hall : (backToKw pos (keywordEach [] X.env)).all (·.1.isSome) = true := by rfl) (hks : (backToKw pos (keywordEach [] X.env)).filterMap (·.1) = [] := by rfl) (hdb : (x == ("__debug__" : Str)) = false := by decide)
    (hpl : ((backTo pos (starEach [] X.env)).any (·.1) || (backToKw pos (keywordEach [] X.env)).any (·.1.isNone)) = false := by rfl) :
    PE X (.Call (.Name x p) [] [] pos) (tMk0 C) := by
  obtain ⟨Bn, initId, fI, fd, B, iC, tI, F, b1⟩ := M.how
  refine pe_imp (pe_mkE0 (ks := []) M.ox B iC tI F hr hg M.at_ b1 pass0 pk_nil hall hks hdb hpl) fun σ H Q q => ?_
  refine ⟨rfl, rfl, by show 0 ≤ 1000; decide, fun a ha => ?_⟩
  exact ⟨H, a, C, rfl, M.ox, same_new ha, ha, upd_same, fun H' s' e' => ⟨rfl, q a H' s' e'⟩⟩
theorem pe_m2 (M : M2 X.prog X.w X.K X.mg X.base x f g C Bc newId tl) (hr : Room 2 X.A) (hg : Gl X x) (he : PE X e te) (he2 : PE X e2 te2)
    (hall : (backToKw pos (keywordEach [] X.env)).all (·.1.isSome) = true := by rfl) (hks : (backToKw pos (keywordEach [] X.env)).filterMap (·.1) = [] := by rfl) (hdb : (x == ("__debug__" : Str)) = false := by decide)
    (hst : starEach (e :: [e2]) X.env = (false, eval e X.env) :: starEach [e2] X.env := by rfl)
    (hst2 : starEach (e2 :: []) X.env = (false, eval e2 X.env) :: starEach [] X.env := by rfl)
    (hpl : ((backTo pos (starEach (e :: [e2]) X.env)).any (·.1) || (backToKw pos (keywordEach [] X.env)).any (·.1.isNone)) = false := by rfl) :
    PE X (.Call (.Name x p) [e, e2] [] pos) (tMk2 C f g (tMn te) (tMn te2)) := by
  obtain ⟨Bn, initId, fI, fd, B, iC, tI, F, b1, b2⟩ := M.how
  refine pe_imp (pe_mkE (n := 2) (ks := []) M.ox B iC tI F hr hg M.at_ b1 pass0 (pa_cons (pe_mn he) (pa_cons (pe_mn he2) pa_nil hst2) hst) pk_nil hall hks hdb hst hpl) fun σ H Q q => ?_
  obtain ⟨Q0, q0, k0⟩ := q
  refine ⟨_, q0, fun v H1 z => ?_⟩
  obtain ⟨Q1, q1, k1⟩ := k0 v H1 z
  refine ⟨_, q1, fun u H2 z2 => ?_⟩
  have k := k1 u H2 z2
  refine ⟨rfl, rfl, by show 2 ≤ 1000; decide, fun a ha => ?_⟩
  exact ⟨H2, a, C, v, u, rfl, M.ox, M.no, M.no2, same_new ha, ha, upd_same, fun H' s' e' => ⟨rfl, k a H' s' e'⟩⟩
/-- C(g = e2, f = e) -/
theorem pe_m2k (M : M2 X.prog X.w X.K X.mg X.base x f g C Bc newId tl) (hr : Room 2 X.A) (hg : Gl X x) (he : PE X e te) (he2 : PE X e2 te2)
    (hall : (backToKw pos (keywordEach [⟨some g, e2, kp⟩, ⟨some f, e, kp2⟩] X.env)).all (·.1.isSome) = true := by rfl)
    (hks : (backToKw pos (keywordEach [⟨some g, e2, kp⟩, ⟨some f, e, kp2⟩] X.env)).filterMap (·.1) = [g, f] := by rfl) (hdb : (x == ("__debug__" : Str)) = false := by decide)
    (hpl : ((backTo pos (starEach [] X.env)).any (·.1) || (backToKw pos (keywordEach [⟨some g, e2, kp⟩, ⟨some f, e, kp2⟩] X.env)).any (·.1.isNone)) = false := by rfl) :
    PE X (.Call (.Name x p) [] [⟨some g, e2, kp⟩, ⟨some f, e, kp2⟩] pos) (fun σ H Q => tMn te2 σ H fun u H1 => tMn te σ H1 fun v H2 =>
      ∀ a H', Same H2 H' → ExAt H' a C [(g, u), (f, v)] → Q (.ref a) H') := by
  obtain ⟨Bn, initId, fI, fd, B, iC, tI, F, b1, b2⟩ := M.how
  refine pe_imp (pe_mkE0 (ks := [g, f]) M.ox B iC tI F hr hg M.at_ b2 pass0 (pk_cons (pe_mn he2) (pk_cons (pe_mn he) pk_nil)) hall hks hdb hpl) fun σ H Q q => ?_
  obtain ⟨Q0, q0, k0⟩ := q
  refine ⟨_, q0, fun u H1 z => ?_⟩
  obtain ⟨Q1, q1, k1⟩ := k0 u H1 z
  refine ⟨_, q1, fun v H2 z2 => ?_⟩
  have k := k1 v H2 z2
  refine ⟨rfl, rfl, by show 0 ≤ 1000; decide, fun a ha => ?_⟩
  exact ⟨H2, a, C, v, u, rfl, M.ox, M.no, M.no2, same_new ha, ha, upd_same, fun H' s' e' => ⟨rfl, k a H' s' e'⟩⟩
end

/-! ### lists of like things: each expression makes an element for its mark, all that stood stays -/
section
variable {α : Type}
/-- El stays where all that was tracked stays -/
def Stay (El : Hp → V → α → Prop) : Prop := ∀ H H' x m, Same H H' → El H x m → El H' x m
def StayC (Cn : L2.St → Hp → Prop) : Prop := ∀ σ H H', Same H H' → Cn σ H → Cn σ H'
inductive AllE (El : Hp → V → α → Prop) (H : Hp) : List V → List α → Prop
  | nil : AllE El H [] []
  | cons {x : V} {xs : List V} {m : α} {ms : List α} : El H x m → AllE El H xs ms → AllE El H (x :: xs) (m :: ms)
theorem AllE.len {El : Hp → V → α → Prop} {H : Hp} {xs : List V} {ms : List α} (h : AllE El H xs ms) : xs.length = ms.length := by
  induction h with
  | nil => rfl
  | cons _ _ ih => rw [List.length_cons, List.length_cons, ih]
theorem AllE.same {El : Hp → V → α → Prop} (S : Stay El) {H H' : Hp} (k : Same H H') {xs : List V} {ms : List α} (h : AllE El H xs ms) : AllE El H' xs ms := by
  induction h with
  | nil => exact .nil
  | cons a _ ih => exact .cons (S _ _ _ _ k a) ih
theorem AllE.app {El : Hp → V → α → Prop} {H : Hp} {xs : List V} {ms : List α} (h : AllE El H xs ms) {ys : List V} {ns : List α} (h2 : AllE El H ys ns) : AllE El H (xs ++ ys) (ms ++ ns) := by
  induction h with
  | nil => exact h2
  | cons a _ ih => exact .cons a ih
theorem AllE.get {El : Hp → V → α → Prop} {H : Hp} {xs : List V} {ms : List α} (h : AllE El H xs ms) : ∀ {i : Nat} {x : V}, xs[i]? = some x → ∃ m, ms[i]? = some m ∧ El H x m := by
  induction h with
  | nil => intro i x e; simp at e
  | cons a _ ih =>
    intro i x e
    cases i with
    | zero => simp at e; subst e; exact ⟨_, rfl, a⟩
    | succ i => simp at e; obtain ⟨m, e1, e2⟩ := ih e; exact ⟨m, by simpa using e1, e2⟩
/-- a list of such things -/
def LstE (El : Hp → V → α → Prop) (H : Hp) (p : Addr) (ms : List α) : Prop := ∃ xs, H p = some (.lst xs) ∧ AllE El H xs ms
def tEl (Cn : L2.St → Hp → Prop) (El : Hp → V → α → Prop) (m : α) : TE := fun σ H Q => Cn σ H ∧ ∀ x H', Same H H' → El H' x m → Q x H'
def tEls (Cn : L2.St → Hp → Prop) (El : Hp → V → α → Prop) (ms : List α) : TA := fun σ H Q => Cn σ H ∧ ∀ xs H', Same H H' → AllE El H' xs ms → Q xs H'
def tLstE (Cn : L2.St → Hp → Prop) (El : Hp → V → α → Prop) (ms : List α) : TE := fun σ H Q => Cn σ H ∧ ∀ p H', Same H H' → LstE El H' p ms → Q (.ref p) H'
variable {X : Cx} {Cn : L2.St → Hp → Prop} {El : Hp → V → α → Prop} {e : Expr} {es : List Expr} {m : α} {ms ns : List α} {pos : Pos}
theorem pa_enil : PA X [] (tEls Cn El []) := pa_imp pa_nil fun σ H Q q => q.2 [] H (Same.refl H) .nil
theorem pa_econs (hC : StayC Cn) (S : Stay El) (he : PE X e (tEl Cn El m)) (hs : PA X es (tEls Cn El ms)) (hst : starEach (e :: es) X.env = (false, eval e X.env) :: starEach es X.env := by rfl) :
    PA X (e :: es) (tEls Cn El (m :: ms)) :=
  pa_imp (pa_cons he hs hst) fun σ H Q q => ⟨q.1, fun x H1 k1 e1 => ⟨hC σ H H1 k1 q.1, fun xs H2 k2 a2 => q.2 (x :: xs) H2 (k1.trans k2) (.cons (S _ _ _ _ k2 e1) a2)⟩⟩
theorem pe_elst (S : Stay El) (hs : PA X es (tEls Cn El ms)) (hl : ms.length ≤ sizeLine) : PE X (.List es pos) (tLstE Cn El ms) :=
  pe_imp (pe_lst hs) fun σ H Q q => ⟨q.1, fun xs H1 k1 a1 => ⟨by rw [a1.len]; exact hl, fun p hp => q.2 p _ (k1.trans (same_new hp)) ⟨xs, upd_same, a1.same S (same_new hp)⟩⟩⟩
/-- found + [..] -/
theorem pe_ecat (hC : StayC Cn) (S : Stay El) {i : Nat} {x : Str} {px : Pos} (hx : PE X (.Name x px) (tVar i)) (hs : PE X e (tLstE Cn El ns)) (hl : ms.length + ns.length ≤ sizeLine) :
    PE X (.BinOp (.Name x px) .Add e pos) (fun σ H Q => (∃ l, σ[i]? = some (some (.ref l)) ∧ LstE El H l ms) ∧ Cn σ H ∧ ∀ p H', Same H H' → LstE El H' p (ms ++ ns) → Q (.ref p) H') := by
  refine pe_imp (pe_op op_cat hx hs) fun σ H Q q => ?_
  obtain ⟨⟨l, el, xs, hl1, a1⟩, hc, k⟩ := q
  refine ⟨_, el, hc, fun b H1 k1 ⟨ys, hb, a2⟩ => ?_⟩
  refine ⟨l, b, xs, ys, rfl, rfl, k1 _ _ hl1, hb, by rw [a1.len, a2.len]; exact hl, fun p hp => ?_⟩
  exact k p _ (k1.trans (same_new hp)) ⟨xs ++ ys, upd_same, ((a1.same S k1).app a2).same S (same_new hp)⟩
end
end Xk

/-! What the text's defs lean on; errors made by place and by name. -/
namespace Xk
open PySem PySem.Spec PyProof.Rows L2
/-- the text's classes at c, its names -/
structure Tx (P : Program) (w : World) (K : PySem.W.Frag) (mg : Str → Option Value) (base : Heap) (c : Nat → Addr) : Prop where
  m2 : M1 P w K mg base "InvalidText" "given" (c 2) (c 1) "ValueError.__new__" tlV
  m3 : M1 P w K mg base "InvalidFraction" "given" (c 3) (c 1) "ValueError.__new__" tlV
  m4 : M1 P w K mg base "InvalidNumber" "given" (c 4) (c 1) "ValueError.__new__" tlV
  m5 : M1 P w K mg base "InvalidScale" "given" (c 5) (c 1) "ValueError.__new__" tlV
  m6 : M1 P w K mg base "InvalidTree" "given" (c 6) (c 1) "ValueError.__new__" tlV
  m7 : M1 P w K mg base "InvalidCount" "given" (c 7) (c 1) "ValueError.__new__" tlV
  m8 : M1 P w K mg base "InvalidWay" "given" (c 8) (c 1) "ValueError.__new__" tlV
  m9 : M1 P w K mg base "InvalidName" "given" (c 9) (c 1) "ValueError.__new__" tlV
  m10 : M1 P w K mg base "InvalidIndex" "given" (c 10) (c 1) "ValueError.__new__" tlV
  m11 : M1 P w K mg base "InvalidClaim" "given" (c 11) (c 1) "ValueError.__new__" tlV
  m12 : M1 P w K mg base "NotAShape" "given" (c 12) (c 1) "ValueError.__new__" tlV
  m13 : M1 P w K mg base "InvalidEquation" "index" (c 13) (c 1) "ValueError.__new__" tlV
  m14 : M1 P w K mg base "InvalidCutting" "index" (c 14) (c 1) "ValueError.__new__" tlV
  m16 : M1 P w K mg base "UnknownName" "given" (c 16) (c 15) "LookupError.__new__" tlL
  m17 : M1 P w K mg base "InUse" "index" (c 17) (c 15) "LookupError.__new__" tlL
  m19 : M0 P w K mg base "NoRoot" (c 19) (c 18) "ArithmeticError.__new__" tlA
  m20 : M0 P w K mg base "NoQuotient" (c 20) (c 18) "ArithmeticError.__new__" tlA
  m21 : M0 P w K mg base "NotPositive" (c 21) (c 18) "ArithmeticError.__new__" tlA
  m22 : M0 P w K mg base "NotFilled" (c 22) (c 18) "ArithmeticError.__new__" tlA
  m23 : M1 P w K mg base "TooMany" "limit" (c 23) (c 18) "ArithmeticError.__new__" tlA
  m24 : M0 P w K mg base "Outside" (c 24) (c 18) "ArithmeticError.__new__" tlA
  m25 : M1 P w K mg base "Overlaps" "index" (c 25) (c 18) "ArithmeticError.__new__" tlA
  m26 : M0 P w K mg base "NothingToUndo" (c 26) (c 18) "ArithmeticError.__new__" tlA
  m27 : M2 P w K mg base "Broken" "index" "shown" (c 27) (c 18) "ArithmeticError.__new__" tlA
  b1 : mg "BadValue" = some (.ref (c 1))
  b15 : mg "BadName" = some (.ref (c 15))
  b18 : mg "NoAnswer" = some (.ref (c 18))
  z_isinstance : mg "isinstance" = none
  z_ValueError : mg "ValueError" = none
  z_LookupError : mg "LookupError" = none
  z_ArithmeticError : mg "ArithmeticError" = none
  z_repr : mg "repr" = none
  z_all : mg "all" = none
  z_range : mg "range" = none
  z_max : mg "max" = none
  z_min : mg "min" = none
  z_len : mg "len" = none
  z_abs : mg "abs" = none
  z_int : mg "int" = none
  z_divmod : mg "divmod" = none

abbrev Mark := Str × Addr × Str
def specs (c : Nat → Addr) : List Mark := [("InvalidText", c 2, "given"), ("InvalidFraction", c 3, "given"), ("InvalidNumber", c 4, "given"), ("InvalidScale", c 5, "given"), ("InvalidTree", c 6, "given"), ("InvalidCount", c 7, "given"), ("InvalidWay", c 8, "given"), ("InvalidName", c 9, "given"), ("InvalidIndex", c 10, "given"), ("InvalidClaim", c 11, "given"), ("NotAShape", c 12, "given"), ("InvalidEquation", c 13, "index"), ("InvalidCutting", c 14, "index"), ("UnknownName", c 16, "given"), ("InUse", c 17, "index"), ("TooMany", c 23, "limit"), ("Overlaps", c 25, "index")]
/-- a pair of an error of the class at C with the one attribute f, holding v, and its word -/
def ElP (v : V) : Hp → V → Mark → Prop := fun H x m => ∃ t a, x = .ref t ∧ H t = some (.tup [.ref a, .str m.1]) ∧ ExAt H a m.2.1 [(m.2.2, v)]
def CnV (v : V) : L2.St → Hp → Prop := fun σ _ => σ[0]? = some (some v)
theorem stP (v : V) : Stay (ElP v) := fun H H' x m k ⟨t, a, e, h1, h2⟩ => ⟨t, a, e, k _ _ h1, h2.same k⟩
theorem cnP (v : V) : StayC (CnV v) := fun σ H H' _ h => h
theorem pe_pair {X : Cx} {C : Addr} {f wd : Str} {v : V} {ce : Expr} {j : Nat} {p1 pos : Pos} {kk : Nat} (hc : PE X ce (tMk1 C f (tVar 0)))
    (hst : starEach (ce :: [.Constant (.str wd) j p1]) X.env = (false, eval ce X.env) :: starEach [.Constant (.str wd) j p1] X.env := by rfl) :
    PE X (.Tuple [ce, .Constant (.str wd) j p1] kk pos) (tEl (CnV v) (ElP v) (wd, C, f)) :=
  pe_imp (pe_tup (pa_cons hc (pa_cons pe_str pa_nil) hst)) fun σ H Q q => ⟨v, q.1, fun a H1 k1 e1 => ⟨(by show 2 ≤ sizeLine; decide), fun t ht =>
    q.2 (.ref t) _ (k1.trans (same_new ht)) ⟨t, a, rfl, upd_same, e1.same (same_new ht)⟩⟩⟩
def spPairs (c : Nat → Addr) : Sp := fun vs H Q _ => ∃ v, vs = [v] ∧ ∀ p H', Same H H' → LstE (ElP v) H' p (specs c) → Q (.ref p) H'
abbrev sPlace : Stmt := top 41
abbrev sName : Stmt := top 42
theorem scPl : FnScope ["_law_thing", "_law_found"] ["_law_thing"] (defScope sPlace) := ⟨rfl, rfl, rfl, by decide +kernel, rfl, by decide +kernel, by decide +kernel⟩
theorem scNm : FnScope ["_law_thing", "_law_found"] ["_law_thing"] (defScope sName) := ⟨rfl, rfl, rfl, by decide +kernel, rfl, by decide +kernel, by decide +kernel⟩
section
variable {P : Program} {w : World} {K : PySem.W.Frag} {mg : Str → Option Value} {base : Heap} {c : Nat → Addr} {f : Addr} {fd : FuncData}
theorem ok_place (F : Fun K "_law_by_place" "_law_by_place" sPlace f fd) (T : Tx P w K mg base c) : FnOk P w K mg base CX0 3 f fd ["_law_thing"] (spPairs c) := by
  refine F.ok scPl (fun vs H Q E h => ?_) (fun cdv A outer s H vs Q E hr h => ?_)
  · obtain ⟨v, rfl, _⟩ := h
    rfl
  · obtain ⟨v, rfl, k⟩ := h
    have q2 : Room 2 _ := hr
    refine ⟨_, pss_cons (ps_set (i := 1) scPl.nd rfl (Or.inl rfl) (pe_elst (stP v) (pa_econs (cnP v) (stP v) (pe_pair (pe_m1 T.m2 q2 (by rfl) (pv 0))) (pa_econs (cnP v) (stP v) (pe_pair (pe_m1 T.m3 q2 (by rfl) (pv 0))) pa_enil)) (by show 2 ≤ sizeLine; decide)))
      (pss_cons (ps_set (i := 1) scPl.nd rfl (Or.inl rfl) (pe_ecat (ms := ([("InvalidText", c 2, "given"), ("InvalidFraction", c 3, "given")] : List Mark)) (cnP v) (stP v) (i := 1) (pv 1) (pe_elst (stP v) (pa_econs (cnP v) (stP v) (pe_pair (pe_m1 T.m4 q2 (by rfl) (pv 0))) (pa_econs (cnP v) (stP v) (pe_pair (pe_m1 T.m5 q2 (by rfl) (pv 0))) pa_enil)) (by show 2 ≤ sizeLine; decide)) (by show 4 ≤ sizeLine; decide)))
      (pss_cons (ps_set (i := 1) scPl.nd rfl (Or.inl rfl) (pe_ecat (ms := ([("InvalidText", c 2, "given"), ("InvalidFraction", c 3, "given"), ("InvalidNumber", c 4, "given"), ("InvalidScale", c 5, "given")] : List Mark)) (cnP v) (stP v) (i := 1) (pv 1) (pe_elst (stP v) (pa_econs (cnP v) (stP v) (pe_pair (pe_m1 T.m6 q2 (by rfl) (pv 0))) (pa_econs (cnP v) (stP v) (pe_pair (pe_m1 T.m7 q2 (by rfl) (pv 0))) pa_enil)) (by show 2 ≤ sizeLine; decide)) (by show 6 ≤ sizeLine; decide)))
      (pss_cons (ps_set (i := 1) scPl.nd rfl (Or.inl rfl) (pe_ecat (ms := ([("InvalidText", c 2, "given"), ("InvalidFraction", c 3, "given"), ("InvalidNumber", c 4, "given"), ("InvalidScale", c 5, "given"), ("InvalidTree", c 6, "given"), ("InvalidCount", c 7, "given")] : List Mark)) (cnP v) (stP v) (i := 1) (pv 1) (pe_elst (stP v) (pa_econs (cnP v) (stP v) (pe_pair (pe_m1 T.m8 q2 (by rfl) (pv 0))) (pa_econs (cnP v) (stP v) (pe_pair (pe_m1 T.m9 q2 (by rfl) (pv 0))) pa_enil)) (by show 2 ≤ sizeLine; decide)) (by show 8 ≤ sizeLine; decide)))
      (pss_cons (ps_set (i := 1) scPl.nd rfl (Or.inl rfl) (pe_ecat (ms := ([("InvalidText", c 2, "given"), ("InvalidFraction", c 3, "given"), ("InvalidNumber", c 4, "given"), ("InvalidScale", c 5, "given"), ("InvalidTree", c 6, "given"), ("InvalidCount", c 7, "given"), ("InvalidWay", c 8, "given"), ("InvalidName", c 9, "given")] : List Mark)) (cnP v) (stP v) (i := 1) (pv 1) (pe_elst (stP v) (pa_econs (cnP v) (stP v) (pe_pair (pe_m1 T.m10 q2 (by rfl) (pv 0))) (pa_econs (cnP v) (stP v) (pe_pair (pe_m1 T.m11 q2 (by rfl) (pv 0))) pa_enil)) (by show 2 ≤ sizeLine; decide)) (by show 10 ≤ sizeLine; decide)))
      (pss_cons (ps_set (i := 1) scPl.nd rfl (Or.inl rfl) (pe_ecat (ms := ([("InvalidText", c 2, "given"), ("InvalidFraction", c 3, "given"), ("InvalidNumber", c 4, "given"), ("InvalidScale", c 5, "given"), ("InvalidTree", c 6, "given"), ("InvalidCount", c 7, "given"), ("InvalidWay", c 8, "given"), ("InvalidName", c 9, "given"), ("InvalidIndex", c 10, "given"), ("InvalidClaim", c 11, "given")] : List Mark)) (cnP v) (stP v) (i := 1) (pv 1) (pe_elst (stP v) (pa_econs (cnP v) (stP v) (pe_pair (pe_m1 T.m12 q2 (by rfl) (pv 0))) (pa_econs (cnP v) (stP v) (pe_pair (pe_m1 T.m13 q2 (by rfl) (pv 0))) pa_enil)) (by show 2 ≤ sizeLine; decide)) (by show 12 ≤ sizeLine; decide)))
      (pss_cons (ps_set (i := 1) scPl.nd rfl (Or.inl rfl) (pe_ecat (ms := ([("InvalidText", c 2, "given"), ("InvalidFraction", c 3, "given"), ("InvalidNumber", c 4, "given"), ("InvalidScale", c 5, "given"), ("InvalidTree", c 6, "given"), ("InvalidCount", c 7, "given"), ("InvalidWay", c 8, "given"), ("InvalidName", c 9, "given"), ("InvalidIndex", c 10, "given"), ("InvalidClaim", c 11, "given"), ("NotAShape", c 12, "given"), ("InvalidEquation", c 13, "index")] : List Mark)) (cnP v) (stP v) (i := 1) (pv 1) (pe_elst (stP v) (pa_econs (cnP v) (stP v) (pe_pair (pe_m1 T.m14 q2 (by rfl) (pv 0))) (pa_econs (cnP v) (stP v) (pe_pair (pe_m1 T.m16 q2 (by rfl) (pv 0))) pa_enil)) (by show 2 ≤ sizeLine; decide)) (by show 14 ≤ sizeLine; decide)))
      (pss_one (ps_ret (pe_ecat (ms := ([("InvalidText", c 2, "given"), ("InvalidFraction", c 3, "given"), ("InvalidNumber", c 4, "given"), ("InvalidScale", c 5, "given"), ("InvalidTree", c 6, "given"), ("InvalidCount", c 7, "given"), ("InvalidWay", c 8, "given"), ("InvalidName", c 9, "given"), ("InvalidIndex", c 10, "given"), ("InvalidClaim", c 11, "given"), ("NotAShape", c 12, "given"), ("InvalidEquation", c 13, "index"), ("InvalidCutting", c 14, "index"), ("UnknownName", c 16, "given")] : List Mark)) (cnP v) (stP v) (i := 1) (pv 1) (pe_elst (stP v) (pa_econs (cnP v) (stP v) (pe_pair (pe_m1 T.m17 q2 (by rfl) (pv 0))) (pa_econs (cnP v) (stP v) (pe_pair (pe_m1 T.m23 q2 (by rfl) (pv 0))) (pa_econs (cnP v) (stP v) (pe_pair (pe_m1 T.m25 q2 (by rfl) (pv 0))) pa_enil))) (by show 3 ≤ sizeLine; decide)) (by show 17 ≤ sizeLine; decide)))))))))), ?_⟩
    refine ⟨rfl, fun p1 H1 s1 e1 => ?_⟩
    refine ⟨⟨p1, rfl, e1⟩, rfl, fun p2 H2 s2 e2 => ?_⟩
    refine ⟨⟨p2, rfl, e2⟩, rfl, fun p3 H3 s3 e3 => ?_⟩
    refine ⟨⟨p3, rfl, e3⟩, rfl, fun p4 H4 s4 e4 => ?_⟩
    refine ⟨⟨p4, rfl, e4⟩, rfl, fun p5 H5 s5 e5 => ?_⟩
    refine ⟨⟨p5, rfl, e5⟩, rfl, fun p6 H6 s6 e6 => ?_⟩
    refine ⟨⟨p6, rfl, e6⟩, rfl, fun p7 H7 s7 e7 => ?_⟩
    refine ⟨⟨p7, rfl, e7⟩, rfl, fun p8 H8 s8 e8 => ?_⟩
    exact k p8 H8 (((((((s1.trans s2).trans s3).trans s4).trans s5).trans s6).trans s7).trans s8) e8
theorem ok_name (F : Fun K "_law_by_name" "_law_by_name" sName f fd) (T : Tx P w K mg base c) : FnOk P w K mg base CX0 3 f fd ["_law_thing"] (spPairs c) := by
  refine F.ok scNm (fun vs H Q E h => ?_) (fun cdv A outer s H vs Q E hr h => ?_)
  · obtain ⟨v, rfl, _⟩ := h
    rfl
  · obtain ⟨v, rfl, k⟩ := h
    have q2 : Room 2 _ := hr
    refine ⟨_, pss_cons (ps_set (i := 1) scNm.nd rfl (Or.inl rfl) (pe_elst (stP v) (pa_econs (cnP v) (stP v) (pe_pair (pe_m1k T.m2 q2 (by rfl) (pv 0))) (pa_econs (cnP v) (stP v) (pe_pair (pe_m1k T.m3 q2 (by rfl) (pv 0))) pa_enil)) (by show 2 ≤ sizeLine; decide)))
      (pss_cons (ps_set (i := 1) scNm.nd rfl (Or.inl rfl) (pe_ecat (ms := ([("InvalidText", c 2, "given"), ("InvalidFraction", c 3, "given")] : List Mark)) (cnP v) (stP v) (i := 1) (pv 1) (pe_elst (stP v) (pa_econs (cnP v) (stP v) (pe_pair (pe_m1k T.m4 q2 (by rfl) (pv 0))) (pa_econs (cnP v) (stP v) (pe_pair (pe_m1k T.m5 q2 (by rfl) (pv 0))) pa_enil)) (by show 2 ≤ sizeLine; decide)) (by show 4 ≤ sizeLine; decide)))
      (pss_cons (ps_set (i := 1) scNm.nd rfl (Or.inl rfl) (pe_ecat (ms := ([("InvalidText", c 2, "given"), ("InvalidFraction", c 3, "given"), ("InvalidNumber", c 4, "given"), ("InvalidScale", c 5, "given")] : List Mark)) (cnP v) (stP v) (i := 1) (pv 1) (pe_elst (stP v) (pa_econs (cnP v) (stP v) (pe_pair (pe_m1k T.m6 q2 (by rfl) (pv 0))) (pa_econs (cnP v) (stP v) (pe_pair (pe_m1k T.m7 q2 (by rfl) (pv 0))) pa_enil)) (by show 2 ≤ sizeLine; decide)) (by show 6 ≤ sizeLine; decide)))
      (pss_cons (ps_set (i := 1) scNm.nd rfl (Or.inl rfl) (pe_ecat (ms := ([("InvalidText", c 2, "given"), ("InvalidFraction", c 3, "given"), ("InvalidNumber", c 4, "given"), ("InvalidScale", c 5, "given"), ("InvalidTree", c 6, "given"), ("InvalidCount", c 7, "given")] : List Mark)) (cnP v) (stP v) (i := 1) (pv 1) (pe_elst (stP v) (pa_econs (cnP v) (stP v) (pe_pair (pe_m1k T.m8 q2 (by rfl) (pv 0))) (pa_econs (cnP v) (stP v) (pe_pair (pe_m1k T.m9 q2 (by rfl) (pv 0))) pa_enil)) (by show 2 ≤ sizeLine; decide)) (by show 8 ≤ sizeLine; decide)))
      (pss_cons (ps_set (i := 1) scNm.nd rfl (Or.inl rfl) (pe_ecat (ms := ([("InvalidText", c 2, "given"), ("InvalidFraction", c 3, "given"), ("InvalidNumber", c 4, "given"), ("InvalidScale", c 5, "given"), ("InvalidTree", c 6, "given"), ("InvalidCount", c 7, "given"), ("InvalidWay", c 8, "given"), ("InvalidName", c 9, "given")] : List Mark)) (cnP v) (stP v) (i := 1) (pv 1) (pe_elst (stP v) (pa_econs (cnP v) (stP v) (pe_pair (pe_m1k T.m10 q2 (by rfl) (pv 0))) (pa_econs (cnP v) (stP v) (pe_pair (pe_m1k T.m11 q2 (by rfl) (pv 0))) pa_enil)) (by show 2 ≤ sizeLine; decide)) (by show 10 ≤ sizeLine; decide)))
      (pss_cons (ps_set (i := 1) scNm.nd rfl (Or.inl rfl) (pe_ecat (ms := ([("InvalidText", c 2, "given"), ("InvalidFraction", c 3, "given"), ("InvalidNumber", c 4, "given"), ("InvalidScale", c 5, "given"), ("InvalidTree", c 6, "given"), ("InvalidCount", c 7, "given"), ("InvalidWay", c 8, "given"), ("InvalidName", c 9, "given"), ("InvalidIndex", c 10, "given"), ("InvalidClaim", c 11, "given")] : List Mark)) (cnP v) (stP v) (i := 1) (pv 1) (pe_elst (stP v) (pa_econs (cnP v) (stP v) (pe_pair (pe_m1k T.m12 q2 (by rfl) (pv 0))) (pa_econs (cnP v) (stP v) (pe_pair (pe_m1k T.m13 q2 (by rfl) (pv 0))) pa_enil)) (by show 2 ≤ sizeLine; decide)) (by show 12 ≤ sizeLine; decide)))
      (pss_cons (ps_set (i := 1) scNm.nd rfl (Or.inl rfl) (pe_ecat (ms := ([("InvalidText", c 2, "given"), ("InvalidFraction", c 3, "given"), ("InvalidNumber", c 4, "given"), ("InvalidScale", c 5, "given"), ("InvalidTree", c 6, "given"), ("InvalidCount", c 7, "given"), ("InvalidWay", c 8, "given"), ("InvalidName", c 9, "given"), ("InvalidIndex", c 10, "given"), ("InvalidClaim", c 11, "given"), ("NotAShape", c 12, "given"), ("InvalidEquation", c 13, "index")] : List Mark)) (cnP v) (stP v) (i := 1) (pv 1) (pe_elst (stP v) (pa_econs (cnP v) (stP v) (pe_pair (pe_m1k T.m14 q2 (by rfl) (pv 0))) (pa_econs (cnP v) (stP v) (pe_pair (pe_m1k T.m16 q2 (by rfl) (pv 0))) pa_enil)) (by show 2 ≤ sizeLine; decide)) (by show 14 ≤ sizeLine; decide)))
      (pss_cons (ps_set (i := 1) scNm.nd rfl (Or.inl rfl) (pe_ecat (ms := ([("InvalidText", c 2, "given"), ("InvalidFraction", c 3, "given"), ("InvalidNumber", c 4, "given"), ("InvalidScale", c 5, "given"), ("InvalidTree", c 6, "given"), ("InvalidCount", c 7, "given"), ("InvalidWay", c 8, "given"), ("InvalidName", c 9, "given"), ("InvalidIndex", c 10, "given"), ("InvalidClaim", c 11, "given"), ("NotAShape", c 12, "given"), ("InvalidEquation", c 13, "index"), ("InvalidCutting", c 14, "index"), ("UnknownName", c 16, "given")] : List Mark)) (cnP v) (stP v) (i := 1) (pv 1) (pe_elst (stP v) (pa_econs (cnP v) (stP v) (pe_pair (pe_m1k T.m17 q2 (by rfl) (pv 0))) (pa_econs (cnP v) (stP v) (pe_pair (pe_m1k T.m23 q2 (by rfl) (pv 0))) pa_enil)) (by show 2 ≤ sizeLine; decide)) (by show 16 ≤ sizeLine; decide)))
      (pss_one (ps_ret (pe_ecat (ms := ([("InvalidText", c 2, "given"), ("InvalidFraction", c 3, "given"), ("InvalidNumber", c 4, "given"), ("InvalidScale", c 5, "given"), ("InvalidTree", c 6, "given"), ("InvalidCount", c 7, "given"), ("InvalidWay", c 8, "given"), ("InvalidName", c 9, "given"), ("InvalidIndex", c 10, "given"), ("InvalidClaim", c 11, "given"), ("NotAShape", c 12, "given"), ("InvalidEquation", c 13, "index"), ("InvalidCutting", c 14, "index"), ("UnknownName", c 16, "given"), ("InUse", c 17, "index"), ("TooMany", c 23, "limit")] : List Mark)) (cnP v) (stP v) (i := 1) (pv 1) (pe_elst (stP v) (pa_econs (cnP v) (stP v) (pe_pair (pe_m1k T.m25 q2 (by rfl) (pv 0))) pa_enil) (by show 1 ≤ sizeLine; decide)) (by show 17 ≤ sizeLine; decide))))))))))), ?_⟩
    refine ⟨rfl, fun p1 H1 s1 e1 => ?_⟩
    refine ⟨⟨p1, rfl, e1⟩, rfl, fun p2 H2 s2 e2 => ?_⟩
    refine ⟨⟨p2, rfl, e2⟩, rfl, fun p3 H3 s3 e3 => ?_⟩
    refine ⟨⟨p3, rfl, e3⟩, rfl, fun p4 H4 s4 e4 => ?_⟩
    refine ⟨⟨p4, rfl, e4⟩, rfl, fun p5 H5 s5 e5 => ?_⟩
    refine ⟨⟨p5, rfl, e5⟩, rfl, fun p6 H6 s6 e6 => ?_⟩
    refine ⟨⟨p6, rfl, e6⟩, rfl, fun p7 H7 s7 e7 => ?_⟩
    refine ⟨⟨p7, rfl, e7⟩, rfl, fun p8 H8 s8 e8 => ?_⟩
    refine ⟨⟨p8, rfl, e8⟩, rfl, fun p9 H9 s9 e9 => ?_⟩
    exact k p9 H9 ((((((((s1.trans s2).trans s3).trans s4).trans s5).trans s6).trans s7).trans s8).trans s9) e9
end
end Xk

/-! The classes that an error is of, as a text. -/
namespace Xk
open PySem PySem.Spec PyProof.Rows L2
def kinEnts (c : Nat → Addr) : List (Value × Str) := [(.type "ValueError", "V"), (.type "LookupError", "L"), (.type "ArithmeticError", "A"), (.ref (c 1), "BadValue"), (.ref (c 15), "BadName"), (.ref (c 18), "NoAnswer"), (.ref (c 2), "InvalidText"), (.ref (c 3), "InvalidFraction"), (.ref (c 4), "InvalidNumber"), (.ref (c 5), "InvalidScale"), (.ref (c 6), "InvalidTree"), (.ref (c 7), "InvalidCount"), (.ref (c 8), "InvalidWay"), (.ref (c 9), "InvalidName"), (.ref (c 10), "InvalidIndex"), (.ref (c 11), "InvalidClaim"), (.ref (c 12), "NotAShape"), (.ref (c 13), "InvalidEquation"), (.ref (c 14), "InvalidCutting"), (.ref (c 16), "UnknownName"), (.ref (c 17), "InUse"), (.ref (c 19), "NoRoot"), (.ref (c 20), "NoQuotient"), (.ref (c 21), "NotPositive"), (.ref (c 22), "NotFilled"), (.ref (c 23), "TooMany"), (.ref (c 24), "Outside"), (.ref (c 25), "Overlaps"), (.ref (c 26), "NothingToUndo"), (.ref (c 27), "Broken")]
def kinWords : List Str := ["V", "L", "A", "BadValue", "BadName", "NoAnswer", "InvalidText", "InvalidFraction", "InvalidNumber", "InvalidScale", "InvalidTree", "InvalidCount", "InvalidWay", "InvalidName", "InvalidIndex", "InvalidClaim", "NotAShape", "InvalidEquation", "InvalidCutting", "UnknownName", "InUse", "NoRoot", "NoQuotient", "NotPositive", "NotFilled", "TooMany", "Outside", "Overlaps", "NothingToUndo", "Broken"]
abbrev KM := Bool × Str
def marks (bs : List Bool) : List KM := ((List.range 30).map fun i => bs.getD i false).zip kinWords
def kinOf (bs : List Bool) : Str := Txt.join " " (((marks bs).filter (·.1)).map (·.2))
def KinOk (K : PySem.W.Frag) (c : Nat → Addr) (C : Addr) (bs : List Bool) : Prop :=
  ∀ (i : Nat) (cv : Value) (wd : Str), (kinEnts c)[i]? = some (cv, wd) → PySem.W.kitOne K (.ref C) cv = some (bs.getD i false)
def ElK : Hp → V → KM → Prop := fun H x m => ∃ t, x = .ref t ∧ H t = some (.lst [.bl m.1, .str m.2])
theorem stK : Stay ElK := fun H H' x m k ⟨t, e, h⟩ => ⟨t, e, k _ _ h⟩
def CnE (a C : Addr) (fs : List (Str × V)) : L2.St → Hp → Prop := fun σ H => σ[0]? = some (some (.ref a)) ∧ ExAt H a C fs
theorem cnE (a C : Addr) (fs : List (Str × V)) : StayC (CnE a C fs) := fun σ H H' k h => ⟨h.1, h.2.same k⟩
theorem words_short : ∀ w ∈ kinWords, w.length ≤ 20 := by decide +kernel
theorem fsum : ∀ (ms : List KM), (∀ m ∈ ms, m.2.length ≤ 20) → (((ms.filter (·.1)).map (·.2)).map (·.length)).sum + ((ms.filter (·.1)).map (·.2)).length ≤ 21 * ms.length
  | [], _ => by simp
  | m :: ms, h => by
    have ih := fsum ms fun n hn => h n (List.mem_cons_of_mem _ hn)
    have h1 := h m List.mem_cons_self
    rw [List.filter_cons]
    by_cases hb : m.1 = true
    · rw [if_pos hb]
      simp only [List.map_cons, List.sum_cons, List.length_cons] at *
      omega
    · rw [if_neg hb]
      simp only [List.length_cons] at *
      omega
theorem marks_short (bs : List Bool) : ∀ m ∈ marks bs, m.2.length ≤ 20 := fun m hm => words_short _ (List.of_mem_zip (show (m.1, m.2) ∈ _ from hm)).2
theorem marks_len (bs : List Bool) : (marks bs).length = 30 := by
  unfold marks
  rw [List.length_zip, List.length_map, List.length_range]
  decide +kernel
section
variable {X : Cx} {C Bc a : Addr} {newId : String} {tl : List Value} {fs : List (Str × V)} {wd x : Str} {cv : Value} {v : V} {b : Bool} {ce : Expr} {j : Nat} {p0 p1 p2 p3 px : Pos}
theorem pe_ent (T : OxC X.K C Bc newId tl) (hcls : PE X ce (tC v)) (hv : ∀ u, RelV v u → u = cv) (hk : PySem.W.kitOne X.K (.ref C) cv = some b)
    (hg : Gl X "isinstance") (hm : X.mg "isinstance" = none) (hx : PE X (.Name x px) (tVar 0))
    (hst : starEach (.Name x px :: [ce]) X.env = (false, eval (.Name x px) X.env) :: starEach [ce] X.env := by rfl)
    (hst2 : starEach (ce :: []) X.env = (false, eval ce X.env) :: starEach [] X.env := by rfl)
    (hpl : (backTo p1 (starEach [ce] X.env)).any (·.1) = false := by rfl)
    (hst3 : starEach (.Call (.Name "isinstance" p0) [.Name x px, ce] [] p1 :: [.Constant (.str wd) j p2]) X.env =
      (false, eval (.Call (.Name "isinstance" p0) [.Name x px, ce] [] p1) X.env) :: starEach [.Constant (.str wd) j p2] X.env := by rfl) :
    PE X (.List [.Call (.Name "isinstance" p0) [.Name x px, ce] [] p1, .Constant (.str wd) j p2] p3) (tEl (CnE a C fs) ElK (b, wd)) := by
  refine pe_imp (pe_lst (pa_cons (pe_callB call_isO hg hm PyProof.Rows.boot_isinstance (pa_cons hx (pa_cons hcls pa_nil hst2) hst) (by decide) (by decide) hst hpl) (pa_cons pe_str pa_nil) hst3)) fun σ H Q q => ?_
  obtain ⟨⟨h1, h2⟩, k⟩ := q
  refine ⟨_, h1, a, C, fs, v, cv, b, Bc, newId, tl, rfl, h2, T, hv, hk, (by show 2 ≤ sizeLine; decide), fun t ht => ?_⟩
  exact k _ _ (same_new ht) ⟨t, rfl, upd_same⟩
end
def spKin (K : PySem.W.Frag) (c : Nat → Addr) : Sp := fun vs H Q _ => ∃ (a C Bc : Addr) (fs : List (Str × V)) (newId : String) (tl : List Value) (bs : List Bool),
  vs = [.ref a] ∧ ExAt H a C fs ∧ OxC K C Bc newId tl ∧ KinOk K c C bs ∧ ∀ H', Same H H' → Q (.str (kinOf bs)) H'
abbrev sKin : Stmt := top 38
theorem scK : FnScope ["_law_e", "_law_found", "_law_entry"] ["_law_e"] (defScope sKin) := ⟨rfl, rfl, rfl, by decide +kernel, rfl, by decide +kernel, by decide +kernel⟩
section
variable {P : Program} {w : World} {K : PySem.W.Frag} {mg : Str → Option Value} {base : Heap} {c : Nat → Addr} {f : Addr} {fd : FuncData}
theorem own_eq (C : Addr) : ∀ u, RelV (.ref C) u → u = Value.ref C := fun u h => h
theorem ty_eq (n : String) : ∀ u, RelV (.ty n) u → u = Value.type n := fun u h => h
theorem gn {i : Nat} {v : V} {σ : L2.St} {H : Hp} {Q : L2.St → Hp → Prop} : gName i v σ H Q = Q (σ.set i (some v)) H := rfl
theorem sub2 {x y z u : Option V} : [x, y, z].set 1 u = [x, u, z] := rfl
theorem st3 {x y z : Str} {v : V} : L2.start [x, y, z] [v] = [some v, none, none] := rfl
def doneV (ms : List KM) (i : Nat) : List V := ((ms.take i).filter (·.1)).map fun m => V.str m.2
theorem doneV_succ {ms : List KM} {i : Nat} {m : KM} (h : ms[i]? = some m) : doneV ms (i + 1) = if m.1 = true then doneV ms i ++ [V.str m.2] else doneV ms i := by
  unfold doneV
  rw [List.take_add_one, h, Option.toList_some, List.filter_append, List.map_append]
  by_cases hb : m.1 = true
  · rw [if_pos hb, List.filter_cons, if_pos hb, List.filter_nil, List.map_cons, List.map_nil]
  · rw [if_neg hb, List.filter_cons, if_neg hb, List.filter_nil, List.map_nil, List.append_nil]
theorem doneV_len (ms : List KM) (i : Nat) : (doneV ms i).length ≤ ms.length := by
  unfold doneV
  rw [List.length_map]
  exact Nat.le_trans (List.length_filter_le _ _) (by rw [List.length_take]; omega)
theorem ok_kin (F : Fun K "_law_kin" "_law_kin" sKin f fd) (T : Tx P w K mg base c) : FnOk P w K mg base CX0 1 f fd ["_law_e"] (spKin K c) := by
  refine F.ok scK (fun vs H Q E h => ?_) (fun cdv A outer s H vs Q E hr h => ?_)
  · obtain ⟨a, C, Bc, fs, newId, tl, bs, rfl, _⟩ := h
    rfl
  · obtain ⟨a, C, Bc, fs, newId, tl, bs, rfl, hex, O, hk, k⟩ := h
    refine ⟨_, pss_cons (ps_set (i := 1) scK.nd rfl (Or.inl rfl) (pe_elst stK (pa_econs (cnE a C fs) stK (pe_ent O (pe_bltn (v := .ty "ValueError") (by rfl) T.z_ValueError (by decide +kernel) rfl) (ty_eq "ValueError") (hk 0 _ _ rfl) (by rfl) T.z_isinstance (pv 0)) (pa_econs (cnE a C fs) stK (pe_ent O (pe_bltn (v := .ty "LookupError") (by rfl) T.z_LookupError (by decide +kernel) rfl) (ty_eq "LookupError") (hk 1 _ _ rfl) (by rfl) T.z_isinstance (pv 0)) pa_enil)) (by show 2 ≤ sizeLine; decide)))
      (pss_cons (ps_set (i := 1) scK.nd rfl (Or.inl rfl) (pe_ecat (ms := ([(bs.getD 0 false, "V"), (bs.getD 1 false, "L")] : List KM)) (cnE a C fs) stK (i := 1) (pv 1) (pe_elst stK (pa_econs (cnE a C fs) stK (pe_ent O (pe_bltn (v := .ty "ArithmeticError") (by rfl) T.z_ArithmeticError (by decide +kernel) rfl) (ty_eq "ArithmeticError") (hk 2 _ _ rfl) (by rfl) T.z_isinstance (pv 0)) (pa_econs (cnE a C fs) stK (pe_ent O (pe_glob (v := .ref (c 1)) (by rfl) T.b1 rfl) (own_eq (c 1)) (hk 3 _ _ rfl) (by rfl) T.z_isinstance (pv 0)) pa_enil)) (by show 2 ≤ sizeLine; decide)) (by show 4 ≤ sizeLine; decide)))
      (pss_cons (ps_set (i := 1) scK.nd rfl (Or.inl rfl) (pe_ecat (ms := ([(bs.getD 0 false, "V"), (bs.getD 1 false, "L"), (bs.getD 2 false, "A"), (bs.getD 3 false, "BadValue")] : List KM)) (cnE a C fs) stK (i := 1) (pv 1) (pe_elst stK (pa_econs (cnE a C fs) stK (pe_ent O (pe_glob (v := .ref (c 15)) (by rfl) T.b15 rfl) (own_eq (c 15)) (hk 4 _ _ rfl) (by rfl) T.z_isinstance (pv 0)) (pa_econs (cnE a C fs) stK (pe_ent O (pe_glob (v := .ref (c 18)) (by rfl) T.b18 rfl) (own_eq (c 18)) (hk 5 _ _ rfl) (by rfl) T.z_isinstance (pv 0)) pa_enil)) (by show 2 ≤ sizeLine; decide)) (by show 6 ≤ sizeLine; decide)))
      (pss_cons (ps_set (i := 1) scK.nd rfl (Or.inl rfl) (pe_ecat (ms := ([(bs.getD 0 false, "V"), (bs.getD 1 false, "L"), (bs.getD 2 false, "A"), (bs.getD 3 false, "BadValue"), (bs.getD 4 false, "BadName"), (bs.getD 5 false, "NoAnswer")] : List KM)) (cnE a C fs) stK (i := 1) (pv 1) (pe_elst stK (pa_econs (cnE a C fs) stK (pe_ent O (pe_glob (v := .ref (c 2)) (by rfl) T.m2.at_ rfl) (own_eq (c 2)) (hk 6 _ _ rfl) (by rfl) T.z_isinstance (pv 0)) pa_enil) (by show 1 ≤ sizeLine; decide)) (by show 7 ≤ sizeLine; decide)))
      (pss_cons (ps_set (i := 1) scK.nd rfl (Or.inl rfl) (pe_ecat (ms := ([(bs.getD 0 false, "V"), (bs.getD 1 false, "L"), (bs.getD 2 false, "A"), (bs.getD 3 false, "BadValue"), (bs.getD 4 false, "BadName"), (bs.getD 5 false, "NoAnswer"), (bs.getD 6 false, "InvalidText")] : List KM)) (cnE a C fs) stK (i := 1) (pv 1) (pe_elst stK (pa_econs (cnE a C fs) stK (pe_ent O (pe_glob (v := .ref (c 3)) (by rfl) T.m3.at_ rfl) (own_eq (c 3)) (hk 7 _ _ rfl) (by rfl) T.z_isinstance (pv 0)) pa_enil) (by show 1 ≤ sizeLine; decide)) (by show 8 ≤ sizeLine; decide)))
      (pss_cons (ps_set (i := 1) scK.nd rfl (Or.inl rfl) (pe_ecat (ms := ([(bs.getD 0 false, "V"), (bs.getD 1 false, "L"), (bs.getD 2 false, "A"), (bs.getD 3 false, "BadValue"), (bs.getD 4 false, "BadName"), (bs.getD 5 false, "NoAnswer"), (bs.getD 6 false, "InvalidText"), (bs.getD 7 false, "InvalidFraction")] : List KM)) (cnE a C fs) stK (i := 1) (pv 1) (pe_elst stK (pa_econs (cnE a C fs) stK (pe_ent O (pe_glob (v := .ref (c 4)) (by rfl) T.m4.at_ rfl) (own_eq (c 4)) (hk 8 _ _ rfl) (by rfl) T.z_isinstance (pv 0)) (pa_econs (cnE a C fs) stK (pe_ent O (pe_glob (v := .ref (c 5)) (by rfl) T.m5.at_ rfl) (own_eq (c 5)) (hk 9 _ _ rfl) (by rfl) T.z_isinstance (pv 0)) pa_enil)) (by show 2 ≤ sizeLine; decide)) (by show 10 ≤ sizeLine; decide)))
      (pss_cons (ps_set (i := 1) scK.nd rfl (Or.inl rfl) (pe_ecat (ms := ([(bs.getD 0 false, "V"), (bs.getD 1 false, "L"), (bs.getD 2 false, "A"), (bs.getD 3 false, "BadValue"), (bs.getD 4 false, "BadName"), (bs.getD 5 false, "NoAnswer"), (bs.getD 6 false, "InvalidText"), (bs.getD 7 false, "InvalidFraction"), (bs.getD 8 false, "InvalidNumber"), (bs.getD 9 false, "InvalidScale")] : List KM)) (cnE a C fs) stK (i := 1) (pv 1) (pe_elst stK (pa_econs (cnE a C fs) stK (pe_ent O (pe_glob (v := .ref (c 6)) (by rfl) T.m6.at_ rfl) (own_eq (c 6)) (hk 10 _ _ rfl) (by rfl) T.z_isinstance (pv 0)) (pa_econs (cnE a C fs) stK (pe_ent O (pe_glob (v := .ref (c 7)) (by rfl) T.m7.at_ rfl) (own_eq (c 7)) (hk 11 _ _ rfl) (by rfl) T.z_isinstance (pv 0)) pa_enil)) (by show 2 ≤ sizeLine; decide)) (by show 12 ≤ sizeLine; decide)))
      (pss_cons (ps_set (i := 1) scK.nd rfl (Or.inl rfl) (pe_ecat (ms := ([(bs.getD 0 false, "V"), (bs.getD 1 false, "L"), (bs.getD 2 false, "A"), (bs.getD 3 false, "BadValue"), (bs.getD 4 false, "BadName"), (bs.getD 5 false, "NoAnswer"), (bs.getD 6 false, "InvalidText"), (bs.getD 7 false, "InvalidFraction"), (bs.getD 8 false, "InvalidNumber"), (bs.getD 9 false, "InvalidScale"), (bs.getD 10 false, "InvalidTree"), (bs.getD 11 false, "InvalidCount")] : List KM)) (cnE a C fs) stK (i := 1) (pv 1) (pe_elst stK (pa_econs (cnE a C fs) stK (pe_ent O (pe_glob (v := .ref (c 8)) (by rfl) T.m8.at_ rfl) (own_eq (c 8)) (hk 12 _ _ rfl) (by rfl) T.z_isinstance (pv 0)) (pa_econs (cnE a C fs) stK (pe_ent O (pe_glob (v := .ref (c 9)) (by rfl) T.m9.at_ rfl) (own_eq (c 9)) (hk 13 _ _ rfl) (by rfl) T.z_isinstance (pv 0)) pa_enil)) (by show 2 ≤ sizeLine; decide)) (by show 14 ≤ sizeLine; decide)))
      (pss_cons (ps_set (i := 1) scK.nd rfl (Or.inl rfl) (pe_ecat (ms := ([(bs.getD 0 false, "V"), (bs.getD 1 false, "L"), (bs.getD 2 false, "A"), (bs.getD 3 false, "BadValue"), (bs.getD 4 false, "BadName"), (bs.getD 5 false, "NoAnswer"), (bs.getD 6 false, "InvalidText"), (bs.getD 7 false, "InvalidFraction"), (bs.getD 8 false, "InvalidNumber"), (bs.getD 9 false, "InvalidScale"), (bs.getD 10 false, "InvalidTree"), (bs.getD 11 false, "InvalidCount"), (bs.getD 12 false, "InvalidWay"), (bs.getD 13 false, "InvalidName")] : List KM)) (cnE a C fs) stK (i := 1) (pv 1) (pe_elst stK (pa_econs (cnE a C fs) stK (pe_ent O (pe_glob (v := .ref (c 10)) (by rfl) T.m10.at_ rfl) (own_eq (c 10)) (hk 14 _ _ rfl) (by rfl) T.z_isinstance (pv 0)) (pa_econs (cnE a C fs) stK (pe_ent O (pe_glob (v := .ref (c 11)) (by rfl) T.m11.at_ rfl) (own_eq (c 11)) (hk 15 _ _ rfl) (by rfl) T.z_isinstance (pv 0)) pa_enil)) (by show 2 ≤ sizeLine; decide)) (by show 16 ≤ sizeLine; decide)))
      (pss_cons (ps_set (i := 1) scK.nd rfl (Or.inl rfl) (pe_ecat (ms := ([(bs.getD 0 false, "V"), (bs.getD 1 false, "L"), (bs.getD 2 false, "A"), (bs.getD 3 false, "BadValue"), (bs.getD 4 false, "BadName"), (bs.getD 5 false, "NoAnswer"), (bs.getD 6 false, "InvalidText"), (bs.getD 7 false, "InvalidFraction"), (bs.getD 8 false, "InvalidNumber"), (bs.getD 9 false, "InvalidScale"), (bs.getD 10 false, "InvalidTree"), (bs.getD 11 false, "InvalidCount"), (bs.getD 12 false, "InvalidWay"), (bs.getD 13 false, "InvalidName"), (bs.getD 14 false, "InvalidIndex"), (bs.getD 15 false, "InvalidClaim")] : List KM)) (cnE a C fs) stK (i := 1) (pv 1) (pe_elst stK (pa_econs (cnE a C fs) stK (pe_ent O (pe_glob (v := .ref (c 12)) (by rfl) T.m12.at_ rfl) (own_eq (c 12)) (hk 16 _ _ rfl) (by rfl) T.z_isinstance (pv 0)) (pa_econs (cnE a C fs) stK (pe_ent O (pe_glob (v := .ref (c 13)) (by rfl) T.m13.at_ rfl) (own_eq (c 13)) (hk 17 _ _ rfl) (by rfl) T.z_isinstance (pv 0)) pa_enil)) (by show 2 ≤ sizeLine; decide)) (by show 18 ≤ sizeLine; decide)))
      (pss_cons (ps_set (i := 1) scK.nd rfl (Or.inl rfl) (pe_ecat (ms := ([(bs.getD 0 false, "V"), (bs.getD 1 false, "L"), (bs.getD 2 false, "A"), (bs.getD 3 false, "BadValue"), (bs.getD 4 false, "BadName"), (bs.getD 5 false, "NoAnswer"), (bs.getD 6 false, "InvalidText"), (bs.getD 7 false, "InvalidFraction"), (bs.getD 8 false, "InvalidNumber"), (bs.getD 9 false, "InvalidScale"), (bs.getD 10 false, "InvalidTree"), (bs.getD 11 false, "InvalidCount"), (bs.getD 12 false, "InvalidWay"), (bs.getD 13 false, "InvalidName"), (bs.getD 14 false, "InvalidIndex"), (bs.getD 15 false, "InvalidClaim"), (bs.getD 16 false, "NotAShape"), (bs.getD 17 false, "InvalidEquation")] : List KM)) (cnE a C fs) stK (i := 1) (pv 1) (pe_elst stK (pa_econs (cnE a C fs) stK (pe_ent O (pe_glob (v := .ref (c 14)) (by rfl) T.m14.at_ rfl) (own_eq (c 14)) (hk 18 _ _ rfl) (by rfl) T.z_isinstance (pv 0)) (pa_econs (cnE a C fs) stK (pe_ent O (pe_glob (v := .ref (c 16)) (by rfl) T.m16.at_ rfl) (own_eq (c 16)) (hk 19 _ _ rfl) (by rfl) T.z_isinstance (pv 0)) pa_enil)) (by show 2 ≤ sizeLine; decide)) (by show 20 ≤ sizeLine; decide)))
      (pss_cons (ps_set (i := 1) scK.nd rfl (Or.inl rfl) (pe_ecat (ms := ([(bs.getD 0 false, "V"), (bs.getD 1 false, "L"), (bs.getD 2 false, "A"), (bs.getD 3 false, "BadValue"), (bs.getD 4 false, "BadName"), (bs.getD 5 false, "NoAnswer"), (bs.getD 6 false, "InvalidText"), (bs.getD 7 false, "InvalidFraction"), (bs.getD 8 false, "InvalidNumber"), (bs.getD 9 false, "InvalidScale"), (bs.getD 10 false, "InvalidTree"), (bs.getD 11 false, "InvalidCount"), (bs.getD 12 false, "InvalidWay"), (bs.getD 13 false, "InvalidName"), (bs.getD 14 false, "InvalidIndex"), (bs.getD 15 false, "InvalidClaim"), (bs.getD 16 false, "NotAShape"), (bs.getD 17 false, "InvalidEquation"), (bs.getD 18 false, "InvalidCutting"), (bs.getD 19 false, "UnknownName")] : List KM)) (cnE a C fs) stK (i := 1) (pv 1) (pe_elst stK (pa_econs (cnE a C fs) stK (pe_ent O (pe_glob (v := .ref (c 17)) (by rfl) T.m17.at_ rfl) (own_eq (c 17)) (hk 20 _ _ rfl) (by rfl) T.z_isinstance (pv 0)) (pa_econs (cnE a C fs) stK (pe_ent O (pe_glob (v := .ref (c 19)) (by rfl) T.m19.at_ rfl) (own_eq (c 19)) (hk 21 _ _ rfl) (by rfl) T.z_isinstance (pv 0)) pa_enil)) (by show 2 ≤ sizeLine; decide)) (by show 22 ≤ sizeLine; decide)))
      (pss_cons (ps_set (i := 1) scK.nd rfl (Or.inl rfl) (pe_ecat (ms := ([(bs.getD 0 false, "V"), (bs.getD 1 false, "L"), (bs.getD 2 false, "A"), (bs.getD 3 false, "BadValue"), (bs.getD 4 false, "BadName"), (bs.getD 5 false, "NoAnswer"), (bs.getD 6 false, "InvalidText"), (bs.getD 7 false, "InvalidFraction"), (bs.getD 8 false, "InvalidNumber"), (bs.getD 9 false, "InvalidScale"), (bs.getD 10 false, "InvalidTree"), (bs.getD 11 false, "InvalidCount"), (bs.getD 12 false, "InvalidWay"), (bs.getD 13 false, "InvalidName"), (bs.getD 14 false, "InvalidIndex"), (bs.getD 15 false, "InvalidClaim"), (bs.getD 16 false, "NotAShape"), (bs.getD 17 false, "InvalidEquation"), (bs.getD 18 false, "InvalidCutting"), (bs.getD 19 false, "UnknownName"), (bs.getD 20 false, "InUse"), (bs.getD 21 false, "NoRoot")] : List KM)) (cnE a C fs) stK (i := 1) (pv 1) (pe_elst stK (pa_econs (cnE a C fs) stK (pe_ent O (pe_glob (v := .ref (c 20)) (by rfl) T.m20.at_ rfl) (own_eq (c 20)) (hk 22 _ _ rfl) (by rfl) T.z_isinstance (pv 0)) (pa_econs (cnE a C fs) stK (pe_ent O (pe_glob (v := .ref (c 21)) (by rfl) T.m21.at_ rfl) (own_eq (c 21)) (hk 23 _ _ rfl) (by rfl) T.z_isinstance (pv 0)) pa_enil)) (by show 2 ≤ sizeLine; decide)) (by show 24 ≤ sizeLine; decide)))
      (pss_cons (ps_set (i := 1) scK.nd rfl (Or.inl rfl) (pe_ecat (ms := ([(bs.getD 0 false, "V"), (bs.getD 1 false, "L"), (bs.getD 2 false, "A"), (bs.getD 3 false, "BadValue"), (bs.getD 4 false, "BadName"), (bs.getD 5 false, "NoAnswer"), (bs.getD 6 false, "InvalidText"), (bs.getD 7 false, "InvalidFraction"), (bs.getD 8 false, "InvalidNumber"), (bs.getD 9 false, "InvalidScale"), (bs.getD 10 false, "InvalidTree"), (bs.getD 11 false, "InvalidCount"), (bs.getD 12 false, "InvalidWay"), (bs.getD 13 false, "InvalidName"), (bs.getD 14 false, "InvalidIndex"), (bs.getD 15 false, "InvalidClaim"), (bs.getD 16 false, "NotAShape"), (bs.getD 17 false, "InvalidEquation"), (bs.getD 18 false, "InvalidCutting"), (bs.getD 19 false, "UnknownName"), (bs.getD 20 false, "InUse"), (bs.getD 21 false, "NoRoot"), (bs.getD 22 false, "NoQuotient"), (bs.getD 23 false, "NotPositive")] : List KM)) (cnE a C fs) stK (i := 1) (pv 1) (pe_elst stK (pa_econs (cnE a C fs) stK (pe_ent O (pe_glob (v := .ref (c 22)) (by rfl) T.m22.at_ rfl) (own_eq (c 22)) (hk 24 _ _ rfl) (by rfl) T.z_isinstance (pv 0)) (pa_econs (cnE a C fs) stK (pe_ent O (pe_glob (v := .ref (c 23)) (by rfl) T.m23.at_ rfl) (own_eq (c 23)) (hk 25 _ _ rfl) (by rfl) T.z_isinstance (pv 0)) pa_enil)) (by show 2 ≤ sizeLine; decide)) (by show 26 ≤ sizeLine; decide)))
      (pss_cons (ps_set (i := 1) scK.nd rfl (Or.inl rfl) (pe_ecat (ms := ([(bs.getD 0 false, "V"), (bs.getD 1 false, "L"), (bs.getD 2 false, "A"), (bs.getD 3 false, "BadValue"), (bs.getD 4 false, "BadName"), (bs.getD 5 false, "NoAnswer"), (bs.getD 6 false, "InvalidText"), (bs.getD 7 false, "InvalidFraction"), (bs.getD 8 false, "InvalidNumber"), (bs.getD 9 false, "InvalidScale"), (bs.getD 10 false, "InvalidTree"), (bs.getD 11 false, "InvalidCount"), (bs.getD 12 false, "InvalidWay"), (bs.getD 13 false, "InvalidName"), (bs.getD 14 false, "InvalidIndex"), (bs.getD 15 false, "InvalidClaim"), (bs.getD 16 false, "NotAShape"), (bs.getD 17 false, "InvalidEquation"), (bs.getD 18 false, "InvalidCutting"), (bs.getD 19 false, "UnknownName"), (bs.getD 20 false, "InUse"), (bs.getD 21 false, "NoRoot"), (bs.getD 22 false, "NoQuotient"), (bs.getD 23 false, "NotPositive"), (bs.getD 24 false, "NotFilled"), (bs.getD 25 false, "TooMany")] : List KM)) (cnE a C fs) stK (i := 1) (pv 1) (pe_elst stK (pa_econs (cnE a C fs) stK (pe_ent O (pe_glob (v := .ref (c 24)) (by rfl) T.m24.at_ rfl) (own_eq (c 24)) (hk 26 _ _ rfl) (by rfl) T.z_isinstance (pv 0)) (pa_econs (cnE a C fs) stK (pe_ent O (pe_glob (v := .ref (c 25)) (by rfl) T.m25.at_ rfl) (own_eq (c 25)) (hk 27 _ _ rfl) (by rfl) T.z_isinstance (pv 0)) pa_enil)) (by show 2 ≤ sizeLine; decide)) (by show 28 ≤ sizeLine; decide)))
      (pss_cons (ps_set (i := 1) scK.nd rfl (Or.inl rfl) (pe_ecat (ms := ([(bs.getD 0 false, "V"), (bs.getD 1 false, "L"), (bs.getD 2 false, "A"), (bs.getD 3 false, "BadValue"), (bs.getD 4 false, "BadName"), (bs.getD 5 false, "NoAnswer"), (bs.getD 6 false, "InvalidText"), (bs.getD 7 false, "InvalidFraction"), (bs.getD 8 false, "InvalidNumber"), (bs.getD 9 false, "InvalidScale"), (bs.getD 10 false, "InvalidTree"), (bs.getD 11 false, "InvalidCount"), (bs.getD 12 false, "InvalidWay"), (bs.getD 13 false, "InvalidName"), (bs.getD 14 false, "InvalidIndex"), (bs.getD 15 false, "InvalidClaim"), (bs.getD 16 false, "NotAShape"), (bs.getD 17 false, "InvalidEquation"), (bs.getD 18 false, "InvalidCutting"), (bs.getD 19 false, "UnknownName"), (bs.getD 20 false, "InUse"), (bs.getD 21 false, "NoRoot"), (bs.getD 22 false, "NoQuotient"), (bs.getD 23 false, "NotPositive"), (bs.getD 24 false, "NotFilled"), (bs.getD 25 false, "TooMany"), (bs.getD 26 false, "Outside"), (bs.getD 27 false, "Overlaps")] : List KM)) (cnE a C fs) stK (i := 1) (pv 1) (pe_elst stK (pa_econs (cnE a C fs) stK (pe_ent O (pe_glob (v := .ref (c 26)) (by rfl) T.m26.at_ rfl) (own_eq (c 26)) (hk 28 _ _ rfl) (by rfl) T.z_isinstance (pv 0)) (pa_econs (cnE a C fs) stK (pe_ent O (pe_glob (v := .ref (c 27)) (by rfl) T.m27.at_ rfl) (own_eq (c 27)) (hk 29 _ _ rfl) (by rfl) T.z_isinstance (pv 0)) pa_enil)) (by show 2 ≤ sizeLine; decide)) (by show 30 ≤ sizeLine; decide)))
      (pss_one (ps_ret (pe_bm PySem.F.plainAttrs_str PySem.F.slot_str_join PySem.F.type_str_join mt_join pe_str (pa_cons
        (pe_lc (own := [("_law_entry", 2)]) (g := gName 2) (tt := tB (tOp (rIxL K) (tVar 2) (tC (.int 0)))) (te := tOp (rIxL K) (tVar 2) (tC (.int 1))) rfl scK.nd (pi_list (pv 1)) (blkOk_by (N := ["_law_e", "_law_found", "_law_entry"]) (sc := defScope sKin) (by decide +kernel))
          (fun _ _ _ _ _ => pg_name (i := 2) scK.nd rfl (Or.inl rfl)) (fun _ _ _ _ _ => pts_one (pt_val (pe_ix ix_list (pv 2) pe_int (fun _ _ => rfl))))
          (fun _ _ _ _ _ => pe_ix ix_list (pv 2) pe_int (fun _ _ => rfl))) pa_nil))))))))))))))))))), ?_⟩
    rw [st3]
    refine ⟨⟨rfl, hex⟩, fun p1 H1 s1 e1 => ?_⟩
    simp only [gn, sub2]
    refine ⟨⟨p1, rfl, e1⟩, ⟨rfl, hex.same s1⟩, fun p2 H2 s2 e2 => ?_⟩
    simp only [gn, sub2]
    refine ⟨⟨p2, rfl, e2⟩, ⟨rfl, hex.same (s1.trans s2)⟩, fun p3 H3 s3 e3 => ?_⟩
    simp only [gn, sub2]
    refine ⟨⟨p3, rfl, e3⟩, ⟨rfl, hex.same ((s1.trans s2).trans s3)⟩, fun p4 H4 s4 e4 => ?_⟩
    simp only [gn, sub2]
    refine ⟨⟨p4, rfl, e4⟩, ⟨rfl, hex.same (((s1.trans s2).trans s3).trans s4)⟩, fun p5 H5 s5 e5 => ?_⟩
    simp only [gn, sub2]
    refine ⟨⟨p5, rfl, e5⟩, ⟨rfl, hex.same ((((s1.trans s2).trans s3).trans s4).trans s5)⟩, fun p6 H6 s6 e6 => ?_⟩
    simp only [gn, sub2]
    refine ⟨⟨p6, rfl, e6⟩, ⟨rfl, hex.same (((((s1.trans s2).trans s3).trans s4).trans s5).trans s6)⟩, fun p7 H7 s7 e7 => ?_⟩
    simp only [gn, sub2]
    refine ⟨⟨p7, rfl, e7⟩, ⟨rfl, hex.same ((((((s1.trans s2).trans s3).trans s4).trans s5).trans s6).trans s7)⟩, fun p8 H8 s8 e8 => ?_⟩
    simp only [gn, sub2]
    refine ⟨⟨p8, rfl, e8⟩, ⟨rfl, hex.same (((((((s1.trans s2).trans s3).trans s4).trans s5).trans s6).trans s7).trans s8)⟩, fun p9 H9 s9 e9 => ?_⟩
    simp only [gn, sub2]
    refine ⟨⟨p9, rfl, e9⟩, ⟨rfl, hex.same ((((((((s1.trans s2).trans s3).trans s4).trans s5).trans s6).trans s7).trans s8).trans s9)⟩, fun p10 H10 s10 e10 => ?_⟩
    simp only [gn, sub2]
    refine ⟨⟨p10, rfl, e10⟩, ⟨rfl, hex.same (((((((((s1.trans s2).trans s3).trans s4).trans s5).trans s6).trans s7).trans s8).trans s9).trans s10)⟩, fun p11 H11 s11 e11 => ?_⟩
    simp only [gn, sub2]
    refine ⟨⟨p11, rfl, e11⟩, ⟨rfl, hex.same ((((((((((s1.trans s2).trans s3).trans s4).trans s5).trans s6).trans s7).trans s8).trans s9).trans s10).trans s11)⟩, fun p12 H12 s12 e12 => ?_⟩
    simp only [gn, sub2]
    refine ⟨⟨p12, rfl, e12⟩, ⟨rfl, hex.same (((((((((((s1.trans s2).trans s3).trans s4).trans s5).trans s6).trans s7).trans s8).trans s9).trans s10).trans s11).trans s12)⟩, fun p13 H13 s13 e13 => ?_⟩
    simp only [gn, sub2]
    refine ⟨⟨p13, rfl, e13⟩, ⟨rfl, hex.same ((((((((((((s1.trans s2).trans s3).trans s4).trans s5).trans s6).trans s7).trans s8).trans s9).trans s10).trans s11).trans s12).trans s13)⟩, fun p14 H14 s14 e14 => ?_⟩
    simp only [gn, sub2]
    refine ⟨⟨p14, rfl, e14⟩, ⟨rfl, hex.same (((((((((((((s1.trans s2).trans s3).trans s4).trans s5).trans s6).trans s7).trans s8).trans s9).trans s10).trans s11).trans s12).trans s13).trans s14)⟩, fun p15 H15 s15 e15 => ?_⟩
    simp only [gn, sub2]
    refine ⟨⟨p15, rfl, e15⟩, ⟨rfl, hex.same ((((((((((((((s1.trans s2).trans s3).trans s4).trans s5).trans s6).trans s7).trans s8).trans s9).trans s10).trans s11).trans s12).trans s13).trans s14).trans s15)⟩, fun p16 H16 s16 e16 => ?_⟩
    simp only [gn, sub2]
    have eL : LstE ElK H16 p16 (marks bs) := e16
    have sA : Same H H16 := (((((((((((((((s1.trans s2).trans s3).trans s4).trans s5).trans s6).trans s7).trans s8).trans s9).trans s10).trans s11).trans s12).trans s13).trans s14).trans s15).trans s16)
    obtain ⟨xs, hl, hal⟩ := eL
    have hlen : xs.length = 30 := by rw [hal.len, marks_len]
    refine ⟨rfl, _, rfl, p16, rfl, ⟨_, SqL.of hl⟩, fun D hD => ?_⟩
    have nD : p16 ≠ D := ne_of_none hl hD
    refine lc_list (xs := xs) (fun i H' => H' = upd H16 D (.lst (doneV (marks bs) i))) rfl (fun i H' _ e => ?_) (fun i x H' hx e => ?_) (fun H' e => ?_)
    · rw [e]
      exact SqL.of (by rw [upd_ne nD]; exact hl)
    · subst e
      obtain ⟨m, hm, t, rfl, ht⟩ := hal.get hx
      have nt : t ≠ D := ne_of_none ht hD
      have ht' : upd H16 D (.lst (doneV (marks bs) i)) t = some (.lst [.bl m.1, .str m.2]) := by rw [upd_ne nt]; exact ht
      refine ⟨rfl, ?_⟩
      refine ⟨_, rfl, t, _, 0, .bl m.1, rfl, rfl, SqL.of ht', atI_nat (j := 0) rfl, m.1, rfl, ?_⟩
      refine ite2 (fun hb => ?_) (fun hb => ?_)
      · refine ⟨_, rfl, t, _, 1, .str m.2, rfl, rfl, SqL.of ht', atI_nat (j := 1) rfl, _, upd_same, ?_, ?_⟩
        · exact Nat.lt_of_le_of_lt (doneV_len _ _) (by rw [marks_len]; decide)
        · rw [upd_upd, doneV_succ hm, if_pos hb]
      · rw [doneV_succ hm, if_neg hb]
    · subst e
      rw [hlen]
      refine ⟨_, D, ((marks bs).filter (·.1)).map (·.2), rfl, rfl, .inl (SqL.of ?_), ?_, ?_⟩
      · rw [upd_same]
        unfold doneV
        rw [← marks_len bs, List.take_length, List.map_map]
        rfl
      · have q := fsum (marks bs) (marks_short bs)
        rw [marks_len] at q
        refine Nat.le_trans (Nat.le_trans ?_ q) (by decide)
        show _ + _ * 1 ≤ _
        rw [Nat.mul_one]
        exact Nat.le_refl _
      · exact k _ (sA.trans (same_new hD))
end
end Xk

/-! What is told of an error. -/
namespace Xk
open PySem PySem.Spec PyProof.Rows L2
def words11 : List Str := ["InvalidText", "InvalidFraction", "InvalidNumber", "InvalidScale", "InvalidTree", "InvalidCount", "InvalidWay", "InvalidName", "InvalidIndex", "InvalidClaim", "NotAShape"]
def words2 : List Str := ["InvalidEquation", "InvalidCutting"]
def words6 : List Str := ["NoRoot", "NoQuotient", "NotPositive", "NotFilled", "Outside", "NothingToUndo"]
inductive TK where
  | g1 (attr wd : Str) | g0 (wd : Str) | g2 | odd
def tal (kin : Str) : TK :=
  match words11.find? (fun w => decide (kin = "V BadValue " ++ w)) with
  | some w => .g1 "given" w
  | none => match words2.find? (fun w => decide (kin = "V BadValue " ++ w)) with
    | some w => .g1 "index" w
    | none => match words6.find? (fun w => decide (kin = "A NoAnswer " ++ w)) with
      | some w => .g0 w
      | none => if kin = "L BadName UnknownName" then .g1 "given" "UnknownName"
        else if kin = "L BadName InUse" then .g1 "index" "InUse"
        else if kin = "A NoAnswer Overlaps" then .g1 "index" "Overlaps"
        else if kin = "A NoAnswer TooMany" then .g1 "limit" "TooMany"
        else if kin = "A NoAnswer Broken" then .g2 else .odd
def TalP (K : PySem.W.Frag) (H : Hp) (C : Addr) (fs : List (Str × V)) (Q : VK) : TK → Prop
  | .g1 attr wd => ∃ v, PySem.W.findIn K (.ref C) attr = some none ∧ fs.lookup attr = some v ∧ ∀ t H', Same H H' → H' t = some (.tup [.str wd, v]) → Q (.ref t) H'
  | .g0 wd => ∀ t H', Same H H' → H' t = some (.tup [.str wd, .str ""]) → Q (.ref t) H'
  | .g2 => ∃ v u, PySem.W.findIn K (.ref C) "index" = some none ∧ PySem.W.findIn K (.ref C) "shown" = some none ∧ fs.lookup ("index" : Str) = some v ∧ fs.lookup ("shown" : Str) = some u ∧
      ∀ t t2 H', Same H H' → H' t = some (.tup [.str "Broken", .ref t2]) → H' t2 = some (.tup [v, u]) → Q (.ref t) H'
  | .odd => False
def spTale (K : PySem.W.Frag) (c : Nat → Addr) : Sp := fun vs H Q _ => ∃ (a C Bc : Addr) (fs : List (Str × V)) (newId : String) (tl : List Value) (bs : List Bool),
  vs = [.ref a] ∧ ExAt H a C fs ∧ OxC K C Bc newId tl ∧ KinOk K c C bs ∧ TalP K H C fs Q (tal (kinOf bs))
theorem find_hit {α : Type} {p : α → Bool} : ∀ {l : List α} {i : Nat} {x : α}, l[i]? = some x → p x = true → (∀ j y, j < i → l[j]? = some y → p y = false) → l.find? p = some x
  | [], i, x, h, _, _ => by simp at h
  | y :: l, 0, x, h, hp, _ => by
    simp at h
    subst h
    rw [List.find?_cons, hp]
  | y :: l, i + 1, x, h, hp, hn => by
    have h0 := hn 0 y (Nat.succ_pos i) rfl
    rw [List.find?_cons, h0]
    exact find_hit (l := l) (i := i) (by simpa using h) hp fun j z hj hz => hn (j + 1) z (Nat.succ_lt_succ hj) (by simpa using hz)
theorem find_no {α : Type} {p : α → Bool} {l : List α} (h : ∀ j y, j < l.length → l[j]? = some y → p y = false) : l.find? p = none := by
  rw [List.find?_eq_none]
  intro x hx
  obtain ⟨j, hj, e⟩ := List.getElem_of_mem hx
  rw [h j x hj (by rw [List.getElem?_eq_getElem hj, e])]
  exact Bool.false_ne_true
theorem map_at {l : List Str} {i : Nat} {x : V} (h : (l.map V.str)[i]? = some x) : ∃ w, l[i]? = some w ∧ x = .str w := by
  rw [List.getElem?_map] at h
  cases e : l[i]? with
  | none => rw [e] at h; cases h
  | some w => rw [e] at h; exact ⟨w, rfl, (Option.some.inj h).symm⟩
theorem len_words11 : ∀ w ∈ words11, ("V BadValue " : Str).length + w.length ≤ sizeLine := by decide +kernel
theorem len_words2 : ∀ w ∈ words2, ("V BadValue " : Str).length + w.length ≤ sizeLine := by decide +kernel
theorem len_words6 : ∀ w ∈ words6, ("A NoAnswer " : Str).length + w.length ≤ sizeLine := by decide +kernel
abbrev sTale : Stmt := top 39
theorem scT : FnScope ["_law_e", "_law_kin_here", "_law_word"] ["_law_e"] (defScope sTale) := ⟨rfl, rfl, rfl, by decide +kernel, rfl, by decide +kernel, by decide +kernel⟩
section
variable {P : Program} {w : World} {K : PySem.W.Frag} {mg : Str → Option Value} {base : Heap} {c : Nat → Addr} {f fK : Addr} {fd fdK : FuncData}
theorem ok_tale (F : Fun K "_law_tale" "_law_tale" sTale f fd) (T : Tx P w K mg base c) (FK : FnOk P w K mg base CX0 1 fK fdK ["_law_e"] (spKin K c)) (bK : Binds K fdK ["_law_e"] [])
    (mK : mg "_law_kin" = some (.ref fK)) (kK : PySem.W.keepIn K (.ref fK) = true) : FnOk P w K mg base CX0 2 f fd ["_law_e"] (spTale K c) := by
  refine F.ok scT (fun vs H Q E h => ?_) (fun cdv A outer s H vs Q E hr h => ?_)
  · obtain ⟨a, C, Bc, fs, newId, tl, bs, rfl, _⟩ := h
    rfl
  · obtain ⟨a, C, Bc, fs, newId, tl, bs, rfl, hex, O, hk, hT⟩ := h
    refine ⟨_, pss_cons (ps_set (i := 1) scT.nd rfl (Or.inl rfl) (pe_call FK hr (by rfl) mK kK bK .nil pass0 (pa_cons (pv 0) pa_nil)))
      (pss_cons (ps_for PassesOwn.never rfl (pi_list (pe_lst (pa_cons pe_str (pa_cons pe_str (pa_cons pe_str (pa_cons pe_str (pa_cons pe_str (pa_cons pe_str (pa_cons pe_str (pa_cons pe_str (pa_cons pe_str (pa_cons pe_str (pa_cons pe_str pa_nil))))))))))))) (pg_name (i := 2) scT.nd rfl (Or.inl rfl))
        (pss_one (ps_if (pt_cmpR op_eq (pv 1) (pe_op op_add_str pe_str (pv 2)) (nomark _)) (pss_one (ps_ret (pe_tup (pa_cons (pv 2) (pa_cons (pe_oat (pv 0)) pa_nil))))) pss_nil)))
      (pss_cons (ps_for PassesOwn.never rfl (pi_list (pe_lst (pa_cons pe_str (pa_cons pe_str pa_nil)))) (pg_name (i := 2) scT.nd rfl (Or.inl rfl))
        (pss_one (ps_if (pt_cmpR op_eq (pv 1) (pe_op op_add_str pe_str (pv 2)) (nomark _)) (pss_one (ps_ret (pe_tup (pa_cons (pv 2) (pa_cons (pe_oat (pv 0)) pa_nil))))) pss_nil)))
      (pss_cons (ps_for PassesOwn.never rfl (pi_list (pe_lst (pa_cons pe_str (pa_cons pe_str (pa_cons pe_str (pa_cons pe_str (pa_cons pe_str (pa_cons pe_str pa_nil)))))))) (pg_name (i := 2) scT.nd rfl (Or.inl rfl))
        (pss_one (ps_if (pt_cmpR op_eq (pv 1) (pe_op op_add_str pe_str (pv 2)) (nomark _)) (pss_one (ps_ret (pe_tup (pa_cons (pv 2) (pa_cons pe_str pa_nil))))) pss_nil)))
      (pss_cons (ps_if (pt_cmpR op_eq (pv 1) pe_str (nomark _)) (pss_one (ps_ret (pe_tup (pa_cons pe_str (pa_cons (pe_oat (pv 0)) pa_nil))))) pss_nil)
      (pss_cons (ps_if (pt_cmpR op_in_seq (pv 1) (pe_lst (pa_cons pe_str (pa_cons pe_str pa_nil))) rfl) (pss_one (ps_ret (pe_tup (pa_cons (pe_ix ix_list (pe_lst (pa_cons pe_str (pa_cons pe_str pa_nil)))
          (pe_callTy call_int1 (by rfl) T.z_int (by decide +kernel) (pa_cons (pe_cmpR op_eq (pe_ix ix_str (pv 1) pe_int (fun _ _ => rfl)) pe_str (nomark _)) pa_nil)) (fun _ _ => rfl)) (pa_cons (pe_oat (pv 0)) pa_nil))))) pss_nil)
      (pss_cons (ps_if (pt_cmpR op_eq (pv 1) pe_str (nomark _)) (pss_one (ps_ret (pe_tup (pa_cons pe_str (pa_cons (pe_oat (pv 0)) pa_nil))))) pss_nil)
      (pss_one (ps_ret (pe_ifExp (pt_cmpR op_eq (pv 1) pe_str (nomark _)) (pe_tup (pa_cons pe_str (pa_cons (pe_tup (pa_cons (pe_oat (pv 0)) (pa_cons (pe_oat (pv 0)) pa_nil))) pa_nil)))
        (pe_tup (pa_cons pe_str (pa_cons (pv 1) pa_nil)))))))))))), ?_⟩
    rw [st3]
    refine ⟨_, rfl, a, C, Bc, fs, newId, tl, bs, rfl, hex, O, hk, fun H1 s1 => ?_⟩
    simp only [gn, sub2]
    generalize kinOf bs = kin at hT ⊢
    -- loop 1
    refine ⟨(by show 11 ≤ sizeLine; decide), fun l1 hl1 => ?_⟩
    have t1 : Same H (upd H1 l1 (.lst (words11.map V.str))) := s1.trans (same_new hl1)
    refine ⟨l1, rfl, ⟨_, SqL.of upd_same⟩, for_list (K := K) (a := l1) (xs := words11.map V.str) (fun i σ H' => H' = (upd H1 l1 (.lst (words11.map V.str))) ∧
      (∃ z, σ = [some (.ref a), some (.str kin), z]) ∧ ∀ j y, j < i → words11[j]? = some y → decide (kin = "V BadValue " ++ y) = false)
      ⟨rfl, ⟨_, rfl⟩, fun j y hj => absurd hj (Nat.not_lt_zero _)⟩ (fun i σ H' _ e => by rw [e.1]; exact SqL.of upd_same) ?_ ?_⟩
    · rintro i x σ H' hx ⟨rfl, ⟨z, rfl⟩, hno⟩
      obtain ⟨wd, hw, rfl⟩ := map_at hx
      refine ⟨_, rfl, _, rfl, _, _, rfl, rfl, len_words11 wd (List.mem_of_getElem? hw), rfl, _, rfl, ?_⟩
      refine ite2 (fun hb => ?_) (fun hb => ?_)
      · have e : kin = "V BadValue " ++ wd := V.str.inj (of_decide_eq_true hb)
        have hf : words11.find? (fun w => decide (kin = "V BadValue " ++ w)) = some wd := find_hit hw (decide_eq_true e) fun j y hj hy => hno j y hj hy
        have ht : tal kin = .g1 "given" wd := by unfold tal; rw [hf]
        rw [ht] at hT
        obtain ⟨v, h1, h2, h3⟩ := hT
        refine ⟨_, rfl, _, rfl, a, C, fs, v, Bc, newId, tl, rfl, hex.same t1, O, h1, h2, (by show 2 ≤ sizeLine; decide), fun t ht => ?_⟩
        exact h3 t _ (t1.trans (same_new ht)) upd_same
      · refine ⟨rfl, ⟨_, rfl⟩, fun j y hj hy => ?_⟩
        by_cases q : j = i
        · subst q
          rw [hw] at hy
          cases hy
          refine decide_eq_false fun e => hb ?_
          rw [e]
          exact decide_eq_true rfl
        · exact hno j y (by omega) hy
    rintro σ H' ⟨rfl, ⟨z1, rfl⟩, hno1⟩
    have f1 : words11.find? (fun w => decide (kin = "V BadValue " ++ w)) = none := find_no fun j y hj hy => hno1 j y (by rw [List.length_map]; exact hj) hy
    -- loop 2
    refine ⟨(by show 2 ≤ sizeLine; decide), fun l2 hl2 => ?_⟩
    have t2 : Same H (upd (upd H1 l1 (.lst (words11.map V.str))) l2 (.lst (words2.map V.str))) := t1.trans (same_new hl2)
    refine ⟨l2, rfl, ⟨_, SqL.of upd_same⟩, for_list (K := K) (a := l2) (xs := words2.map V.str) (fun i σ H' => H' = (upd (upd H1 l1 (.lst (words11.map V.str))) l2 (.lst (words2.map V.str))) ∧
      (∃ z, σ = [some (.ref a), some (.str kin), z]) ∧ ∀ j y, j < i → words2[j]? = some y → decide (kin = "V BadValue " ++ y) = false)
      ⟨rfl, ⟨_, rfl⟩, fun j y hj => absurd hj (Nat.not_lt_zero _)⟩ (fun i σ H' _ e => by rw [e.1]; exact SqL.of upd_same) ?_ ?_⟩
    · rintro i x σ H' hx ⟨rfl, ⟨z, rfl⟩, hno⟩
      obtain ⟨wd, hw, rfl⟩ := map_at hx
      refine ⟨_, rfl, _, rfl, _, _, rfl, rfl, len_words2 wd (List.mem_of_getElem? hw), rfl, _, rfl, ?_⟩
      refine ite2 (fun hb => ?_) (fun hb => ?_)
      · have e : kin = "V BadValue " ++ wd := V.str.inj (of_decide_eq_true hb)
        have hf : words2.find? (fun w => decide (kin = "V BadValue " ++ w)) = some wd := find_hit hw (decide_eq_true e) fun j y hj hy => hno j y hj hy
        have ht : tal kin = .g1 "index" wd := by unfold tal; rw [f1, hf]
        rw [ht] at hT
        obtain ⟨v, h1, h2, h3⟩ := hT
        refine ⟨_, rfl, _, rfl, a, C, fs, v, Bc, newId, tl, rfl, hex.same t2, O, h1, h2, (by show 2 ≤ sizeLine; decide), fun t ht => ?_⟩
        exact h3 t _ (t2.trans (same_new ht)) upd_same
      · refine ⟨rfl, ⟨_, rfl⟩, fun j y hj hy => ?_⟩
        by_cases q : j = i
        · subst q
          rw [hw] at hy
          cases hy
          refine decide_eq_false fun e => hb ?_
          rw [e]
          exact decide_eq_true rfl
        · exact hno j y (by omega) hy
    rintro σ H' ⟨rfl, ⟨z2, rfl⟩, hno2⟩
    have f2 : words2.find? (fun w => decide (kin = "V BadValue " ++ w)) = none := find_no fun j y hj hy => hno2 j y (by rw [List.length_map]; exact hj) hy
    -- loop 3
    refine ⟨(by show 6 ≤ sizeLine; decide), fun l3 hl3 => ?_⟩
    have t3 : Same H (upd (upd (upd H1 l1 (.lst (words11.map V.str))) l2 (.lst (words2.map V.str))) l3 (.lst (words6.map V.str))) := t2.trans (same_new hl3)
    refine ⟨l3, rfl, ⟨_, SqL.of upd_same⟩, for_list (K := K) (a := l3) (xs := words6.map V.str) (fun i σ H' => H' = (upd (upd (upd H1 l1 (.lst (words11.map V.str))) l2 (.lst (words2.map V.str))) l3 (.lst (words6.map V.str))) ∧
      (∃ z, σ = [some (.ref a), some (.str kin), z]) ∧ ∀ j y, j < i → words6[j]? = some y → decide (kin = "A NoAnswer " ++ y) = false)
      ⟨rfl, ⟨_, rfl⟩, fun j y hj => absurd hj (Nat.not_lt_zero _)⟩ (fun i σ H' _ e => by rw [e.1]; exact SqL.of upd_same) ?_ ?_⟩
    · rintro i x σ H' hx ⟨rfl, ⟨z, rfl⟩, hno⟩
      obtain ⟨wd, hw, rfl⟩ := map_at hx
      refine ⟨_, rfl, _, rfl, _, _, rfl, rfl, len_words6 wd (List.mem_of_getElem? hw), rfl, _, rfl, ?_⟩
      refine ite2 (fun hb => ?_) (fun hb => ?_)
      · have e : kin = "A NoAnswer " ++ wd := V.str.inj (of_decide_eq_true hb)
        have hf : words6.find? (fun w => decide (kin = "A NoAnswer " ++ w)) = some wd := find_hit hw (decide_eq_true e) fun j y hj hy => hno j y hj hy
        have ht : tal kin = .g0 wd := by unfold tal; rw [f1, f2, hf]
        rw [ht] at hT
        refine ⟨_, rfl, (by show 2 ≤ sizeLine; decide), fun t ht => ?_⟩
        exact hT t _ (t3.trans (same_new ht)) upd_same
      · refine ⟨rfl, ⟨_, rfl⟩, fun j y hj hy => ?_⟩
        by_cases q : j = i
        · subst q
          rw [hw] at hy
          cases hy
          refine decide_eq_false fun e => hb ?_
          rw [e]
          exact decide_eq_true rfl
        · exact hno j y (by omega) hy
    rintro σ H' ⟨rfl, ⟨z3, rfl⟩, hno3⟩
    have f3 : words6.find? (fun w => decide (kin = "A NoAnswer " ++ w)) = none := find_no fun j y hj hy => hno3 j y (by rw [List.length_map]; exact hj) hy
    -- one by one
    have fin0 : tal kin = if kin = "L BadName UnknownName" then .g1 "given" "UnknownName"
        else if kin = "L BadName InUse" then .g1 "index" "InUse"
        else if kin = "A NoAnswer Overlaps" then .g1 "index" "Overlaps"
        else if kin = "A NoAnswer TooMany" then .g1 "limit" "TooMany"
        else if kin = "A NoAnswer Broken" then .g2 else .odd := by unfold tal; rw [f1, f2, f3]
    refine ⟨_, rfl, rfl, _, rfl, ?_⟩
    refine ite2 (fun hb => ?_) (fun hb => ?_)
    · have e : kin = "L BadName UnknownName" := V.str.inj (of_decide_eq_true hb)
      rw [fin0, if_pos e] at hT
      obtain ⟨v, h1, h2, h3⟩ := hT
      refine ⟨_, rfl, a, C, fs, v, Bc, newId, tl, rfl, hex.same t3, O, h1, h2, (by show 2 ≤ sizeLine; decide), fun t ht => ?_⟩
      exact h3 t _ (t3.trans (same_new ht)) upd_same
    have n1 : ¬ kin = "L BadName UnknownName" := fun e => hb (by rw [e]; exact decide_eq_true rfl)
    rw [if_neg n1] at fin0
    refine ⟨_, rfl, (by show 2 ≤ sizeLine; decide), fun l4 hl4 => ?_⟩
    have t4 := t3.trans (same_new (o := .lst [V.str "L BadName InUse", V.str "A NoAnswer Overlaps"]) hl4)
    refine ⟨l4, _, rfl, .inl (SqL.of upd_same), rfl, rfl, _, rfl, ?_⟩
    refine ite2 (fun hb => ?_) (fun hb => ?_)
    · have e : kin = "L BadName InUse" ∨ kin = "A NoAnswer Overlaps" := by
        have hb2 : (("L BadName InUse" : Str) == kin || (("A NoAnswer Overlaps" : Str) == kin || false)) = true := hb
        rw [Bool.or_false, Bool.or_eq_true, beq_iff_eq, beq_iff_eq] at hb2
        exact hb2.imp Eq.symm Eq.symm
      rcases e with e | e
      · subst e
        rw [fin0, if_pos rfl] at hT
        obtain ⟨v, h1, h2, h3⟩ := hT
        refine ⟨(by show 2 ≤ sizeLine; decide), fun l5 hl5 => ?_⟩
        have t5 := t4.trans (same_new (o := .lst [V.str "InUse", V.str "Overlaps"]) hl5)
        refine ⟨_, rfl, ("L BadName InUse" : Str), 0, 76, rfl, rfl, by decide +kernel, by decide +kernel, rfl, ?_⟩
        refine .inr ⟨false, rfl, l5, _, 0, .str "InUse", rfl, rfl, SqL.of upd_same, atI_nat (j := 0) rfl, ?_⟩
        refine ⟨_, rfl, a, C, fs, v, Bc, newId, tl, rfl, hex.same t5, O, h1, h2, (by show 2 ≤ sizeLine; decide), fun t ht => ?_⟩
        exact h3 t _ (t5.trans (same_new ht)) upd_same
      · subst e
        rw [fin0, if_neg (by decide +kernel), if_pos rfl] at hT
        obtain ⟨v, h1, h2, h3⟩ := hT
        refine ⟨(by show 2 ≤ sizeLine; decide), fun l5 hl5 => ?_⟩
        have t5 := t4.trans (same_new (o := .lst [V.str "InUse", V.str "Overlaps"]) hl5)
        refine ⟨_, rfl, ("A NoAnswer Overlaps" : Str), 0, 65, rfl, rfl, by decide +kernel, by decide +kernel, rfl, ?_⟩
        refine .inr ⟨true, rfl, l5, _, 1, .str "Overlaps", rfl, rfl, SqL.of upd_same, atI_nat (j := 1) rfl, ?_⟩
        refine ⟨_, rfl, a, C, fs, v, Bc, newId, tl, rfl, hex.same t5, O, h1, h2, (by show 2 ≤ sizeLine; decide), fun t ht => ?_⟩
        exact h3 t _ (t5.trans (same_new ht)) upd_same
    have n2 : ¬ kin = "L BadName InUse" := fun e => hb (by rw [e]; decide +kernel)
    have n3 : ¬ kin = "A NoAnswer Overlaps" := fun e => hb (by rw [e]; decide +kernel)
    rw [if_neg n2, if_neg n3] at fin0
    refine ⟨_, rfl, rfl, _, rfl, ?_⟩
    refine ite2 (fun hb => ?_) (fun hb => ?_)
    · have e : kin = "A NoAnswer TooMany" := V.str.inj (of_decide_eq_true hb)
      rw [fin0, if_pos e] at hT
      obtain ⟨v, h1, h2, h3⟩ := hT
      refine ⟨_, rfl, a, C, fs, v, Bc, newId, tl, rfl, hex.same t4, O, h1, h2, (by show 2 ≤ sizeLine; decide), fun t ht => ?_⟩
      exact h3 t _ (t4.trans (same_new ht)) upd_same
    have n4 : ¬ kin = "A NoAnswer TooMany" := fun e => hb (by rw [e]; exact decide_eq_true rfl)
    rw [if_neg n4] at fin0
    refine ⟨_, rfl, rfl, _, rfl, ?_⟩
    refine ite2 (fun hb => ?_) (fun hb => ?_)
    · have e : kin = "A NoAnswer Broken" := V.str.inj (of_decide_eq_true hb)
      rw [fin0, if_pos e] at hT
      obtain ⟨v, u, g1, g2, h1, h2, h3⟩ := hT
      refine ⟨_, rfl, a, C, fs, v, Bc, newId, tl, rfl, hex.same t4, O, g1, h1, _, rfl, a, C, fs, u, Bc, newId, tl, rfl, hex.same t4, O, g2, h2, (by show 2 ≤ sizeLine; decide), fun t2 ht2 => ?_⟩
      have t5 := t4.trans (same_new (o := .tup [v, u]) ht2)
      refine ⟨(by show 2 ≤ sizeLine; decide), fun t ht => ?_⟩
      exact h3 t t2 _ (t5.trans (same_new ht)) upd_same (by rw [upd_ne (ne_of_none (upd_same) ht)]; exact upd_same)
    · have e : ¬ kin = "A NoAnswer Broken" := fun e => hb (by rw [e]; exact decide_eq_true rfl)
      rw [fin0, if_neg e] at hT
      exact hT.elim
end
end Xk

/-! What is drawn. -/
namespace Xk
open PySem PySem.Spec PyProof.Rows L2
/-- all but r stays -/
def SameX (r : Addr) (H H' : Hp) : Prop := ∀ b o, b ≠ r → H b = some o → H' b = some o
theorem SameX.of {r : Addr} {H H' : Hp} (k : Same H H') : SameX r H H' := fun b o _ e => k b o e
theorem SameX.trans {r : Addr} {H H1 H2 : Hp} (a : SameX r H H1) (b : SameX r H1 H2) : SameX r H H2 := fun c o n e => b c o n (a c o n e)
theorem SameX.put {r : Addr} {H : Hp} {o : HO} : SameX r H (upd H r o) := fun b u n e => by
  rw [upd_ne n]
  exact e
def noR (r : Addr) (H : Hp) : Hp := fun b => if b = r then none else H b
theorem noR_ne {r b : Addr} {H : Hp} (h : b ≠ r) : noR r H b = H b := if_neg h
theorem noR_same (r : Addr) (H : Hp) : Same (noR r H) H := fun b o e => by
  by_cases h : b = r
  · rw [h] at e
    have e2 : noR r H r = none := if_pos rfl
    rw [e2] at e
    cases e
  · rw [noR_ne h] at e
    exact e
theorem noR_mono {r : Addr} {H H' : Hp} (k : SameX r H H') : Same (noR r H) (noR r H') := fun b o e => by
  have h : b ≠ r := fun q => by
    rw [q] at e
    have e2 : noR r H r = none := if_pos rfl
    rw [e2] at e
    cases e
  rw [noR_ne h] at e ⊢
  exact k b o h e
def rk (a b c : Int) : HO := .lst [.int a, .int b, .int c]
def things : List PyData := [.none, .bool true, .bool false, .str "", .str "root", .int 0, .int (-1), .int (10 ^ 41), .tuple [], .tuple [.int 1], .tuple [.tuple [.int 1, .int 2]],
  .list [], .list [.int 1, .int 0], .dict [], .dict [(.int 1, .int 2)], .str "l"]
def ElD (r : Addr) : Hp → V → PyData → Prop := fun H x d => Sh (noR r H) x d
def CnR (r : Addr) : L2.St → Hp → Prop := fun σ H => σ[0]? = some (some (.ref r)) ∧ ∃ o, H r = some o
theorem stD (r : Addr) : Stay (ElD r) := fun H H' x d k h => Sh.same (noR_mono (SameX.of k)) d x h
theorem cnR (r : Addr) : StayC (CnR r) := fun σ H H' k h => ⟨h.1, let ⟨o, e⟩ := h.2; ⟨o, k _ _ e⟩⟩
section
variable {X : Cx} {r : Addr} {p1 p2 p3 pos : Pos} {j k : Nat}
theorem el_non {j} : PE X (.Constant .none j pos) (tEl (CnR r) (ElD r) .none) := pe_imp pe_non fun σ H Q q => q.2 _ H (Same.refl H) .non
theorem el_bl {b j} : PE X (.Constant (.bool b) j pos) (tEl (CnR r) (ElD r) (.bool b)) := pe_imp pe_bl fun σ H Q q => q.2 _ H (Same.refl H) (.bl b)
theorem el_str {x j} : PE X (.Constant (.str x) j pos) (tEl (CnR r) (ElD r) (.str x)) := pe_imp pe_str fun σ H Q q => q.2 _ H (Same.refl H) (.str x)
theorem el_int {i j} : PE X (.Constant (.int i) j pos) (tEl (CnR r) (ElD r) (.int i)) := pe_imp pe_int fun σ H Q q => q.2 _ H (Same.refl H) (.int i)
theorem el_neg {i j} : PE X (.UnaryOp .USub (.Constant (.int i) j p1) pos) (tEl (CnR r) (ElD r) (.int (-i))) :=
  pe_imp (pe_un un_neg pe_int) fun σ H Q q => ⟨i, rfl, q.2 _ H (Same.refl H) (.int _)⟩
theorem el_pow : PE X (.BinOp (.Constant (.int 10) j p1) .Pow (.Constant (.int 41) k p2) pos) (tEl (CnR r) (ElD r) (.int (10 ^ 41))) :=
  pe_imp (pe_op op_pow pe_int pe_int) fun σ H Q q => ⟨10, 41, rfl, rfl, ⟨by decide, by decide, by decide⟩, q.2 _ H (Same.refl H) (.int _)⟩
theorem ne_r {H : Hp} {p : Addr} (h : ∃ o, H r = some o) (hp : H p = none) : p ≠ r := fun e => by
  obtain ⟨o, q⟩ := h
  rw [← e, hp] at q
  cases q
theorem el_tup0 {kk} : PE X (.Tuple [] kk pos) (tEl (CnR r) (ElD r) (.tuple [])) :=
  pe_imp (pe_tup pa_nil) fun σ H Q q => ⟨Nat.zero_le _, fun p hp => q.2 _ _ (same_new hp) (.tup (by rw [noR_ne (ne_r q.1.2 hp)]; exact upd_same) .nil)⟩
theorem el_tup1 {i kk} : PE X (.Tuple [.Constant (.int i) j p1] kk pos) (tEl (CnR r) (ElD r) (.tuple [.int i])) :=
  pe_imp (pe_tup (pa_cons pe_int pa_nil)) fun σ H Q q => ⟨(by show 1 ≤ sizeLine; decide), fun p hp => q.2 _ _ (same_new hp) (.tup (by rw [noR_ne (ne_r q.1.2 hp)]; exact upd_same) (.cons (.int i) .nil))⟩
theorem el_tup2 {i i2 kk} : PE X (.Tuple [.Constant (.int i) j p1, .Constant (.int i2) k p2] kk pos) (tEl (CnR r) (ElD r) (.tuple [.int i, .int i2])) :=
  pe_imp (pe_tup (pa_cons pe_int (pa_cons pe_int pa_nil))) fun σ H Q q => ⟨(by show 2 ≤ sizeLine; decide), fun p hp =>
    q.2 _ _ (same_new hp) (.tup (by rw [noR_ne (ne_r q.1.2 hp)]; exact upd_same) (.cons (.int i) (.cons (.int i2) .nil)))⟩
theorem el_tupt {e : Expr} {d : PyData} {kk} (he : PE X e (tEl (CnR r) (ElD r) d)) (hst : starEach (e :: []) X.env = (false, eval e X.env) :: starEach [] X.env := by rfl) :
    PE X (.Tuple [e] kk pos) (tEl (CnR r) (ElD r) (.tuple [d])) :=
  pe_imp (pe_tup (pa_cons he pa_nil hst)) fun σ H Q q => ⟨q.1, fun x H1 k1 e1 => ⟨(by show 1 ≤ sizeLine; decide), fun p hp =>
    q.2 _ _ (k1.trans (same_new hp)) (.tup (by rw [noR_ne (ne_r (cnR r σ H H1 k1 q.1).2 hp)]; exact upd_same) (.cons (stD r _ _ _ _ (same_new hp) e1) .nil))⟩⟩
theorem el_lst0 : PE X (.List [] pos) (tEl (CnR r) (ElD r) (.list [])) :=
  pe_imp (pe_lstN pa_nil) fun σ H Q q => ⟨Nat.zero_le _, fun p hp n1 => q.2 _ _ (same_new hp) (.lst (by rw [noR_ne (ne_r q.1.2 hp)]; exact upd_same) n1 .nil)⟩
theorem el_lst2 {i i2} : PE X (.List [.Constant (.int i) j p1, .Constant (.int i2) k p2] pos) (tEl (CnR r) (ElD r) (.list [.int i, .int i2])) :=
  pe_imp (pe_lstN (pa_cons pe_int (pa_cons pe_int pa_nil))) fun σ H Q q => ⟨(by show 2 ≤ sizeLine; decide), fun p hp n1 =>
    q.2 _ _ (same_new hp) (.lst (by rw [noR_ne (ne_r q.1.2 hp)]; exact upd_same) n1 (.cons (.int i) (.cons (.int i2) .nil)))⟩
theorem el_dct0 : PE X (.Dict [] [] pos) (tEl (CnR r) (ElD r) (.dict [])) :=
  pe_imp pe_dnewK fun σ H Q q p hp => q.2 _ _ (same_new hp) (.dct (kvs := []) (by rw [noR_ne (ne_r q.1.2 hp)]; exact upd_same))
end
section
variable {X : Cx} {r : Addr} {p1 p2 pos : Pos}
theorem el_dct1 {j k : Nat} {a b : Int} : PE X (.Dict [some (.Constant (.int a) j p1)] [.Constant (.int b) k p2] pos) (tEl (CnR r) (ElD r) (.dict [(.int a, .int b)])) :=
  pe_imp (pe_disp (pps_cons pe_int pe_int pps_nil) rfl rfl (by intro e; cases e) (by show 1 ≤ 15; decide)) fun σ H Q q p hp =>
    ⟨upd_same, [(Sum.inl a, .int b)], rfl, (by show 1 ≤ 15; decide), q.2 _ _ (fun x o e => by rw [upd_upd, upd_ne (ne_of_none e hp)]; exact e) (.dct (kvs := [(a, b)]) (by rw [noR_ne (ne_r q.1.2 hp)]; exact upd_same))⟩
end
abbrev sRack : Stmt := top 36
abbrev sPick : Stmt := top 37
abbrev sOdd : Stmt := top 40
theorem scPk : FnScope ["_law_rack_here", "_law_many", "_law_figure"] ["_law_rack_here", "_law_many"] (defScope sPick) := ⟨rfl, rfl, rfl, by decide +kernel, rfl, by decide +kernel, by decide +kernel⟩
def spPick : Sp := fun vs H Q _ => ∃ (r : Addr) (a b c : Int), vs = [.ref r, .int 16] ∧ H r = some (rk a b c) ∧
  ∀ n a' b' c' H', 0 ≤ n → n < 16 → SameX r H H' → H' r = some (rk a' b' c') → Q (.int n) H'
section
variable {P : Program} {w : World} {K : PySem.W.Frag} {mg : Str → Option Value} {base : Heap} {c : Nat → Addr} {f fK : Addr} {fd fdK : FuncData}
theorem ok_pick (F : Fun K "_law_pick" "_law_pick" sPick f fd) (T : Tx P w K mg base c) : FnOk P w K mg base CX0 1 f fd ["_law_rack_here", "_law_many"] spPick := by
  refine F.ok scPk (fun vs H Q E h => ?_) (fun cdv A outer s H vs Q E hr h => ?_)
  · obtain ⟨r, a, b, c, rfl, _⟩ := h
    rfl
  · obtain ⟨r, a, b, c, rfl, hR, k⟩ := h
    have hR0 : H r = some (.lst [.int a, .int b, .int c]) := hR
    refine ⟨_, pss_cons (ps_if (pt_cmpR op_gt (pe_ix ix_list (pv 0) pe_int (fun _ _ => rfl)) pe_int (nomark _))
        (pss_cons (ps_asg (pe_callB call_divmod (by rfl) T.z_divmod PyProof.Rows.boot_divmod (pa_cons (pe_ix ix_list (pv 0) pe_int (fun _ _ => rfl)) (pa_cons (pv 1) pa_nil)))
            (pg_tup rfl (pgs_cons (pg_sub (pv 0) pe_int set_list (fun _ => rfl)) (pgs_cons (pg_name (i := 2) scPk.nd rfl (Or.inl rfl)) pgs_nil))))
          (pss_one (ps_ret (pv 2)))) pss_nil)
      (pss_cons (ps_asg (pe_op op_add (pe_ix ix_list (pv 0) pe_int (fun _ _ => rfl)) pe_int) (pg_sub (pv 0) pe_int set_list (fun _ => rfl)))
      (pss_cons (ps_asg (pe_op op_mod (pe_callTy call_int1 (by rfl) T.z_int (by decide +kernel) (pa_cons (pe_op op_add (pe_op op_add
            (pe_op op_mul (pe_ix ix_list (pv 0) pe_int (fun _ _ => rfl)) (pe_op op_add (pe_op op_mod (pe_callTy call_int1 (by rfl) T.z_int (by decide +kernel) (pa_cons (pe_op op_fdiv (pe_ix ix_list (pv 0) pe_int (fun _ _ => rfl)) pe_int) pa_nil)) pe_int) pe_int))
            (pe_op op_mul pe_int (pe_ix ix_list (pv 0) pe_int (fun _ _ => rfl)))) pe_int) pa_nil)) pe_int) (pg_sub (pv 0) pe_int set_list (fun _ => rfl)))
      (pss_one (ps_ret (pe_op op_mod (pe_callTy call_int1 (by rfl) T.z_int (by decide +kernel) (pa_cons (pe_op op_fdiv (pe_ix ix_list (pv 0) pe_int (fun _ _ => rfl)) pe_int) pa_nil)) (pv 1)))))), ?_⟩
    have e0 : L2.start ["_law_rack_here", "_law_many", "_law_figure"] [V.ref r, V.int 16] = [some (.ref r), some (.int 16), none] := rfl
    rw [e0]
    refine ⟨_, rfl, r, _, 0, .int a, rfl, rfl, SqL.of hR0, atI_nat (j := 0) rfl, _, _, rfl, rfl, _, rfl, ?_⟩
    refine ite2 (fun hb => ?_) (fun hb => ?_)
    · refine ⟨_, rfl, r, _, 0, .int a, rfl, rfl, SqL.of hR0, atI_nat (j := 0) rfl, _, rfl, _, _, rfl, ⟨by decide, by decide⟩, fun p hp => ?_⟩
      have nrp : r ≠ p := ne_of_none hR hp
      refine ⟨p, _, rfl, SqT.of upd_same, rfl, _, _, rfl, ?_⟩
      refine ⟨_, rfl, r, [.int a, .int b, .int c], 0, 0, rfl, rfl, (by rw [upd_ne nrp]; exact hR0), rfl, _, _, rfl, rfl, ?_⟩
      refine ⟨_, rfl, ?_⟩
      refine k (a % 16) _ _ _ _ (by omega) (by omega) (fun b o n e => ?_) upd_same
      rw [upd_ne n, upd_ne (ne_of_none e hp)]
      exact e
    · refine ⟨_, rfl, r, _, 2, .int c, rfl, rfl, SqL.of hR0, atI_nat (j := 2) rfl, _, _, rfl, rfl, ?_⟩
      refine ⟨_, rfl, r, [.int a, .int b, .int c], 2, 2, rfl, rfl, hR0, rfl, ?_⟩
      refine ⟨_, rfl, r, _, 1, .int b, rfl, rfl, SqL.of upd_same, atI_nat (j := 1) rfl, ?_⟩
      refine ⟨_, rfl, r, _, 1, .int b, rfl, rfl, SqL.of upd_same, atI_nat (j := 1) rfl, _, _, rfl, rfl, ⟨by decide, by decide⟩, .inl ⟨_, rfl, ?_⟩⟩
      refine ⟨_, _, rfl, rfl, (by show (0 : Int) < 30011; decide), _, _, rfl, rfl, _, _, rfl, rfl, .inr ⟨by omega, by omega⟩, ?_⟩
      refine ⟨_, rfl, r, _, 2, .int (c + 1), rfl, rfl, SqL.of upd_same, atI_nat (j := 2) rfl, _, _, rfl, rfl, .inl ⟨by decide, by decide⟩, ?_⟩
      refine ⟨_, _, rfl, rfl, _, _, rfl, rfl, .inl ⟨_, rfl, ?_⟩⟩
      refine ⟨_, _, rfl, rfl, (by show (0 : Int) < 2147483353; decide), ?_⟩
      refine ⟨_, rfl, r, [.int a, .int b, .int (c + 1)], 1, 1, rfl, rfl, upd_same, rfl, ?_⟩
      refine ⟨_, rfl, r, _, 1, _, rfl, rfl, SqL.of upd_same, atI_nat (j := 1) rfl, ?_⟩
      refine ⟨_, _, rfl, rfl, ⟨by decide, by decide⟩, .inl ⟨_, rfl, ?_⟩⟩
      refine ⟨_, rfl, _, _, rfl, rfl, (by show (0 : Int) < 16; decide), ?_⟩
      exact k _ a _ (c + 1) _ (by omega) (by omega) (SameX.put.trans SameX.put) upd_same
theorem scOd : FnScope ["_law_rack_here", "_law_some"] ["_law_rack_here"] (defScope sOdd) := ⟨rfl, rfl, rfl, by decide +kernel, rfl, by decide +kernel, by decide +kernel⟩
def spOdd : Sp := fun vs H Q _ => ∃ (r : Addr) (a b c : Int), vs = [.ref r] ∧ H r = some (rk a b c) ∧
  ∀ v d a' b' c' H', SameX r H H' → H' r = some (rk a' b' c') → d ∈ things → Sh (noR r H') v d → Q v H'
theorem ok_odd (F : Fun K "_law_odd" "_law_odd" sOdd f fd) (FK : FnOk P w K mg base CX0 1 fK fdK ["_law_rack_here", "_law_many"] spPick) (bK : Binds K fdK ["_law_rack_here", "_law_many"] [])
    (mK : mg "_law_pick" = some (.ref fK)) (kK : PySem.W.keepIn K (.ref fK) = true) : FnOk P w K mg base CX0 2 f fd ["_law_rack_here"] spOdd := by
  refine F.ok scOd (fun vs H Q E h => ?_) (fun cdv A outer s H vs Q E hr h => ?_)
  · obtain ⟨r, a, b, c, rfl, _⟩ := h
    rfl
  · obtain ⟨r, a, b, c, rfl, hR, k⟩ := h
    refine ⟨_, pss_cons (ps_set (i := 1) scOd.nd rfl (Or.inl rfl) (pe_elst (ms := things) (stD r)
        (pa_econs (cnR r) (stD r) el_non (pa_econs (cnR r) (stD r) el_bl (pa_econs (cnR r) (stD r) el_bl (pa_econs (cnR r) (stD r) el_str (pa_econs (cnR r) (stD r) el_str
        (pa_econs (cnR r) (stD r) el_int (pa_econs (cnR r) (stD r) el_neg (pa_econs (cnR r) (stD r) el_pow (pa_econs (cnR r) (stD r) el_tup0 (pa_econs (cnR r) (stD r) el_tup1
        (pa_econs (cnR r) (stD r) (el_tupt el_tup2) (pa_econs (cnR r) (stD r) el_lst0 (pa_econs (cnR r) (stD r) el_lst2 (pa_econs (cnR r) (stD r) el_dct0 (pa_econs (cnR r) (stD r) el_dct1
        (pa_econs (cnR r) (stD r) el_str pa_enil)))))))))))))))) (by show 16 ≤ sizeLine; decide)))
      (pss_one (ps_ret (pe_ix ix_list (pv 1) (pe_call FK hr (by rfl) mK kK bK .nil pass0 (pa_cons (pv 0) (pa_cons pe_int pa_nil))) (fun _ _ => rfl)))), ?_⟩
    refine ⟨⟨rfl, _, hR⟩, fun p H1 s1 e1 => ?_⟩
    obtain ⟨xs, hl, hal⟩ := e1
    have npr : p ≠ r := fun e => by
      have q := s1 _ _ hR
      rw [← e, hl] at q
      have q2 : xs = [.int a, .int b, .int c] := HO.lst.inj (Option.some.inj q)
      have q3 : xs.length = 16 := hal.len
      rw [q2] at q3
      cases q3
    refine ⟨_, rfl, _, rfl, r, a, b, c, rfl, s1 _ _ hR, fun n a' b' c' H2 h0 h16 s2 hr2 => ?_⟩
    have hlen : xs.length = 16 := hal.len
    obtain ⟨m, rfl⟩ : ∃ m : Nat, n = (m : Int) := ⟨n.toNat, by omega⟩
    have hm : m < xs.length := by omega
    have hx : xs[m]? = some xs[m] := List.getElem?_eq_getElem hm
    obtain ⟨d, hd, hs⟩ := hal.get hx
    refine ⟨p, xs, _, xs[m], rfl, rfl, SqL.of (s2 _ _ npr hl), atI_nat hx, ?_⟩
    exact k _ d a' b' c' H2 ((SameX.of s1).trans s2) hr2 (List.mem_of_getElem? hd) (Sh.same (noR_mono s2) d _ hs)
abbrev nRack : List Str := ["_law_cells", "_law_at", "_law_own", "_law_mixed", "_law_k"]
theorem scRk : FnScope nRack ["_law_cells", "_law_at"] (defScope sRack) := ⟨rfl, rfl, rfl, by decide +kernel, rfl, by decide +kernel, by decide +kernel⟩
def spRack (K : PySem.W.Frag) : Sp := fun vs H Q _ => ∃ (a : Addr) (ns : List Int) (j : Nat), vs = [.ref a, .int (j : Int)] ∧ SqL K H a (ns.map V.int) ∧ ns.length ≤ 63 ∧
  ∀ p x y H', Same H H' → H p = none → H' p = some (rk x y 7) → Q (.ref p) H'
theorem ok_rack (F : Fun K "_law_rack" "_law_rack" sRack f fd) (T : Tx P w K mg base c) : FnOk P w K mg base CX0 1 f fd ["_law_cells", "_law_at"] (spRack K) := by
  refine F.ok scRk (fun vs H Q E h => ?_) (fun cdv A outer s H vs Q E hr h => ?_)
  · obtain ⟨a, ns, j, rfl, _⟩ := h
    rfl
  · obtain ⟨a, ns, j, rfl, hS, hlen, k⟩ := h
    refine ⟨_, pss_cons (ps_par (i := 2) (j := 3) rfl scRk.nd rfl rfl (by decide) rfl rfl (pa_cons (pe_ifExp (pt_cmpR op_lt (pv 1) (pe_callB call_len_seq (by rfl) T.z_len PySem.boot_len (pa_cons (pv 0) pa_nil)) (nomark _))
            (pe_ix ix_list (pv 0) (pv 1) (fun _ _ => rfl)) pe_int) (pa_cons (pe_op op_add pe_int (pe_op op_mul pe_int (pv 1))) pa_nil)) rfl)
      (pss_cons (ps_for PassesOwn.never rfl (pi_range1 (by rfl) T.z_range (pa_cons (pe_callB (call_min2 rfl) (by rfl) T.z_min PyProof.Rows.boot_min (pa_cons (pe_callB call_len_seq (by rfl) T.z_len PySem.boot_len (pa_cons (pv 0) pa_nil)) (pa_cons pe_int pa_nil))) pa_nil))
          (pg_name (i := 4) scRk.nd rfl (Or.inl rfl))
          (pss_one (ps_set (i := 3) scRk.nd rfl (Or.inl rfl) (pe_op op_mod (pe_callTy call_int1 (by rfl) T.z_int (by decide +kernel) (pa_cons (pe_op op_mul (pe_op op_add (pe_op op_add (pv 3) (pe_op op_mul pe_int (pe_ix ix_list (pv 0) (pv 4) (fun _ _ => rfl)))) pe_int)
            (pe_op op_add pe_int (pe_op op_mul pe_int (pv 4)))) pa_nil)) pe_int))))
      (pss_one (ps_ret (pe_lst (pa_cons (pe_ifExp (PW.pt (pw_or (pt_cmpR op_lt (pv 2) pe_int (nomark _)) (pw_or1 (pt_cmpR op_ge (pv 2) (pe_op op_pow pe_int pe_int) (nomark _)))))
            (pe_callB call_abs (by rfl) T.z_abs PyProof.Rows.boot_abs (pa_cons (pv 2) pa_nil)) pe_int)
          (pa_cons (pe_op op_mod (pe_callTy call_int1 (by rfl) T.z_int (by decide +kernel) (pa_cons (pe_op op_add (pv 3) (pe_op op_mul (pv 2) pe_int)) pa_nil)) pe_int) (pa_cons pe_int pa_nil))))))), ?_⟩
    have e0 : L2.start nRack [V.ref a, V.int (j : Int)] = [some (.ref a), some (.int (j : Int)), none, none, none] := rfl
    rw [e0]
    have mn : -(2 ^ 62) ≤ (if (8 : Int) < (((ns.map V.int).length : Nat) : Int) then 8 else (((ns.map V.int).length : Nat) : Int)) ∧
        (if (8 : Int) < (((ns.map V.int).length : Nat) : Int) then 8 else (((ns.map V.int).length : Nat) : Int)) < 2 ^ 62 ∧
        (if (8 : Int) < (((ns.map V.int).length : Nat) : Int) then 8 else (((ns.map V.int).length : Nat) : Int)).toNat ≤ ns.length := by
      rw [List.length_map]
      refine ⟨?_, ?_, ?_⟩ <;> split <;> omega
    refine ⟨_, rfl, _, rfl, a, _, rfl, .inl hS, _, _, rfl, rfl, _, rfl, ?_⟩
    refine ite2 (fun hb => ?_) (fun hb => ?_)
    · have hj : j < ns.length := by
        have q := of_decide_eq_true hb
        rw [List.length_map] at q
        omega
      have hx : (ns.map V.int)[j]? = some (.int ns[j]) := by rw [List.getElem?_map, List.getElem?_eq_getElem hj]; rfl
      refine ⟨_, rfl, _, rfl, a, _, _, .int ns[j], rfl, rfl, hS, atI_nat hx, ?_⟩
      refine ⟨_, rfl, _, _, rfl, rfl, .inl ⟨by decide, by decide⟩, _, _, rfl, rfl, _, _, rfl, ?_⟩
      refine ⟨_, rfl, a, _, rfl, .inl hS, _, _, rfl, _, rfl, mn.1, mn.2.1, for_range (fun i σ H' => H' = H ∧ ∃ m z, σ = [some (.ref a), some (.int (j : Int)), some (.int ns[j]), some (.int m), z])
        ⟨rfl, _, _, rfl⟩ ?_ ?_⟩
      · rintro i σ H' hi ⟨rfl, m, z, rfl⟩
        have hi2 : i < ns.length := Nat.lt_of_lt_of_le hi mn.2.2
        have hx : (ns.map V.int)[i]? = some (.int ns[i]) := by rw [List.getElem?_map, List.getElem?_eq_getElem hi2]; rfl
        refine ⟨_, rfl, _, rfl, _, rfl, a, _, _, .int ns[i], rfl, rfl, hS, (by rw [Int.zero_add]; exact atI_nat hx), _, _, rfl, rfl, .inl ⟨by decide, by decide⟩, ?_⟩
        refine ⟨_, _, rfl, rfl, _, _, rfl, rfl, _, rfl, _, _, rfl, rfl, .inl ⟨by decide, by decide⟩, _, _, rfl, rfl, ?_⟩
        refine ⟨_, _, rfl, rfl, .inr ⟨by omega, by omega⟩, .inl ⟨_, rfl, ?_⟩⟩
        refine ⟨_, _, rfl, rfl, (by show (0 : Int) < 2147483353; decide), rfl, _, _, rfl⟩
      · rintro σ H' ⟨rfl, m, z, rfl⟩
        refine ⟨_, rfl, _, _, rfl, rfl, _, rfl, ?_⟩
        refine ite2 (fun hb => ?_) (fun hb => ?_)
        · refine ite2 (fun _ => ?_) (fun q => absurd rfl q)
          refine ⟨_, rfl, _, rfl, _, rfl, _, rfl, _, _, rfl, rfl, .inr ⟨by decide, by decide⟩, _, _, rfl, rfl, .inl ⟨_, rfl, ?_⟩⟩
          refine ⟨_, _, rfl, rfl, (by show (0 : Int) < 2147483353; decide), (by show 3 ≤ sizeLine; decide), fun p hp => ?_⟩
          exact k p _ _ _ (same_new hp) hp upd_same
        · refine ⟨_, rfl, 10, 18, rfl, rfl, ⟨by decide, by decide, by decide⟩, _, _, rfl, rfl, _, rfl, ?_⟩
          refine ite2 (fun hb => ?_) (fun hb => ?_)
          · refine ⟨_, rfl, _, rfl, _, rfl, _, rfl, _, _, rfl, rfl, .inr ⟨by decide, by decide⟩, _, _, rfl, rfl, .inl ⟨_, rfl, ?_⟩⟩
            refine ⟨_, _, rfl, rfl, (by show (0 : Int) < 2147483353; decide), (by show 3 ≤ sizeLine; decide), fun p hp => ?_⟩
            exact k p _ _ _ (same_new hp) hp upd_same
          · refine ⟨_, rfl, _, rfl, _, _, rfl, rfl, .inr ⟨by decide, by decide⟩, _, _, rfl, rfl, .inl ⟨_, rfl, ?_⟩⟩
            refine ⟨_, _, rfl, rfl, (by show (0 : Int) < 2147483353; decide), (by show 3 ≤ sizeLine; decide), fun p hp => ?_⟩
            exact k p _ _ _ (same_new hp) hp upd_same
    · refine ⟨_, rfl, _, _, rfl, rfl, .inl ⟨by decide, by decide⟩, _, _, rfl, rfl, _, _, rfl, ?_⟩
      refine ⟨_, rfl, a, _, rfl, .inl hS, _, _, rfl, _, rfl, mn.1, mn.2.1, for_range (fun i σ H' => H' = H ∧ ∃ m z, σ = [some (.ref a), some (.int (j : Int)), some (.int 0), some (.int m), z])
        ⟨rfl, _, _, rfl⟩ ?_ ?_⟩
      · rintro i σ H' hi ⟨rfl, m, z, rfl⟩
        have hi2 : i < ns.length := Nat.lt_of_lt_of_le hi mn.2.2
        have hx : (ns.map V.int)[i]? = some (.int ns[i]) := by rw [List.getElem?_map, List.getElem?_eq_getElem hi2]; rfl
        refine ⟨_, rfl, _, rfl, _, rfl, a, _, _, .int ns[i], rfl, rfl, hS, (by rw [Int.zero_add]; exact atI_nat hx), _, _, rfl, rfl, .inl ⟨by decide, by decide⟩, ?_⟩
        refine ⟨_, _, rfl, rfl, _, _, rfl, rfl, _, rfl, _, _, rfl, rfl, .inl ⟨by decide, by decide⟩, _, _, rfl, rfl, ?_⟩
        refine ⟨_, _, rfl, rfl, .inr ⟨by omega, by omega⟩, .inl ⟨_, rfl, ?_⟩⟩
        refine ⟨_, _, rfl, rfl, (by show (0 : Int) < 2147483353; decide), rfl, _, _, rfl⟩
      · rintro σ H' ⟨rfl, m, z, rfl⟩
        refine ⟨_, rfl, _, _, rfl, rfl, _, rfl, ?_⟩
        refine ite2 (fun hb => ?_) (fun hb => ?_)
        · refine ite2 (fun _ => ?_) (fun q => absurd rfl q)
          refine ⟨_, rfl, _, rfl, _, rfl, _, rfl, _, _, rfl, rfl, .inr ⟨by decide, by decide⟩, _, _, rfl, rfl, .inl ⟨_, rfl, ?_⟩⟩
          refine ⟨_, _, rfl, rfl, (by show (0 : Int) < 2147483353; decide), (by show 3 ≤ sizeLine; decide), fun p hp => ?_⟩
          exact k p _ _ _ (same_new hp) hp upd_same
        · refine ⟨_, rfl, 10, 18, rfl, rfl, ⟨by decide, by decide, by decide⟩, _, _, rfl, rfl, _, rfl, ?_⟩
          refine ite2 (fun hb => ?_) (fun hb => ?_)
          · refine ⟨_, rfl, _, rfl, _, rfl, _, rfl, _, _, rfl, rfl, .inr ⟨by decide, by decide⟩, _, _, rfl, rfl, .inl ⟨_, rfl, ?_⟩⟩
            refine ⟨_, _, rfl, rfl, (by show (0 : Int) < 2147483353; decide), (by show 3 ≤ sizeLine; decide), fun p hp => ?_⟩
            exact k p _ _ _ (same_new hp) hp upd_same
          · refine ⟨_, rfl, _, rfl, _, _, rfl, rfl, .inr ⟨by decide, by decide⟩, _, _, rfl, rfl, .inl ⟨_, rfl, ?_⟩⟩
            refine ⟨_, _, rfl, rfl, (by show (0 : Int) < 2147483353; decide), (by show 3 ≤ sizeLine; decide), fun p hp => ?_⟩
            exact k p _ _ _ (same_new hp) hp upd_same
end
end Xk

namespace Xk
open PySem PySem.Spec PyProof.Rows L2
def okD (d : PyData) : Bool := d.showable && decide (d.depth ≤ 20) && decide (d.shown.length ≤ sizeLine)
def words17 : List Str := ["InvalidText", "InvalidFraction", "InvalidNumber", "InvalidScale", "InvalidTree", "InvalidCount", "InvalidWay", "InvalidName", "InvalidIndex", "InvalidClaim", "NotAShape", "InvalidEquation", "InvalidCutting", "UnknownName", "InUse", "TooMany", "Overlaps"]
theorem tup2_len (a b : Str) : (tupleText [a, b]).length ≤ a.length + b.length + 6 := by
  have h := join_length_add [a, b] (by simp)
  rw [piled_cons, piled_cons, piled_nil] at h
  have e1 : (("(" : String) : Str).length = 1 := rfl
  have e2 : (((if [a, b].length == 1 then ",)" else ")" : String)) : Str).length = 1 := rfl
  unfold tupleText
  rw [strLen_append, strLen_append, e1, e2]
  omega
theorem lst2_len (a b : Str) : (listText [a, b]).length ≤ a.length + b.length + 6 := by
  have e1 : (("[" : String) : Str).length = 1 := rfl
  have e2 : (("]" : String) : Str).length = 1 := rfl
  have e3 : ((", " : String) : Str).length = 2 := rfl
  show (((("[" : Str) ++ a) ++ (", " : Str)) ++ b ++ ("]" : Str)).length ≤ _
  rw [strLen_append, strLen_append, strLen_append, strLen_append, e1, e2, e3]
  omega
theorem okT : (things.all fun d => d.showable && decide (d.depth ≤ 10) && decide (d.shown.length ≤ 100)) = true := by decide +kernel
theorem okW : (words17.all fun wd => decide ((reprText wd).length ≤ 100)) = true := by decide +kernel
theorem okT_of {d : PyData} (hd : d ∈ things) : d.showable = true ∧ d.depth ≤ 10 ∧ d.shown.length ≤ 100 := by
  have h := List.all_eq_true.mp okT d hd
  rw [Bool.and_eq_true, Bool.and_eq_true] at h
  exact ⟨h.1.1, of_decide_eq_true h.1.2, of_decide_eq_true h.2⟩
theorem big : 2000 ≤ sizeLine := by decide
theorem dep2 (a b : PyData) : (PyData.tuple [a, b]).depth ≤ max a.depth b.depth + 2 := by
  simp only [PyData.depth, PyData.depthAll]
  omega
theorem depl2 (a b : PyData) : (PyData.list [a, b]).depth ≤ max a.depth b.depth + 2 := by
  simp only [PyData.depth, PyData.depthAll]
  omega
theorem okD_mk {d : PyData} (h1 : d.showable = true) (h2 : d.depth ≤ 20) (h3 : d.shown.length ≤ sizeLine) : okD d = true := by
  unfold okD
  rw [h1, decide_eq_true h2, decide_eq_true h3]
  rfl
theorem sh2 {a b : PyData} (ha : a.showable = true) (hb : b.showable = true) : (PyData.tuple [a, b]).showable = true := by
  show (a.showable && (b.showable && true)) = true
  rw [ha, hb]; rfl
theorem shl2 {a b : PyData} (ha : a.showable = true) (hb : b.showable = true) : (PyData.list [a, b]).showable = true := by
  show (a.showable && (b.showable && true)) = true
  rw [ha, hb]; rfl
theorem ok17_of {wd : Str} {d : PyData} (hw : wd ∈ words17) (hd : d ∈ things) : okD (.tuple [.str wd, d]) = true := by
  obtain ⟨h1, h2, h3⟩ := okT_of hd
  have h4 := of_decide_eq_true (List.all_eq_true.mp okW wd hw)
  refine okD_mk (sh2 rfl h1) (Nat.le_trans (dep2 _ _) ?_) (Nat.le_trans (tup2_len (reprText wd) d.shown) (Nat.le_trans ?_ big))
  · have e : (PyData.str wd).depth ≤ 10 := by show (PyData.str wd).depth ≤ 10; simp [PyData.depth]
    omega
  · omega
theorem okBr_of {d e : PyData} (hd : d ∈ things) (he : e ∈ things) : okD (.list [.tuple [.str "Broken", .tuple [d, e]], .tuple [.str "Broken", .tuple [d, e]]]) = true := by
  obtain ⟨h1, h2, h3⟩ := okT_of hd
  obtain ⟨g1, g2, g3⟩ := okT_of he
  have l1 := tup2_len d.shown e.shown
  have l2 := tup2_len (reprText "Broken") (tupleText [d.shown, e.shown])
  have l3 := lst2_len (tupleText [reprText "Broken", tupleText [d.shown, e.shown]]) (tupleText [reprText "Broken", tupleText [d.shown, e.shown]])
  have l4 : (reprText "Broken").length ≤ 100 := by decide +kernel
  have s1 := sh2 (a := .str "Broken") rfl (sh2 h1 g1)
  refine okD_mk (shl2 s1 s1) ?_ (Nat.le_trans l3 (Nat.le_trans ?_ big))
  · have a1 := dep2 d e
    have a2 := dep2 (.str "Broken") (.tuple [d, e])
    have a3 := depl2 (.tuple [.str "Broken", .tuple [d, e]]) (.tuple [.str "Broken", .tuple [d, e]])
    have a4 : (PyData.str "Broken").depth ≤ 10 := by simp [PyData.depth]
    omega
  · omega
end Xk

/-! One draw. -/
namespace Xk
open PySem PySem.Spec PyProof.Rows L2
theorem okD_of {d : PyData} (h : okD d = true) : d.showable = true ∧ d.depth ≤ 20 ∧ d.shown.length ≤ sizeLine := by
  unfold okD at h
  rw [Bool.and_eq_true, Bool.and_eq_true] at h
  exact ⟨h.1.1, of_decide_eq_true h.1.2, of_decide_eq_true h.2⟩
theorem eq6 : (words6.all fun wd => SeqAt.shaped (.tuple [.str wd, .str ""]) && PyData.eqv (.tuple [.str wd, .str ""]) (.tuple [.str wd, .str ""])) = true := by decide +kernel
def SpecOk (K : PySem.W.Frag) (c : Nat → Addr) (C : Addr) (k : TK) : Prop := ∃ (Bc : Addr) (newId : String) (tl : List Value) (bs : List Bool), OxC K C Bc newId tl ∧ KinOk K c C bs ∧ tal (kinOf bs) = k
structure TxS (K : PySem.W.Frag) (c : Nat → Addr) : Prop where
  all1 : ∀ m ∈ specs c, SpecOk K c m.2.1 (.g1 m.2.2 m.1) ∧ PySem.W.findIn K (.ref m.2.1) m.2.2 = some none
  y19 : SpecOk K c (c 19) (.g0 "NoRoot")
  y20 : SpecOk K c (c 20) (.g0 "NoQuotient")
  y21 : SpecOk K c (c 21) (.g0 "NotPositive")
  y22 : SpecOk K c (c 22) (.g0 "NotFilled")
  y24 : SpecOk K c (c 24) (.g0 "Outside")
  y26 : SpecOk K c (c 26) (.g0 "NothingToUndo")
  y27 : SpecOk K c (c 27) .g2
theorem specs_words (c : Nat → Addr) : ∀ m ∈ specs c, m.1 ∈ words17 := fun m hm => by
  have h : m.1 ∈ (specs c).map (·.1) := List.mem_map_of_mem hm
  exact h
abbrev Mark0 := Str × Addr
def El0 : Hp → V → Mark0 → Prop := fun H x m => ∃ t a, x = .ref t ∧ H t = some (.tup [.ref a, .str m.1]) ∧ ExAt H a m.2 []
def CnT : L2.St → Hp → Prop := fun _ _ => True
theorem st0' : Stay El0 := fun H H' x m k ⟨t, a, e, h1, h2⟩ => ⟨t, a, e, k _ _ h1, h2.same k⟩
theorem cnT : StayC CnT := fun _ _ _ _ _ => trivial
theorem pe_pair0 {X : Cx} {C : Addr} {wd : Str} {ce : Expr} {j : Nat} {p1 pos : Pos} {kk : Nat} (hc : PE X ce (tMk0 C))
    (hst : starEach (ce :: [.Constant (.str wd) j p1]) X.env = (false, eval ce X.env) :: starEach [.Constant (.str wd) j p1] X.env := by rfl) :
    PE X (.Tuple [ce, .Constant (.str wd) j p1] kk pos) (tEl CnT El0 (wd, C)) :=
  pe_imp (pe_tup (pa_cons hc (pa_cons pe_str pa_nil) hst)) fun σ H Q q a H1 k1 e1 => ⟨(by show 2 ≤ sizeLine; decide), fun t ht =>
    q.2 (.ref t) _ (k1.trans (same_new ht)) ⟨t, a, rfl, upd_same, e1.same (same_new ht)⟩⟩
def specs0 (c : Nat → Addr) : List Mark0 := [("NoRoot", c 19), ("NoQuotient", c 20), ("NotPositive", c 21), ("NotFilled", c 22), ("Outside", c 24), ("NothingToUndo", c 26)]
theorem specs0_ok {K : PySem.W.Frag} {c : Nat → Addr} (S : TxS K c) : ∀ m ∈ specs0 c, SpecOk K c m.2 (.g0 m.1) := fun m hm => by
  unfold specs0 at hm
  simp only [List.mem_cons, List.not_mem_nil, or_false] at hm
  rcases hm with rfl | rfl | rfl | rfl | rfl | rfl
  · exact S.y19
  · exact S.y20
  · exact S.y21
  · exact S.y22
  · exact S.y24
  · exact S.y26
theorem specs0_words (c : Nat → Addr) : ∀ m ∈ specs0 c, m.1 ∈ words6 := fun m hm => by
  have h : m.1 ∈ (specs0 c).map (·.1) := List.mem_map_of_mem hm
  exact h
section
variable {X : Cx} {x f g : Str} {C Bc : Addr} {newId : String} {tl : List Value} {p pos kp kp2 : Pos} {e e2 : Expr} {i j : Nat}
/-- Broken(thing, mate) -/
def tMkV (C : Addr) (f g : Str) (i j : Nat) : TE := fun σ H Q => ∃ v u, σ[i]? = some (some v) ∧ σ[j]? = some (some u) ∧ ∀ a H', Same H H' → ExAt H' a C [(g, u), (f, v)] → Q (.ref a) H'
theorem mk2_v {σ : L2.St} {H : Hp} {Q : VK} (q : tMkV C f g i j σ H Q) : tMk2 C f g (tMn (tVar i)) (tMn (tVar j)) σ H Q := by
  obtain ⟨v, u, hv, hu, k⟩ := q
  refine ⟨fun x H1 => x = v ∧ H1 = H, ⟨v, hv, rfl, rfl⟩, fun x H1 z => ?_⟩
  obtain ⟨rfl, rfl⟩ := z
  refine ⟨fun y H2 => y = u ∧ H2 = H1, ⟨u, hu, rfl, rfl⟩, fun y H2 z => ?_⟩
  obtain ⟨rfl, rfl⟩ := z
  exact k
theorem mk2k_v {σ : L2.St} {H : Hp} {Q : VK} (q : tMkV C f g i j σ H Q) : tMn (tVar j) σ H (fun u H1 => tMn (tVar i) σ H1 fun v H2 => ∀ a H', Same H2 H' → ExAt H' a C [(g, u), (f, v)] → Q (.ref a) H') := by
  obtain ⟨v, u, hv, hu, k⟩ := q
  refine ⟨fun y H1 => y = u ∧ H1 = H, ⟨u, hu, rfl, rfl⟩, fun y H1 z => ?_⟩
  obtain ⟨rfl, rfl⟩ := z
  refine ⟨fun x H2 => x = v ∧ H2 = H1, ⟨v, hv, rfl, rfl⟩, fun x H2 z => ?_⟩
  obtain ⟨rfl, rfl⟩ := z
  exact k
end
abbrev sRight : Stmt := top 43
abbrev nRight : List Str := ["_law_rack_here", "_law_thing", "_law_mate", "_law_e", "_law_word", "_law_bare", "_law_told"]
theorem scRt : FnScope nRight ["_law_rack_here"] (defScope sRight) := ⟨rfl, rfl, rfl, by decide +kernel, rfl, by decide +kernel, by decide +kernel⟩
def spRight : Sp := fun vs H Q _ => ∃ (r : Addr) (a b c : Int), vs = [.ref r] ∧ H r = some (rk a b c) ∧ ∀ H', SameX r H H' → Q (.bl true) H'
section
variable {P : Program} {w : World} {K : PySem.W.Frag} {mg : Str → Option Value} {base : Heap} {c : Nat → Addr} {f fT fO fP fN : Addr} {fd fdT fdO fdP fdN : FuncData}
theorem ok_right (F : Fun K "_law_right" "_law_right" sRight f fd) (T : Tx P w K mg base c) (S : TxS K c)
    (FT : FnOk P w K mg base CX0 2 fT fdT ["_law_e"] (spTale K c)) (bT : Binds K fdT ["_law_e"] []) (mT : mg "_law_tale" = some (.ref fT)) (kT : PySem.W.keepIn K (.ref fT) = true)
    (FO : FnOk P w K mg base CX0 2 fO fdO ["_law_rack_here"] spOdd) (bO : Binds K fdO ["_law_rack_here"] []) (mO : mg "_law_odd" = some (.ref fO)) (kO : PySem.W.keepIn K (.ref fO) = true)
    (FP : FnOk P w K mg base CX0 3 fP fdP ["_law_thing"] (spPairs c)) (bP : Binds K fdP ["_law_thing"] []) (mP : mg "_law_by_place" = some (.ref fP)) (kP : PySem.W.keepIn K (.ref fP) = true)
    (FN : FnOk P w K mg base CX0 3 fN fdN ["_law_thing"] (spPairs c)) (bN : Binds K fdN ["_law_thing"] []) (mN : mg "_law_by_name" = some (.ref fN)) (kN : PySem.W.keepIn K (.ref fN) = true) :
    FnG P w K mg base 4 f fd ["_law_rack_here"] spRight := by
  refine fn_g F scRt (fun vs H Q E h => ?_) (fun cdv A outer s H vs Q E hr hG h => ?_)
  · obtain ⟨r, a, b, c, rfl, _⟩ := h
    rfl
  · obtain ⟨r, a0, b0, c0, rfl, hR, k⟩ := h
    have r2 : Room 2 _ := hr.mono (by decide)
    have hu : (A.deeper (envOfC "_law_right" (defScope sRight) s.heap.objs.size f cdv)).units + 21 < cLine := by have := hr.un; omega
    have hu2 : (A.deeper (envOfC "_law_right" (defScope sRight) s.heap.objs.size f cdv)).units + 64 < cLine := by have := hr.un; omega
    have hG2 : (A.deeper (envOfC "_law_right" (defScope sRight) s.heap.objs.size f cdv)).guards = some [] := hG
    refine ⟨_, pss_cons (ps_par (i := 1) (j := 2) rfl scRt.nd rfl rfl (by decide) rfl rfl (pa_cons (pe_call FO r2 (by rfl) mO kO bO .nil pass0 (pa_cons (pv 0) pa_nil)) (pa_cons (pe_call FO r2 (by rfl) mO kO bO .nil pass0 (pa_cons (pv 0) pa_nil)) pa_nil)) rfl)
      (pss_cons (ps_for PassesOwn.never rfl (pi_list (pe_op op_cat (pe_call FP hr (by rfl) mP kP bP .nil pass0 (pa_cons (pv 1) pa_nil)) (pe_call FN hr (by rfl) mN kN bN .nil pass0 (pa_cons (pv 1) pa_nil))))
          (pg_tup rfl (pgs_cons (pg_name (i := 3) scRt.nd rfl (Or.inl rfl)) (pgs_cons (pg_name (i := 4) scRt.nd rfl (Or.inl rfl)) pgs_nil)))
          (pss_one (ps_if (pt_cmpR op_ne (pe_callB (call_repr hG2 hu) (by rfl) T.z_repr PyProof.Rows.boot_repr (pa_cons (pe_call FT r2 (by rfl) mT kT bT .nil pass0 (pa_cons (pv 3) pa_nil)) pa_nil))
              (pe_callB (call_repr hG2 hu) (by rfl) T.z_repr PyProof.Rows.boot_repr (pa_cons (pe_tup (pa_cons (pv 4) (pa_cons (pv 1) pa_nil))) pa_nil)) (nomark _)) (pss_one (ps_ret pe_bl)) pss_nil)))
      (pss_cons (ps_set (i := 5) scRt.nd rfl (Or.inl rfl) (pe_elst st0' (pa_econs cnT st0' (pe_pair0 (pe_m0 T.m19 r2 (by rfl))) (pa_econs cnT st0' (pe_pair0 (pe_m0 T.m20 r2 (by rfl))) (pa_econs cnT st0' (pe_pair0 (pe_m0 T.m21 r2 (by rfl))) pa_enil))) (by show 3 ≤ sizeLine; decide)))
      (pss_cons (ps_set (i := 5) scRt.nd rfl (Or.inl rfl) (pe_ecat (ms := ([("NoRoot", c 19), ("NoQuotient", c 20), ("NotPositive", c 21)] : List Mark0)) cnT st0' (i := 5) (pv 5)
          (pe_elst st0' (pa_econs cnT st0' (pe_pair0 (pe_m0 T.m22 r2 (by rfl))) (pa_econs cnT st0' (pe_pair0 (pe_m0 T.m24 r2 (by rfl))) (pa_econs cnT st0' (pe_pair0 (pe_m0 T.m26 r2 (by rfl))) pa_enil))) (by show 3 ≤ sizeLine; decide)) (by show 6 ≤ sizeLine; decide)))
      (pss_cons (ps_for PassesOwn.never rfl (pi_list (pv 5))
          (pg_tup rfl (pgs_cons (pg_name (i := 3) scRt.nd rfl (Or.inl rfl)) (pgs_cons (pg_name (i := 4) scRt.nd rfl (Or.inl rfl)) pgs_nil)))
          (pss_one (ps_if (pt_cmpR (op_neD hu2) (pe_call FT r2 (by rfl) mT kT bT .nil pass0 (pa_cons (pv 3) pa_nil)) (pe_tup (pa_cons (pv 4) (pa_cons pe_str pa_nil))) (nomark _)) (pss_one (ps_ret pe_bl)) pss_nil)))
      (pss_cons (ps_set (i := 6) scRt.nd rfl (Or.inl rfl) (pe_lstN (pa_cons (pe_call FT r2 (by rfl) mT kT bT .nil pass0 (pa_cons (pe_imp (pe_m2 T.m27 r2 (by rfl) (pv 1) (pv 2)) fun σ H Q q => mk2_v q) pa_nil))
          (pa_cons (pe_call FT r2 (by rfl) mT kT bT .nil pass0 (pa_cons (pe_imp (pe_m2k T.m27 r2 (by rfl) (pv 1) (pv 2)) fun σ H Q q => mk2k_v q) pa_nil)) pa_nil))))
      (pss_one (ps_ret (pe_cmpR op_eq (pe_callB (call_repr hG2 hu) (by rfl) T.z_repr PyProof.Rows.boot_repr (pa_cons (pv 6) pa_nil))
          (pe_callB (call_repr hG2 hu) (by rfl) T.z_repr PyProof.Rows.boot_repr (pa_cons (pe_op op_repN (pe_lstN (pa_cons (pe_tup (pa_cons pe_str (pa_cons (pe_tup (pa_cons (pv 1) (pa_cons (pv 2) pa_nil))) pa_nil))) pa_nil)) pe_int) pa_nil)) (nomark _))))))))), ?_⟩
    have e0 : L2.start nRight [V.ref r] = [some (.ref r), none, none, none, none, none, none] := rfl
    rw [e0]
    refine ⟨_, rfl, r, a0, b0, c0, rfl, hR, fun v d a1 b1 c1 H1 s1 hR1 hd hv => ?_⟩
    refine ⟨_, rfl, r, a1, b1, c1, rfl, hR1, fun u d2 a2 b2 c2 H2 s2 hR2 hd2 hu' => ?_⟩
    refine ⟨_, _, rfl, ?_⟩
    have shv : Sh H2 v d := Sh.same (noR_same r H2) d v (Sh.same (noR_mono s2) d v hv)
    have shu : Sh H2 u d2 := Sh.same (noR_same r H2) d2 u hu'
    have e1 : (List.set [some (V.ref r), none, none, none, none, none, none] 1 (some v)).set 2 (some u) = [some (.ref r), some v, some u, none, none, none, none] := rfl
    simp only [e1]
    -- all by place and by name
    refine ⟨_, rfl, v, rfl, fun p1 H3 s3 e3 => ⟨_, rfl, v, rfl, fun p2 H4 s4 e4 => ?_⟩⟩
    obtain ⟨xs, hx, ax⟩ := e3
    obtain ⟨ys, hy, ay⟩ := e4
    refine ⟨p1, p2, xs, ys, rfl, rfl, s4 _ _ hx, hy, (by rw [ax.len, ay.len]; show 34 ≤ sizeLine; decide), fun p3 hp3 => ?_⟩
    have s5 : Same H2 (upd H4 p3 (.lst (xs ++ ys))) := (s3.trans s4).trans (same_new hp3)
    have al : AllE (ElP v) (upd H4 p3 (.lst (xs ++ ys))) (xs ++ ys) (specs c ++ specs c) := ((ax.same (stP v) s4).app ay).same (stP v) (same_new hp3)
    refine ⟨p3, rfl, ⟨_, SqL.of upd_same⟩, for_list (K := K) (a := p3) (xs := xs ++ ys) (fun i σ H' => Same (upd H4 p3 (.lst (xs ++ ys))) H' ∧ ∃ y z, σ = [some (.ref r), some v, some u, y, z, none, none])
      ⟨Same.refl _, _, _, rfl⟩ (fun i σ H' _ e => e.1.seq (SqL.of upd_same)) ?_ ?_⟩
    · rintro i x σ H' hi ⟨sT, y, z, rfl⟩
      obtain ⟨m, hm, t, a, rfl, ht, hex⟩ := al.get hi
      have hmem : m ∈ specs c := (List.mem_append.mp (List.mem_of_getElem? hm)).elim id id
      obtain ⟨⟨Bc, nid, tl, bs, O, hk, htal⟩, hno⟩ := S.all1 m hmem
      obtain ⟨g1, g2, g3⟩ := okD_of (ok17_of (specs_words c m hmem) hd)
      refine ⟨t, _, rfl, SqT.of (sT _ _ ht), rfl, _, _, rfl, _, _, rfl, rfl, ?_⟩
      refine ⟨_, rfl, a, m.2.1, Bc, [(m.2.2, v)], nid, tl, bs, rfl, hex.same sT, O, hk, ?_⟩
      rw [htal]
      refine ⟨v, hno, (by rw [lookup_put, if_pos rfl]), fun t1 H6 s6 e6 => ?_⟩
      have s7 : Same H2 H6 := (s5.trans sT).trans s6
      refine ⟨t1, .tuple [.str m.1, d], rfl, .tup e6 (.cons (.str _) (.cons (Sh.same s7 d v shv) .nil)), g1, g2, g3, ?_⟩
      refine ⟨_, rfl, _, rfl, (by show 2 ≤ sizeLine; decide), fun t2 ht2 => ?_⟩
      refine ⟨t2, .tuple [.str m.1, d], rfl, .tup upd_same (.cons (.str _) (.cons (Sh.same (s7.trans (same_new ht2)) d v shv) .nil)), g1, g2, g3, rfl, _, rfl, iteNS rfl ?_⟩
      exact ⟨sT.trans (s6.trans (same_new ht2)), _, _, rfl⟩
    rintro σ H7 ⟨sT, y, z, rfl⟩
    have s7 : Same H2 H7 := s5.trans sT
    -- those without attributes
    refine ⟨trivial, fun p4 H8 s8 e8 => ?_⟩
    simp only [gn]
    refine ⟨⟨p4, rfl, e8⟩, trivial, fun p5 H9 s9 e9 => ?_⟩
    have e9' : LstE El0 H9 p5 (specs0 c) := e9
    obtain ⟨xs0, hl0, al0⟩ := e9'
    have s10 : Same H2 H9 := (s7.trans s8).trans s9
    refine ⟨_, rfl, p5, rfl, ⟨_, SqL.of hl0⟩, for_list (K := K) (a := p5) (xs := xs0) (fun i σ H' => Same H9 H' ∧ ∃ y z, σ = [some (.ref r), some v, some u, y, z, some (.ref p5), none])
      ⟨Same.refl _, _, _, rfl⟩ (fun i σ H' _ e => e.1.seq (SqL.of hl0)) ?_ ?_⟩
    · rintro i x σ H' hi ⟨sU, y, z, rfl⟩
      obtain ⟨m, hm, t, a, rfl, ht, hex⟩ := al0.get hi
      have hmem : m ∈ specs0 c := List.mem_of_getElem? hm
      obtain ⟨Bc, nid, tl, bs, O, hk, htal⟩ := specs0_ok S m hmem
      have q6 := List.all_eq_true.mp eq6 m.1 (specs0_words c m hmem)
      rw [Bool.and_eq_true] at q6
      refine ⟨t, _, rfl, SqT.of (sU _ _ ht), rfl, _, _, rfl, _, _, rfl, rfl, ?_⟩
      refine ⟨_, rfl, a, m.2, Bc, [], nid, tl, bs, rfl, hex.same sU, O, hk, ?_⟩
      rw [htal]
      refine fun t1 H11 s11 e11 => ?_
      refine ⟨_, rfl, (by show 2 ≤ sizeLine; decide), fun t2 ht2 => ?_⟩
      refine ⟨.tuple [.str m.1, .str ""], .tuple [.str m.1, .str ""], .tup (SqT.of (same_new ht2 _ _ e11)) (.cons (.str _) (.cons (.str _) .nil)), .tup (SqT.of upd_same) (.cons (.str _) (.cons (.str _) .nil)),
        q6.1, q6.1, _, rfl, ?_⟩
      rw [q6.2]
      refine iteF ?_
      exact ⟨sU.trans (s11.trans (same_new ht2)), _, _, rfl⟩
    rintro σ H12 ⟨sU, y2, z2, rfl⟩
    have s12 : Same H2 H12 := s10.trans sU
    -- the one with two attributes
    obtain ⟨Bc, nid, tl, bs, O, hk, htal⟩ := S.y27
    have lk1 : ([("shown", u), ("index", v)] : List (Str × V)).lookup ("index" : Str) = some v := by
      rw [lookup_put, if_neg (by decide +kernel), lookup_put, if_pos rfl]
    have lk2 : ([("shown", u), ("index", v)] : List (Str × V)).lookup ("shown" : Str) = some u := by
      rw [lookup_put, if_pos rfl]
    refine ⟨v, u, rfl, rfl, fun a H13 s13 e13 => ?_⟩
    refine ⟨a, c 27, Bc, _, nid, tl, bs, rfl, e13, O, hk, ?_⟩
    rw [htal]
    refine ⟨v, u, T.m27.no, T.m27.no2, lk1, lk2, fun t1 t1' H14 s14 f14 g14 => ?_⟩
    refine ⟨v, u, rfl, rfl, fun a' H15 s15 e15 => ?_⟩
    refine ⟨a', c 27, Bc, _, nid, tl, bs, rfl, e15, O, hk, ?_⟩
    rw [htal]
    refine ⟨v, u, T.m27.no, T.m27.no2, lk1, lk2, fun t2 t2' H16 s16 f16 g16 => ?_⟩
    refine ⟨(by show 2 ≤ sizeLine; decide), fun p6 hp6 n6 => ?_⟩
    have s17 : Same H2 (upd H16 p6 (.lst [.ref t1, .ref t2])) := ((((s12.trans s13).trans s14).trans s15).trans s16).trans (same_new hp6)
    obtain ⟨g1, g2, g3⟩ := okD_of (okBr_of hd hd2)
    have pr : ∀ (H' : Hp) (x y : Addr), Same H2 H' → H' x = some (.tup [.str "Broken", .ref y]) → H' y = some (.tup [v, u]) → Sh H' (.ref x) (.tuple [.str "Broken", .tuple [d, d2]]) :=
      fun H' x y k1 h1 h2 => .tup h1 (.cons (.str _) (.cons (.tup h2 (.cons (Sh.same k1 d v shv) (.cons (Sh.same k1 d2 u shu) .nil))) .nil))
    have w1 : Same H14 (upd H16 p6 (.lst [.ref t1, .ref t2])) := (s15.trans s16).trans (same_new hp6)
    have w2 : Same H16 (upd H16 p6 (.lst [.ref t1, .ref t2])) := same_new hp6
    simp only [gn]
    refine ⟨_, rfl, p6, .list [.tuple [.str "Broken", .tuple [d, d2]], .tuple [.str "Broken", .tuple [d, d2]]], rfl,
      .lst upd_same n6 (.cons (pr _ t1 t1' s17 (w1 _ _ f14) (w1 _ _ g14)) (.cons (pr _ t2 t2' s17 (w2 _ _ f16) (w2 _ _ g16)) .nil)), g1, g2, g3, ?_⟩
    refine ⟨_, rfl, _, rfl, (by show 2 ≤ sizeLine; decide), fun q1 hq1 => ⟨(by show 2 ≤ sizeLine; decide), fun q2 hq2 => ⟨(by show 1 ≤ sizeLine; decide), fun q3 hq3 n3 => ?_⟩⟩⟩
    refine ⟨q3, 2, [.ref q2], rfl, rfl, upd_same, by decide, by decide, (by show 2 ≤ sizeLine; decide), fun q4 hq4 n4 => ?_⟩
    have x2 := (same_new (o := .tup [.str "Broken", .ref q1]) hq2).trans ((same_new (o := .lst [.ref q2]) hq3).trans (same_new (o := .lst (List.replicate (2 : Int).toNat [V.ref q2]).flatten) hq4))
    have x3 := (same_new (o := .lst [.ref q2]) hq3).trans (same_new (o := .lst (List.replicate (2 : Int).toNat [V.ref q2]).flatten) hq4)
    have x1 := (same_new (o := .tup [v, u]) hq1).trans x2
    have shT := pr _ q2 q1 (s17.trans x1) (x3 _ _ upd_same) (x2 _ _ upd_same)
    refine ⟨q4, .list [.tuple [.str "Broken", .tuple [d, d2]], .tuple [.str "Broken", .tuple [d, d2]]], rfl, .lst upd_same n4 (.cons shT (.cons shT .nil)), g1, g2, g3, rfl, ?_⟩
    rw [decide_eq_true rfl]
    exact k _ ((s1.trans s2).trans (SameX.of (s17.trans x1)))
end
end Xk

/-! The law. -/
namespace Xk
open PySem PySem.Spec PyProof.Rows L2
abbrev sLaw : Stmt := top 44
abbrev nLaw : List Str := ["_law_cells", "_law_found", "_law_at"]
theorem scL : FnScope nLaw ["_law_cells"] (defScope sLaw) := ⟨rfl, rfl, rfl, by decide +kernel, rfl, by decide +kernel, by decide +kernel⟩
def spLaw (K : PySem.W.Frag) : Sp := fun vs H Q _ => ∃ (a : Addr) (ns : List Int), vs = [.ref a] ∧ SqL K H a (ns.map V.int) ∧ ns.length ≤ 63 ∧ ∀ H', Q (.bl true) H'
def consts : PyData := .list [.int 5, .int 1000, .int 500, .int 12, .int 5, .int 4, .int (10 ^ 40)]
theorem okC : okD consts = true := by decide +kernel
structure TxL (mg : Str → Option Value) : Prop where
  d1 : ∃ t, mg "MOST_DEGREE" = some (.int 5 t)
  d2 : ∃ t, mg "MOST_TERM" = some (.int 1000 t)
  d3 : ∃ t, mg "MOST_PANES" = some (.int 500 t)
  d4 : ∃ t, mg "MOST_LEAVES" = some (.int 12 t)
  d5 : ∃ t, mg "MOST_FEW" = some (.int 5 t)
  d6 : ∃ t, mg "MOST_SHAPES" = some (.int 4 t)
  d7 : ∃ t, mg "MOST_SCALE" = some (.int (10 ^ 40) t)
theorem all_true : ∀ n : Nat, (List.replicate n true).all id = true := fun n => by
  rw [List.all_eq_true]
  intro x hx
  exact (List.mem_replicate.mp hx).2
section
variable {P : Program} {w : World} {K : PySem.W.Frag} {mg : Str → Option Value} {base : Heap} {c : Nat → Addr} {f fR fK : Addr} {fd fdR fdK : FuncData}
theorem ok_law (F : Fun K "law" "law" sLaw f fd) (T : Tx P w K mg base c) (L : TxL mg)
    (FR : FnG P w K mg base 4 fR fdR ["_law_rack_here"] spRight) (bR : Binds K fdR ["_law_rack_here"] []) (mR : mg "_law_right" = some (.ref fR)) (kR : PySem.W.keepIn K (.ref fR) = true)
    (FK : FnOk P w K mg base CX0 1 fK fdK ["_law_cells", "_law_at"] (spRack K)) (bK : Binds K fdK ["_law_cells", "_law_at"] []) (mK : mg "_law_rack" = some (.ref fK)) (kK : PySem.W.keepIn K (.ref fK) = true) :
    FnG P w K mg base 5 f fd ["_law_cells"] (spLaw K) := by
  refine fn_g F scL (fun vs H Q E h => ?_) (fun cdv A outer s H vs Q E hr hG h => ?_)
  · obtain ⟨a, ns, rfl, _⟩ := h
    rfl
  · obtain ⟨a, ns, rfl, hS, hlen, k⟩ := h
    obtain ⟨u1, d1⟩ := L.d1
    obtain ⟨u2, d2⟩ := L.d2
    obtain ⟨u3, d3⟩ := L.d3
    obtain ⟨u4, d4⟩ := L.d4
    obtain ⟨u5, d5⟩ := L.d5
    obtain ⟨u6, d6⟩ := L.d6
    obtain ⟨u7, d7⟩ := L.d7
    have r1 : Room 1 _ := hr.mono (by decide)
    have hu : (A.deeper (envOfC "law" (defScope sLaw) s.heap.objs.size f cdv)).units + 21 < cLine := by have := hr.un; omega
    have hG2 : (A.deeper (envOfC "law" (defScope sLaw) s.heap.objs.size f cdv)).guards = some [] := hG
    refine ⟨_, pss_cons (ps_set (i := 1) scL.nd rfl (Or.inl rfl) (pe_lstN (pa_cons (pe_glob (v := .int 5) (by rfl) d1 ⟨_, rfl⟩) (pa_cons (pe_glob (v := .int 1000) (by rfl) d2 ⟨_, rfl⟩) (pa_cons (pe_glob (v := .int 500) (by rfl) d3 ⟨_, rfl⟩)
        (pa_cons (pe_glob (v := .int 12) (by rfl) d4 ⟨_, rfl⟩) (pa_cons (pe_glob (v := .int 5) (by rfl) d5 ⟨_, rfl⟩) (pa_cons (pe_glob (v := .int 4) (by rfl) d6 ⟨_, rfl⟩) (pa_cons (pe_glob (v := .int (10 ^ 40)) (by rfl) d7 ⟨_, rfl⟩) pa_nil)))))))))
      (pss_cons (ps_if (pt_cmpR op_ne (pe_callB (call_repr hG2 hu) (by rfl) T.z_repr PyProof.Rows.boot_repr (pa_cons (pv 1) pa_nil))
          (pe_callB (call_repr hG2 hu) (by rfl) T.z_repr PyProof.Rows.boot_repr (pa_cons (pe_lstN (pa_cons pe_int (pa_cons pe_int (pa_cons pe_int (pa_cons pe_int (pa_cons pe_int (pa_cons pe_int (pa_cons (pe_op op_pow pe_int pe_int) pa_nil)))))))) pa_nil)) (nomark _))
          (pss_one (ps_ret pe_bl)) pss_nil)
      (pss_one (ps_ret (pe_callB (cr_all rfl) (by rfl) T.z_all PyProof.Rows.boot_all (pa_cons
        (pe_lc (own := [("_law_at", 2)]) (g := gName 2) (tt := tYes) (te := tCall spRight [] E0 (tCons (tCall (spRack K) [] E0 (tCons (tVar 0) (tCons (tVar 2) tNil))) tNil)) rfl scL.nd
          (pi_range1 (by rfl) T.z_range (pa_cons (pe_callB (call_max2 rfl) (by rfl) T.z_max PyProof.Rows.boot_max (pa_cons pe_int (pa_cons (pe_callB (call_min2 rfl) (by rfl) T.z_min PyProof.Rows.boot_min
            (pa_cons (pe_callB call_len_seq (by rfl) T.z_len PySem.boot_len (pa_cons (pv 0) pa_nil)) (pa_cons pe_int pa_nil))) pa_nil))) pa_nil))
          (blkOk_by (N := nLaw) (sc := defScope sLaw) (by decide +kernel)) (fun _ _ _ _ _ => pg_name (i := 2) scL.nd rfl (Or.inl rfl)) (fun _ _ _ _ _ => pts_nil)
          (fun _ _ _ _ _ => pe_callg FR hr hG2 (by rfl) mR kR bR (pa_cons (pe_call FK r1 (by rfl) mK kK bK .nil pass0 (pa_cons (pv 0) (pa_cons (pv 2) pa_nil))) pa_nil))) pa_nil))))), ?_⟩
    have e0 : L2.start nLaw [V.ref a] = [some (.ref a), none, none] := rfl
    rw [e0]
    obtain ⟨g1, g2, g3⟩ := okD_of okC
    refine ⟨(by show 7 ≤ sizeLine; decide), fun p1 hp1 n1 => ?_⟩
    simp only [gn, sub2]
    have s1 : Same H (upd H p1 (.lst [.int 5, .int 1000, .int 500, .int 12, .int 5, .int 4, .int (10 ^ 40)])) := same_new hp1
    refine ⟨_, rfl, p1, consts, rfl, .lst upd_same n1 (.cons (.int _) (.cons (.int _) (.cons (.int _) (.cons (.int _) (.cons (.int _) (.cons (.int _) (.cons (.int _) .nil))))))), g1, g2, g3, ?_⟩
    refine ⟨10, 40, rfl, rfl, ⟨by decide, by decide, by decide⟩, (by show 7 ≤ sizeLine; decide), fun p2 hp2 n2 => ?_⟩
    have s2 := s1.trans (same_new (o := .lst [.int 5, .int 1000, .int 500, .int 12, .int 5, .int 4, .int (10 ^ 40)]) hp2)
    refine ⟨p2, consts, rfl, .lst upd_same n2 (.cons (.int _) (.cons (.int _) (.cons (.int _) (.cons (.int _) (.cons (.int _) (.cons (.int _) (.cons (.int _) .nil))))))), g1, g2, g3, rfl, _, rfl, iteNS rfl ?_⟩
    have mn : -(2 ^ 62) ≤ (if (if (5 : Int) < (((ns.map V.int).length : Nat) : Int) then 5 else (((ns.map V.int).length : Nat) : Int)) > 2 then (if (5 : Int) < (((ns.map V.int).length : Nat) : Int) then 5 else (((ns.map V.int).length : Nat) : Int)) else 2) ∧
        (if (if (5 : Int) < (((ns.map V.int).length : Nat) : Int) then 5 else (((ns.map V.int).length : Nat) : Int)) > 2 then (if (5 : Int) < (((ns.map V.int).length : Nat) : Int) then 5 else (((ns.map V.int).length : Nat) : Int)) else 2) < 2 ^ 62 ∧
        (if (if (5 : Int) < (((ns.map V.int).length : Nat) : Int) then 5 else (((ns.map V.int).length : Nat) : Int)) > 2 then (if (5 : Int) < (((ns.map V.int).length : Nat) : Int) then 5 else (((ns.map V.int).length : Nat) : Int)) else 2).toNat ≤ 5 := by
      rw [List.length_map]
      refine ⟨?_, ?_, ?_⟩ <;> (split <;> split <;> omega)
    refine ⟨_, rfl, a, _, rfl, .inl (s2.seq hS), _, _, rfl, _, _, rfl, _, rfl, mn.1, mn.2.1, fun D hD => ?_⟩
    refine lc_range (fun i H' => Same (upd (upd H p1 (.lst [.int 5, .int 1000, .int 500, .int 12, .int 5, .int 4, .int (10 ^ 40)])) p2 (.lst [.int 5, .int 1000, .int 500, .int 12, .int 5, .int 4, .int (10 ^ 40)])) H' ∧
      H' D = some (.lst ((List.replicate i true).map V.bl))) ⟨same_new hD, upd_same⟩ (fun i H' hi e => ?_) (fun H' e => ?_)
    · obtain ⟨sT, hDl⟩ := e
      refine ⟨rfl, ?_⟩
      simp only [tYes, if_true]
      refine ⟨_, rfl, _, rfl, a, ns, i, (by rw [Int.zero_add]; rfl), sT.seq (s2.seq hS), hlen, fun p x y H2 k2 hp hr2 => ?_⟩
      refine ⟨p, x, y, 7, rfl, hr2, fun H3 k3 => ?_⟩
      have k4 : Same H' H3 := fun b o e => k3 b o (fun z => by rw [z, hp] at e; cases e) (k2 b o e)
      refine ⟨_, k4 _ _ hDl, ?_, ?_, ?_⟩
      · rw [List.length_map, List.length_replicate]
        exact Nat.lt_of_lt_of_le hi (Nat.le_trans mn.2.2 (by decide))
      · refine fun b o e => ?_
        rw [upd_ne (ne_of_none e hD)]
        exact k4 _ _ (sT _ _ e)
      · rw [upd_same, List.replicate_succ', List.map_append]
        rfl
    · obtain ⟨sT, hDl⟩ := e
      refine ⟨D, _, rfl, SqL.of hDl, ?_⟩
      rw [all_true]
      exact k _
end
end Xk

/-! Class by class. -/
namespace Xk
open PySem PySem.Spec PyProof.Rows L2
theorem kin_of {K : PySem.W.Frag} {c : Nat → Addr} {C : Addr} {bs : List Bool} (h : (kinEnts c).map (fun e => PySem.W.kitOne K (.ref C) e.1) = bs.map some) : KinOk K c C bs := fun i cv wd e => by
  have q := congrArg (fun l => l[i]?) h
  simp only [List.getElem?_map] at q
  rw [e, Option.map_some] at q
  cases z : bs[i]? with
  | none => rw [z] at q; cases q
  | some b =>
    rw [z] at q
    rw [Option.some.inj q, List.getD_eq_getElem?_getD, z]
    rfl
theorem vals_rev {zs : List V} {ws : List Value} (r : Vals zs ws) : Vals zs.reverse ws.reverse := by
  induction r with
  | nil => exact .nil
  | cons a _ ih =>
    rw [List.reverse_cons, List.reverse_cons]
    exact ih.append (.cons a .nil)
section
variable {P : Program} {w : World} {K : PySem.W.Frag} {mg : Str → Option Value} {base : Heap} {f Bc C : Addr} {fd : FuncData}
theorem mk2 (F : Fun K "__init__" "InvalidText.__init__" (ini 2) f fd) (R : BoC K Bc "ValueError.__init__") (mB : mg "BadValue" = some (.ref Bc)) (O : OxC K C Bc "ValueError.__new__" tlV) (no : PySem.W.findIn K (.ref C) "given" = some none)
    (at_ : mg "InvalidText" = some (.ref C)) (iC : PySem.W.findIn K (.ref C) "__init__" = some (some (.ref f))) (tI : PySem.W.typeIn K (.ref f) = some (.type "function")) : M1 P w K mg base "InvalidText" "given" C Bc "ValueError.__new__" tlV := by
  refine ⟨O, no, at_, _, _, f, fd, bseV, iC, tI, ok2 F R mB, ?_, ?_⟩
  · obtain ⟨oc, od, kV, doc, pm, an, cdv, ct, osl, rfl, lk, hcd⟩ := F.ex
    exact ⟨fun s us ws X l1 l2 => match us, l1, ws, l2 with | [_, _], _, [], _ => .of_eq rfl, fun r1 r2 => r1⟩
  · obtain ⟨oc, od, kV, doc, pm, an, cdv, ct, osl, rfl, lk, hcd⟩ := F.ex
    exact ⟨fun s us ws X l1 l2 => match us, l1, ws, l2 with | [_], _, [_], _ => .of_eq rfl, fun r1 r2 => r1.append r2⟩
abbrev bs2 : List Bool := [true, false, false, true, false, false, true, false, false, false, false, false, false, false, false, false, false, false, false, false, false, false, false, false, false, false, false, false, false, false]
theorem tal2 : tal (kinOf bs2) = .g1 "given" "InvalidText" := by kernel_rfl
theorem sc3 : FnScope ["self", "given"] ["self", "given"] (defScope (ini 3)) := ⟨rfl, rfl, rfl, by decide +kernel, rfl, by decide +kernel, by decide +kernel⟩
theorem oki3 (F : Fun K "__init__" "InvalidFraction.__init__" (ini 3) f fd) (R : BoC K Bc "ValueError.__init__") (mB : mg "BadValue" = some (.ref Bc)) : FnOk P w K mg base CX0 1 f fd ["self", "given"] (sp1 K Bc "ValueError.__new__" tlV "given") := by
  refine F.ok sc3 (fun vs H Q E h => ?_) (fun cdv A outer s H vs Q E hr h => ?_)
  · obtain ⟨H0, a, C, v, rfl, _⟩ := h
    rfl
  · obtain ⟨H0, a, C, v, rfl, T, hno, s0, a0, ha, k⟩ := h
    refine ⟨_, pss_cons (ps_expr (pe_bin R bseV rfl mB (pa_cons (pv 0) (pa_cons pe_str pa_nil)) rfl)) (pss_one (ps_ox (Bc := Bc) bseV (pv 0) (pv 1))), ?_⟩
    refine ⟨_, rfl, a, C, [.str _], rfl, by decide, T, ha, _, rfl, _, rfl, a, C, rfl, T, hno, .inl ⟨ha, fun dx hdx ne => ?_⟩⟩
    exact k _ (keep1 s0 a0 hdx) (.inr ⟨dx, upd_same, by rw [upd_ne ne, upd_same]⟩)
theorem mk3 (F : Fun K "__init__" "InvalidFraction.__init__" (ini 3) f fd) (R : BoC K Bc "ValueError.__init__") (mB : mg "BadValue" = some (.ref Bc)) (O : OxC K C Bc "ValueError.__new__" tlV) (no : PySem.W.findIn K (.ref C) "given" = some none)
    (at_ : mg "InvalidFraction" = some (.ref C)) (iC : PySem.W.findIn K (.ref C) "__init__" = some (some (.ref f))) (tI : PySem.W.typeIn K (.ref f) = some (.type "function")) : M1 P w K mg base "InvalidFraction" "given" C Bc "ValueError.__new__" tlV := by
  refine ⟨O, no, at_, _, _, f, fd, bseV, iC, tI, oki3 F R mB, ?_, ?_⟩
  · obtain ⟨oc, od, kV, doc, pm, an, cdv, ct, osl, rfl, lk, hcd⟩ := F.ex
    exact ⟨fun s us ws X l1 l2 => match us, l1, ws, l2 with | [_, _], _, [], _ => .of_eq rfl, fun r1 r2 => r1⟩
  · obtain ⟨oc, od, kV, doc, pm, an, cdv, ct, osl, rfl, lk, hcd⟩ := F.ex
    exact ⟨fun s us ws X l1 l2 => match us, l1, ws, l2 with | [_], _, [_], _ => .of_eq rfl, fun r1 r2 => r1.append r2⟩
abbrev bs3 : List Bool := [true, false, false, true, false, false, false, true, false, false, false, false, false, false, false, false, false, false, false, false, false, false, false, false, false, false, false, false, false, false]
theorem tal3 : tal (kinOf bs3) = .g1 "given" "InvalidFraction" := by kernel_rfl
theorem sc4 : FnScope ["self", "given"] ["self", "given"] (defScope (ini 4)) := ⟨rfl, rfl, rfl, by decide +kernel, rfl, by decide +kernel, by decide +kernel⟩
theorem oki4 (F : Fun K "__init__" "InvalidNumber.__init__" (ini 4) f fd) (R : BoC K Bc "ValueError.__init__") (mB : mg "BadValue" = some (.ref Bc)) : FnOk P w K mg base CX0 1 f fd ["self", "given"] (sp1 K Bc "ValueError.__new__" tlV "given") := by
  refine F.ok sc4 (fun vs H Q E h => ?_) (fun cdv A outer s H vs Q E hr h => ?_)
  · obtain ⟨H0, a, C, v, rfl, _⟩ := h
    rfl
  · obtain ⟨H0, a, C, v, rfl, T, hno, s0, a0, ha, k⟩ := h
    refine ⟨_, pss_cons (ps_expr (pe_bin R bseV rfl mB (pa_cons (pv 0) (pa_cons pe_str pa_nil)) rfl)) (pss_one (ps_ox (Bc := Bc) bseV (pv 0) (pv 1))), ?_⟩
    refine ⟨_, rfl, a, C, [.str _], rfl, by decide, T, ha, _, rfl, _, rfl, a, C, rfl, T, hno, .inl ⟨ha, fun dx hdx ne => ?_⟩⟩
    exact k _ (keep1 s0 a0 hdx) (.inr ⟨dx, upd_same, by rw [upd_ne ne, upd_same]⟩)
theorem mk4 (F : Fun K "__init__" "InvalidNumber.__init__" (ini 4) f fd) (R : BoC K Bc "ValueError.__init__") (mB : mg "BadValue" = some (.ref Bc)) (O : OxC K C Bc "ValueError.__new__" tlV) (no : PySem.W.findIn K (.ref C) "given" = some none)
    (at_ : mg "InvalidNumber" = some (.ref C)) (iC : PySem.W.findIn K (.ref C) "__init__" = some (some (.ref f))) (tI : PySem.W.typeIn K (.ref f) = some (.type "function")) : M1 P w K mg base "InvalidNumber" "given" C Bc "ValueError.__new__" tlV := by
  refine ⟨O, no, at_, _, _, f, fd, bseV, iC, tI, oki4 F R mB, ?_, ?_⟩
  · obtain ⟨oc, od, kV, doc, pm, an, cdv, ct, osl, rfl, lk, hcd⟩ := F.ex
    exact ⟨fun s us ws X l1 l2 => match us, l1, ws, l2 with | [_, _], _, [], _ => .of_eq rfl, fun r1 r2 => r1⟩
  · obtain ⟨oc, od, kV, doc, pm, an, cdv, ct, osl, rfl, lk, hcd⟩ := F.ex
    exact ⟨fun s us ws X l1 l2 => match us, l1, ws, l2 with | [_], _, [_], _ => .of_eq rfl, fun r1 r2 => r1.append r2⟩
abbrev bs4 : List Bool := [true, false, false, true, false, false, false, false, true, false, false, false, false, false, false, false, false, false, false, false, false, false, false, false, false, false, false, false, false, false]
theorem tal4 : tal (kinOf bs4) = .g1 "given" "InvalidNumber" := by kernel_rfl
theorem sc5 : FnScope ["self", "given"] ["self", "given"] (defScope (ini 5)) := ⟨rfl, rfl, rfl, by decide +kernel, rfl, by decide +kernel, by decide +kernel⟩
theorem oki5 (F : Fun K "__init__" "InvalidScale.__init__" (ini 5) f fd) (R : BoC K Bc "ValueError.__init__") (mB : mg "BadValue" = some (.ref Bc)) : FnOk P w K mg base CX0 1 f fd ["self", "given"] (sp1 K Bc "ValueError.__new__" tlV "given") := by
  refine F.ok sc5 (fun vs H Q E h => ?_) (fun cdv A outer s H vs Q E hr h => ?_)
  · obtain ⟨H0, a, C, v, rfl, _⟩ := h
    rfl
  · obtain ⟨H0, a, C, v, rfl, T, hno, s0, a0, ha, k⟩ := h
    refine ⟨_, pss_cons (ps_expr (pe_bin R bseV rfl mB (pa_cons (pv 0) (pa_cons pe_str pa_nil)) rfl)) (pss_one (ps_ox (Bc := Bc) bseV (pv 0) (pv 1))), ?_⟩
    refine ⟨_, rfl, a, C, [.str _], rfl, by decide, T, ha, _, rfl, _, rfl, a, C, rfl, T, hno, .inl ⟨ha, fun dx hdx ne => ?_⟩⟩
    exact k _ (keep1 s0 a0 hdx) (.inr ⟨dx, upd_same, by rw [upd_ne ne, upd_same]⟩)
theorem mk5 (F : Fun K "__init__" "InvalidScale.__init__" (ini 5) f fd) (R : BoC K Bc "ValueError.__init__") (mB : mg "BadValue" = some (.ref Bc)) (O : OxC K C Bc "ValueError.__new__" tlV) (no : PySem.W.findIn K (.ref C) "given" = some none)
    (at_ : mg "InvalidScale" = some (.ref C)) (iC : PySem.W.findIn K (.ref C) "__init__" = some (some (.ref f))) (tI : PySem.W.typeIn K (.ref f) = some (.type "function")) : M1 P w K mg base "InvalidScale" "given" C Bc "ValueError.__new__" tlV := by
  refine ⟨O, no, at_, _, _, f, fd, bseV, iC, tI, oki5 F R mB, ?_, ?_⟩
  · obtain ⟨oc, od, kV, doc, pm, an, cdv, ct, osl, rfl, lk, hcd⟩ := F.ex
    exact ⟨fun s us ws X l1 l2 => match us, l1, ws, l2 with | [_, _], _, [], _ => .of_eq rfl, fun r1 r2 => r1⟩
  · obtain ⟨oc, od, kV, doc, pm, an, cdv, ct, osl, rfl, lk, hcd⟩ := F.ex
    exact ⟨fun s us ws X l1 l2 => match us, l1, ws, l2 with | [_], _, [_], _ => .of_eq rfl, fun r1 r2 => r1.append r2⟩
abbrev bs5 : List Bool := [true, false, false, true, false, false, false, false, false, true, false, false, false, false, false, false, false, false, false, false, false, false, false, false, false, false, false, false, false, false]
theorem tal5 : tal (kinOf bs5) = .g1 "given" "InvalidScale" := by kernel_rfl
theorem sc6 : FnScope ["self", "given"] ["self", "given"] (defScope (ini 6)) := ⟨rfl, rfl, rfl, by decide +kernel, rfl, by decide +kernel, by decide +kernel⟩
theorem oki6 (F : Fun K "__init__" "InvalidTree.__init__" (ini 6) f fd) (R : BoC K Bc "ValueError.__init__") (mB : mg "BadValue" = some (.ref Bc)) : FnOk P w K mg base CX0 1 f fd ["self", "given"] (sp1 K Bc "ValueError.__new__" tlV "given") := by
  refine F.ok sc6 (fun vs H Q E h => ?_) (fun cdv A outer s H vs Q E hr h => ?_)
  · obtain ⟨H0, a, C, v, rfl, _⟩ := h
    rfl
  · obtain ⟨H0, a, C, v, rfl, T, hno, s0, a0, ha, k⟩ := h
    refine ⟨_, pss_cons (ps_expr (pe_bin R bseV rfl mB (pa_cons (pv 0) (pa_cons pe_str pa_nil)) rfl)) (pss_one (ps_ox (Bc := Bc) bseV (pv 0) (pv 1))), ?_⟩
    refine ⟨_, rfl, a, C, [.str _], rfl, by decide, T, ha, _, rfl, _, rfl, a, C, rfl, T, hno, .inl ⟨ha, fun dx hdx ne => ?_⟩⟩
    exact k _ (keep1 s0 a0 hdx) (.inr ⟨dx, upd_same, by rw [upd_ne ne, upd_same]⟩)
theorem mk6 (F : Fun K "__init__" "InvalidTree.__init__" (ini 6) f fd) (R : BoC K Bc "ValueError.__init__") (mB : mg "BadValue" = some (.ref Bc)) (O : OxC K C Bc "ValueError.__new__" tlV) (no : PySem.W.findIn K (.ref C) "given" = some none)
    (at_ : mg "InvalidTree" = some (.ref C)) (iC : PySem.W.findIn K (.ref C) "__init__" = some (some (.ref f))) (tI : PySem.W.typeIn K (.ref f) = some (.type "function")) : M1 P w K mg base "InvalidTree" "given" C Bc "ValueError.__new__" tlV := by
  refine ⟨O, no, at_, _, _, f, fd, bseV, iC, tI, oki6 F R mB, ?_, ?_⟩
  · obtain ⟨oc, od, kV, doc, pm, an, cdv, ct, osl, rfl, lk, hcd⟩ := F.ex
    exact ⟨fun s us ws X l1 l2 => match us, l1, ws, l2 with | [_, _], _, [], _ => .of_eq rfl, fun r1 r2 => r1⟩
  · obtain ⟨oc, od, kV, doc, pm, an, cdv, ct, osl, rfl, lk, hcd⟩ := F.ex
    exact ⟨fun s us ws X l1 l2 => match us, l1, ws, l2 with | [_], _, [_], _ => .of_eq rfl, fun r1 r2 => r1.append r2⟩
abbrev bs6 : List Bool := [true, false, false, true, false, false, false, false, false, false, true, false, false, false, false, false, false, false, false, false, false, false, false, false, false, false, false, false, false, false]
theorem tal6 : tal (kinOf bs6) = .g1 "given" "InvalidTree" := by kernel_rfl
theorem sc7 : FnScope ["self", "given"] ["self", "given"] (defScope (ini 7)) := ⟨rfl, rfl, rfl, by decide +kernel, rfl, by decide +kernel, by decide +kernel⟩
theorem oki7 (F : Fun K "__init__" "InvalidCount.__init__" (ini 7) f fd) (R : BoC K Bc "ValueError.__init__") (mB : mg "BadValue" = some (.ref Bc)) : FnOk P w K mg base CX0 1 f fd ["self", "given"] (sp1 K Bc "ValueError.__new__" tlV "given") := by
  refine F.ok sc7 (fun vs H Q E h => ?_) (fun cdv A outer s H vs Q E hr h => ?_)
  · obtain ⟨H0, a, C, v, rfl, _⟩ := h
    rfl
  · obtain ⟨H0, a, C, v, rfl, T, hno, s0, a0, ha, k⟩ := h
    refine ⟨_, pss_cons (ps_expr (pe_bin R bseV rfl mB (pa_cons (pv 0) (pa_cons pe_str pa_nil)) rfl)) (pss_one (ps_ox (Bc := Bc) bseV (pv 0) (pv 1))), ?_⟩
    refine ⟨_, rfl, a, C, [.str _], rfl, by decide, T, ha, _, rfl, _, rfl, a, C, rfl, T, hno, .inl ⟨ha, fun dx hdx ne => ?_⟩⟩
    exact k _ (keep1 s0 a0 hdx) (.inr ⟨dx, upd_same, by rw [upd_ne ne, upd_same]⟩)
theorem mk7 (F : Fun K "__init__" "InvalidCount.__init__" (ini 7) f fd) (R : BoC K Bc "ValueError.__init__") (mB : mg "BadValue" = some (.ref Bc)) (O : OxC K C Bc "ValueError.__new__" tlV) (no : PySem.W.findIn K (.ref C) "given" = some none)
    (at_ : mg "InvalidCount" = some (.ref C)) (iC : PySem.W.findIn K (.ref C) "__init__" = some (some (.ref f))) (tI : PySem.W.typeIn K (.ref f) = some (.type "function")) : M1 P w K mg base "InvalidCount" "given" C Bc "ValueError.__new__" tlV := by
  refine ⟨O, no, at_, _, _, f, fd, bseV, iC, tI, oki7 F R mB, ?_, ?_⟩
  · obtain ⟨oc, od, kV, doc, pm, an, cdv, ct, osl, rfl, lk, hcd⟩ := F.ex
    exact ⟨fun s us ws X l1 l2 => match us, l1, ws, l2 with | [_, _], _, [], _ => .of_eq rfl, fun r1 r2 => r1⟩
  · obtain ⟨oc, od, kV, doc, pm, an, cdv, ct, osl, rfl, lk, hcd⟩ := F.ex
    exact ⟨fun s us ws X l1 l2 => match us, l1, ws, l2 with | [_], _, [_], _ => .of_eq rfl, fun r1 r2 => r1.append r2⟩
abbrev bs7 : List Bool := [true, false, false, true, false, false, false, false, false, false, false, true, false, false, false, false, false, false, false, false, false, false, false, false, false, false, false, false, false, false]
theorem tal7 : tal (kinOf bs7) = .g1 "given" "InvalidCount" := by kernel_rfl
theorem sc8 : FnScope ["self", "given"] ["self", "given"] (defScope (ini 8)) := ⟨rfl, rfl, rfl, by decide +kernel, rfl, by decide +kernel, by decide +kernel⟩
theorem oki8 (F : Fun K "__init__" "InvalidWay.__init__" (ini 8) f fd) (R : BoC K Bc "ValueError.__init__") (mB : mg "BadValue" = some (.ref Bc)) : FnOk P w K mg base CX0 1 f fd ["self", "given"] (sp1 K Bc "ValueError.__new__" tlV "given") := by
  refine F.ok sc8 (fun vs H Q E h => ?_) (fun cdv A outer s H vs Q E hr h => ?_)
  · obtain ⟨H0, a, C, v, rfl, _⟩ := h
    rfl
  · obtain ⟨H0, a, C, v, rfl, T, hno, s0, a0, ha, k⟩ := h
    refine ⟨_, pss_cons (ps_expr (pe_bin R bseV rfl mB (pa_cons (pv 0) (pa_cons pe_str pa_nil)) rfl)) (pss_one (ps_ox (Bc := Bc) bseV (pv 0) (pv 1))), ?_⟩
    refine ⟨_, rfl, a, C, [.str _], rfl, by decide, T, ha, _, rfl, _, rfl, a, C, rfl, T, hno, .inl ⟨ha, fun dx hdx ne => ?_⟩⟩
    exact k _ (keep1 s0 a0 hdx) (.inr ⟨dx, upd_same, by rw [upd_ne ne, upd_same]⟩)
theorem mk8 (F : Fun K "__init__" "InvalidWay.__init__" (ini 8) f fd) (R : BoC K Bc "ValueError.__init__") (mB : mg "BadValue" = some (.ref Bc)) (O : OxC K C Bc "ValueError.__new__" tlV) (no : PySem.W.findIn K (.ref C) "given" = some none)
    (at_ : mg "InvalidWay" = some (.ref C)) (iC : PySem.W.findIn K (.ref C) "__init__" = some (some (.ref f))) (tI : PySem.W.typeIn K (.ref f) = some (.type "function")) : M1 P w K mg base "InvalidWay" "given" C Bc "ValueError.__new__" tlV := by
  refine ⟨O, no, at_, _, _, f, fd, bseV, iC, tI, oki8 F R mB, ?_, ?_⟩
  · obtain ⟨oc, od, kV, doc, pm, an, cdv, ct, osl, rfl, lk, hcd⟩ := F.ex
    exact ⟨fun s us ws X l1 l2 => match us, l1, ws, l2 with | [_, _], _, [], _ => .of_eq rfl, fun r1 r2 => r1⟩
  · obtain ⟨oc, od, kV, doc, pm, an, cdv, ct, osl, rfl, lk, hcd⟩ := F.ex
    exact ⟨fun s us ws X l1 l2 => match us, l1, ws, l2 with | [_], _, [_], _ => .of_eq rfl, fun r1 r2 => r1.append r2⟩
abbrev bs8 : List Bool := [true, false, false, true, false, false, false, false, false, false, false, false, true, false, false, false, false, false, false, false, false, false, false, false, false, false, false, false, false, false]
theorem tal8 : tal (kinOf bs8) = .g1 "given" "InvalidWay" := by kernel_rfl
theorem sc9 : FnScope ["self", "given"] ["self", "given"] (defScope (ini 9)) := ⟨rfl, rfl, rfl, by decide +kernel, rfl, by decide +kernel, by decide +kernel⟩
theorem oki9 (F : Fun K "__init__" "InvalidName.__init__" (ini 9) f fd) (R : BoC K Bc "ValueError.__init__") (mB : mg "BadValue" = some (.ref Bc)) : FnOk P w K mg base CX0 1 f fd ["self", "given"] (sp1 K Bc "ValueError.__new__" tlV "given") := by
  refine F.ok sc9 (fun vs H Q E h => ?_) (fun cdv A outer s H vs Q E hr h => ?_)
  · obtain ⟨H0, a, C, v, rfl, _⟩ := h
    rfl
  · obtain ⟨H0, a, C, v, rfl, T, hno, s0, a0, ha, k⟩ := h
    refine ⟨_, pss_cons (ps_expr (pe_bin R bseV rfl mB (pa_cons (pv 0) (pa_cons pe_str pa_nil)) rfl)) (pss_one (ps_ox (Bc := Bc) bseV (pv 0) (pv 1))), ?_⟩
    refine ⟨_, rfl, a, C, [.str _], rfl, by decide, T, ha, _, rfl, _, rfl, a, C, rfl, T, hno, .inl ⟨ha, fun dx hdx ne => ?_⟩⟩
    exact k _ (keep1 s0 a0 hdx) (.inr ⟨dx, upd_same, by rw [upd_ne ne, upd_same]⟩)
theorem mk9 (F : Fun K "__init__" "InvalidName.__init__" (ini 9) f fd) (R : BoC K Bc "ValueError.__init__") (mB : mg "BadValue" = some (.ref Bc)) (O : OxC K C Bc "ValueError.__new__" tlV) (no : PySem.W.findIn K (.ref C) "given" = some none)
    (at_ : mg "InvalidName" = some (.ref C)) (iC : PySem.W.findIn K (.ref C) "__init__" = some (some (.ref f))) (tI : PySem.W.typeIn K (.ref f) = some (.type "function")) : M1 P w K mg base "InvalidName" "given" C Bc "ValueError.__new__" tlV := by
  refine ⟨O, no, at_, _, _, f, fd, bseV, iC, tI, oki9 F R mB, ?_, ?_⟩
  · obtain ⟨oc, od, kV, doc, pm, an, cdv, ct, osl, rfl, lk, hcd⟩ := F.ex
    exact ⟨fun s us ws X l1 l2 => match us, l1, ws, l2 with | [_, _], _, [], _ => .of_eq rfl, fun r1 r2 => r1⟩
  · obtain ⟨oc, od, kV, doc, pm, an, cdv, ct, osl, rfl, lk, hcd⟩ := F.ex
    exact ⟨fun s us ws X l1 l2 => match us, l1, ws, l2 with | [_], _, [_], _ => .of_eq rfl, fun r1 r2 => r1.append r2⟩
abbrev bs9 : List Bool := [true, false, false, true, false, false, false, false, false, false, false, false, false, true, false, false, false, false, false, false, false, false, false, false, false, false, false, false, false, false]
theorem tal9 : tal (kinOf bs9) = .g1 "given" "InvalidName" := by kernel_rfl
theorem sc10 : FnScope ["self", "given"] ["self", "given"] (defScope (ini 10)) := ⟨rfl, rfl, rfl, by decide +kernel, rfl, by decide +kernel, by decide +kernel⟩
theorem oki10 (F : Fun K "__init__" "InvalidIndex.__init__" (ini 10) f fd) (R : BoC K Bc "ValueError.__init__") (mB : mg "BadValue" = some (.ref Bc)) : FnOk P w K mg base CX0 1 f fd ["self", "given"] (sp1 K Bc "ValueError.__new__" tlV "given") := by
  refine F.ok sc10 (fun vs H Q E h => ?_) (fun cdv A outer s H vs Q E hr h => ?_)
  · obtain ⟨H0, a, C, v, rfl, _⟩ := h
    rfl
  · obtain ⟨H0, a, C, v, rfl, T, hno, s0, a0, ha, k⟩ := h
    refine ⟨_, pss_cons (ps_expr (pe_bin R bseV rfl mB (pa_cons (pv 0) (pa_cons pe_str pa_nil)) rfl)) (pss_one (ps_ox (Bc := Bc) bseV (pv 0) (pv 1))), ?_⟩
    refine ⟨_, rfl, a, C, [.str _], rfl, by decide, T, ha, _, rfl, _, rfl, a, C, rfl, T, hno, .inl ⟨ha, fun dx hdx ne => ?_⟩⟩
    exact k _ (keep1 s0 a0 hdx) (.inr ⟨dx, upd_same, by rw [upd_ne ne, upd_same]⟩)
theorem mk10 (F : Fun K "__init__" "InvalidIndex.__init__" (ini 10) f fd) (R : BoC K Bc "ValueError.__init__") (mB : mg "BadValue" = some (.ref Bc)) (O : OxC K C Bc "ValueError.__new__" tlV) (no : PySem.W.findIn K (.ref C) "given" = some none)
    (at_ : mg "InvalidIndex" = some (.ref C)) (iC : PySem.W.findIn K (.ref C) "__init__" = some (some (.ref f))) (tI : PySem.W.typeIn K (.ref f) = some (.type "function")) : M1 P w K mg base "InvalidIndex" "given" C Bc "ValueError.__new__" tlV := by
  refine ⟨O, no, at_, _, _, f, fd, bseV, iC, tI, oki10 F R mB, ?_, ?_⟩
  · obtain ⟨oc, od, kV, doc, pm, an, cdv, ct, osl, rfl, lk, hcd⟩ := F.ex
    exact ⟨fun s us ws X l1 l2 => match us, l1, ws, l2 with | [_, _], _, [], _ => .of_eq rfl, fun r1 r2 => r1⟩
  · obtain ⟨oc, od, kV, doc, pm, an, cdv, ct, osl, rfl, lk, hcd⟩ := F.ex
    exact ⟨fun s us ws X l1 l2 => match us, l1, ws, l2 with | [_], _, [_], _ => .of_eq rfl, fun r1 r2 => r1.append r2⟩
abbrev bs10 : List Bool := [true, false, false, true, false, false, false, false, false, false, false, false, false, false, true, false, false, false, false, false, false, false, false, false, false, false, false, false, false, false]
theorem tal10 : tal (kinOf bs10) = .g1 "given" "InvalidIndex" := by kernel_rfl
theorem sc11 : FnScope ["self", "given"] ["self", "given"] (defScope (ini 11)) := ⟨rfl, rfl, rfl, by decide +kernel, rfl, by decide +kernel, by decide +kernel⟩
theorem oki11 (F : Fun K "__init__" "InvalidClaim.__init__" (ini 11) f fd) (R : BoC K Bc "ValueError.__init__") (mB : mg "BadValue" = some (.ref Bc)) : FnOk P w K mg base CX0 1 f fd ["self", "given"] (sp1 K Bc "ValueError.__new__" tlV "given") := by
  refine F.ok sc11 (fun vs H Q E h => ?_) (fun cdv A outer s H vs Q E hr h => ?_)
  · obtain ⟨H0, a, C, v, rfl, _⟩ := h
    rfl
  · obtain ⟨H0, a, C, v, rfl, T, hno, s0, a0, ha, k⟩ := h
    refine ⟨_, pss_cons (ps_expr (pe_bin R bseV rfl mB (pa_cons (pv 0) (pa_cons pe_str pa_nil)) rfl)) (pss_one (ps_ox (Bc := Bc) bseV (pv 0) (pv 1))), ?_⟩
    refine ⟨_, rfl, a, C, [.str _], rfl, by decide, T, ha, _, rfl, _, rfl, a, C, rfl, T, hno, .inl ⟨ha, fun dx hdx ne => ?_⟩⟩
    exact k _ (keep1 s0 a0 hdx) (.inr ⟨dx, upd_same, by rw [upd_ne ne, upd_same]⟩)
theorem mk11 (F : Fun K "__init__" "InvalidClaim.__init__" (ini 11) f fd) (R : BoC K Bc "ValueError.__init__") (mB : mg "BadValue" = some (.ref Bc)) (O : OxC K C Bc "ValueError.__new__" tlV) (no : PySem.W.findIn K (.ref C) "given" = some none)
    (at_ : mg "InvalidClaim" = some (.ref C)) (iC : PySem.W.findIn K (.ref C) "__init__" = some (some (.ref f))) (tI : PySem.W.typeIn K (.ref f) = some (.type "function")) : M1 P w K mg base "InvalidClaim" "given" C Bc "ValueError.__new__" tlV := by
  refine ⟨O, no, at_, _, _, f, fd, bseV, iC, tI, oki11 F R mB, ?_, ?_⟩
  · obtain ⟨oc, od, kV, doc, pm, an, cdv, ct, osl, rfl, lk, hcd⟩ := F.ex
    exact ⟨fun s us ws X l1 l2 => match us, l1, ws, l2 with | [_, _], _, [], _ => .of_eq rfl, fun r1 r2 => r1⟩
  · obtain ⟨oc, od, kV, doc, pm, an, cdv, ct, osl, rfl, lk, hcd⟩ := F.ex
    exact ⟨fun s us ws X l1 l2 => match us, l1, ws, l2 with | [_], _, [_], _ => .of_eq rfl, fun r1 r2 => r1.append r2⟩
abbrev bs11 : List Bool := [true, false, false, true, false, false, false, false, false, false, false, false, false, false, false, true, false, false, false, false, false, false, false, false, false, false, false, false, false, false]
theorem tal11 : tal (kinOf bs11) = .g1 "given" "InvalidClaim" := by kernel_rfl
theorem sc12 : FnScope ["self", "given"] ["self", "given"] (defScope (ini 12)) := ⟨rfl, rfl, rfl, by decide +kernel, rfl, by decide +kernel, by decide +kernel⟩
theorem oki12 (F : Fun K "__init__" "NotAShape.__init__" (ini 12) f fd) (R : BoC K Bc "ValueError.__init__") (mB : mg "BadValue" = some (.ref Bc)) : FnOk P w K mg base CX0 1 f fd ["self", "given"] (sp1 K Bc "ValueError.__new__" tlV "given") := by
  refine F.ok sc12 (fun vs H Q E h => ?_) (fun cdv A outer s H vs Q E hr h => ?_)
  · obtain ⟨H0, a, C, v, rfl, _⟩ := h
    rfl
  · obtain ⟨H0, a, C, v, rfl, T, hno, s0, a0, ha, k⟩ := h
    refine ⟨_, pss_cons (ps_expr (pe_bin R bseV rfl mB (pa_cons (pv 0) (pa_cons pe_str pa_nil)) rfl)) (pss_one (ps_ox (Bc := Bc) bseV (pv 0) (pv 1))), ?_⟩
    refine ⟨_, rfl, a, C, [.str _], rfl, by decide, T, ha, _, rfl, _, rfl, a, C, rfl, T, hno, .inl ⟨ha, fun dx hdx ne => ?_⟩⟩
    exact k _ (keep1 s0 a0 hdx) (.inr ⟨dx, upd_same, by rw [upd_ne ne, upd_same]⟩)
theorem mk12 (F : Fun K "__init__" "NotAShape.__init__" (ini 12) f fd) (R : BoC K Bc "ValueError.__init__") (mB : mg "BadValue" = some (.ref Bc)) (O : OxC K C Bc "ValueError.__new__" tlV) (no : PySem.W.findIn K (.ref C) "given" = some none)
    (at_ : mg "NotAShape" = some (.ref C)) (iC : PySem.W.findIn K (.ref C) "__init__" = some (some (.ref f))) (tI : PySem.W.typeIn K (.ref f) = some (.type "function")) : M1 P w K mg base "NotAShape" "given" C Bc "ValueError.__new__" tlV := by
  refine ⟨O, no, at_, _, _, f, fd, bseV, iC, tI, oki12 F R mB, ?_, ?_⟩
  · obtain ⟨oc, od, kV, doc, pm, an, cdv, ct, osl, rfl, lk, hcd⟩ := F.ex
    exact ⟨fun s us ws X l1 l2 => match us, l1, ws, l2 with | [_, _], _, [], _ => .of_eq rfl, fun r1 r2 => r1⟩
  · obtain ⟨oc, od, kV, doc, pm, an, cdv, ct, osl, rfl, lk, hcd⟩ := F.ex
    exact ⟨fun s us ws X l1 l2 => match us, l1, ws, l2 with | [_], _, [_], _ => .of_eq rfl, fun r1 r2 => r1.append r2⟩
abbrev bs12 : List Bool := [true, false, false, true, false, false, false, false, false, false, false, false, false, false, false, false, true, false, false, false, false, false, false, false, false, false, false, false, false, false]
theorem tal12 : tal (kinOf bs12) = .g1 "given" "NotAShape" := by kernel_rfl
theorem sc13 : FnScope ["self", "index"] ["self", "index"] (defScope (ini 13)) := ⟨rfl, rfl, rfl, by decide +kernel, rfl, by decide +kernel, by decide +kernel⟩
theorem oki13 (F : Fun K "__init__" "InvalidEquation.__init__" (ini 13) f fd) (R : BoC K Bc "ValueError.__init__") (mB : mg "BadValue" = some (.ref Bc)) : FnOk P w K mg base CX0 1 f fd ["self", "index"] (sp1 K Bc "ValueError.__new__" tlV "index") := by
  refine F.ok sc13 (fun vs H Q E h => ?_) (fun cdv A outer s H vs Q E hr h => ?_)
  · obtain ⟨H0, a, C, v, rfl, _⟩ := h
    rfl
  · obtain ⟨H0, a, C, v, rfl, T, hno, s0, a0, ha, k⟩ := h
    refine ⟨_, pss_cons (ps_expr (pe_bin R bseV rfl mB (pa_cons (pv 0) (pa_cons pe_str pa_nil)) rfl)) (pss_one (ps_ox (Bc := Bc) bseV (pv 0) (pv 1))), ?_⟩
    refine ⟨_, rfl, a, C, [.str _], rfl, by decide, T, ha, _, rfl, _, rfl, a, C, rfl, T, hno, .inl ⟨ha, fun dx hdx ne => ?_⟩⟩
    exact k _ (keep1 s0 a0 hdx) (.inr ⟨dx, upd_same, by rw [upd_ne ne, upd_same]⟩)
theorem mk13 (F : Fun K "__init__" "InvalidEquation.__init__" (ini 13) f fd) (R : BoC K Bc "ValueError.__init__") (mB : mg "BadValue" = some (.ref Bc)) (O : OxC K C Bc "ValueError.__new__" tlV) (no : PySem.W.findIn K (.ref C) "index" = some none)
    (at_ : mg "InvalidEquation" = some (.ref C)) (iC : PySem.W.findIn K (.ref C) "__init__" = some (some (.ref f))) (tI : PySem.W.typeIn K (.ref f) = some (.type "function")) : M1 P w K mg base "InvalidEquation" "index" C Bc "ValueError.__new__" tlV := by
  refine ⟨O, no, at_, _, _, f, fd, bseV, iC, tI, oki13 F R mB, ?_, ?_⟩
  · obtain ⟨oc, od, kV, doc, pm, an, cdv, ct, osl, rfl, lk, hcd⟩ := F.ex
    exact ⟨fun s us ws X l1 l2 => match us, l1, ws, l2 with | [_, _], _, [], _ => .of_eq rfl, fun r1 r2 => r1⟩
  · obtain ⟨oc, od, kV, doc, pm, an, cdv, ct, osl, rfl, lk, hcd⟩ := F.ex
    exact ⟨fun s us ws X l1 l2 => match us, l1, ws, l2 with | [_], _, [_], _ => .of_eq rfl, fun r1 r2 => r1.append r2⟩
abbrev bs13 : List Bool := [true, false, false, true, false, false, false, false, false, false, false, false, false, false, false, false, false, true, false, false, false, false, false, false, false, false, false, false, false, false]
theorem tal13 : tal (kinOf bs13) = .g1 "index" "InvalidEquation" := by kernel_rfl
theorem sc14 : FnScope ["self", "index"] ["self", "index"] (defScope (ini 14)) := ⟨rfl, rfl, rfl, by decide +kernel, rfl, by decide +kernel, by decide +kernel⟩
theorem oki14 (F : Fun K "__init__" "InvalidCutting.__init__" (ini 14) f fd) (R : BoC K Bc "ValueError.__init__") (mB : mg "BadValue" = some (.ref Bc)) : FnOk P w K mg base CX0 1 f fd ["self", "index"] (sp1 K Bc "ValueError.__new__" tlV "index") := by
  refine F.ok sc14 (fun vs H Q E h => ?_) (fun cdv A outer s H vs Q E hr h => ?_)
  · obtain ⟨H0, a, C, v, rfl, _⟩ := h
    rfl
  · obtain ⟨H0, a, C, v, rfl, T, hno, s0, a0, ha, k⟩ := h
    refine ⟨_, pss_cons (ps_expr (pe_bin R bseV rfl mB (pa_cons (pv 0) (pa_cons pe_str pa_nil)) rfl)) (pss_one (ps_ox (Bc := Bc) bseV (pv 0) (pv 1))), ?_⟩
    refine ⟨_, rfl, a, C, [.str _], rfl, by decide, T, ha, _, rfl, _, rfl, a, C, rfl, T, hno, .inl ⟨ha, fun dx hdx ne => ?_⟩⟩
    exact k _ (keep1 s0 a0 hdx) (.inr ⟨dx, upd_same, by rw [upd_ne ne, upd_same]⟩)
theorem mk14 (F : Fun K "__init__" "InvalidCutting.__init__" (ini 14) f fd) (R : BoC K Bc "ValueError.__init__") (mB : mg "BadValue" = some (.ref Bc)) (O : OxC K C Bc "ValueError.__new__" tlV) (no : PySem.W.findIn K (.ref C) "index" = some none)
    (at_ : mg "InvalidCutting" = some (.ref C)) (iC : PySem.W.findIn K (.ref C) "__init__" = some (some (.ref f))) (tI : PySem.W.typeIn K (.ref f) = some (.type "function")) : M1 P w K mg base "InvalidCutting" "index" C Bc "ValueError.__new__" tlV := by
  refine ⟨O, no, at_, _, _, f, fd, bseV, iC, tI, oki14 F R mB, ?_, ?_⟩
  · obtain ⟨oc, od, kV, doc, pm, an, cdv, ct, osl, rfl, lk, hcd⟩ := F.ex
    exact ⟨fun s us ws X l1 l2 => match us, l1, ws, l2 with | [_, _], _, [], _ => .of_eq rfl, fun r1 r2 => r1⟩
  · obtain ⟨oc, od, kV, doc, pm, an, cdv, ct, osl, rfl, lk, hcd⟩ := F.ex
    exact ⟨fun s us ws X l1 l2 => match us, l1, ws, l2 with | [_], _, [_], _ => .of_eq rfl, fun r1 r2 => r1.append r2⟩
abbrev bs14 : List Bool := [true, false, false, true, false, false, false, false, false, false, false, false, false, false, false, false, false, false, true, false, false, false, false, false, false, false, false, false, false, false]
theorem tal14 : tal (kinOf bs14) = .g1 "index" "InvalidCutting" := by kernel_rfl
theorem sc16 : FnScope ["self", "given"] ["self", "given"] (defScope (ini 16)) := ⟨rfl, rfl, rfl, by decide +kernel, rfl, by decide +kernel, by decide +kernel⟩
theorem oki16 (F : Fun K "__init__" "UnknownName.__init__" (ini 16) f fd) (R : BoC K Bc "LookupError.__init__") (mB : mg "BadName" = some (.ref Bc)) : FnOk P w K mg base CX0 1 f fd ["self", "given"] (sp1 K Bc "LookupError.__new__" tlL "given") := by
  refine F.ok sc16 (fun vs H Q E h => ?_) (fun cdv A outer s H vs Q E hr h => ?_)
  · obtain ⟨H0, a, C, v, rfl, _⟩ := h
    rfl
  · obtain ⟨H0, a, C, v, rfl, T, hno, s0, a0, ha, k⟩ := h
    refine ⟨_, pss_cons (ps_expr (pe_bin R bseL rfl mB (pa_cons (pv 0) (pa_cons pe_str pa_nil)) rfl)) (pss_one (ps_ox (Bc := Bc) bseL (pv 0) (pv 1))), ?_⟩
    refine ⟨_, rfl, a, C, [.str _], rfl, by decide, T, ha, _, rfl, _, rfl, a, C, rfl, T, hno, .inl ⟨ha, fun dx hdx ne => ?_⟩⟩
    exact k _ (keep1 s0 a0 hdx) (.inr ⟨dx, upd_same, by rw [upd_ne ne, upd_same]⟩)
theorem mk16 (F : Fun K "__init__" "UnknownName.__init__" (ini 16) f fd) (R : BoC K Bc "LookupError.__init__") (mB : mg "BadName" = some (.ref Bc)) (O : OxC K C Bc "LookupError.__new__" tlL) (no : PySem.W.findIn K (.ref C) "given" = some none)
    (at_ : mg "UnknownName" = some (.ref C)) (iC : PySem.W.findIn K (.ref C) "__init__" = some (some (.ref f))) (tI : PySem.W.typeIn K (.ref f) = some (.type "function")) : M1 P w K mg base "UnknownName" "given" C Bc "LookupError.__new__" tlL := by
  refine ⟨O, no, at_, _, _, f, fd, bseL, iC, tI, oki16 F R mB, ?_, ?_⟩
  · obtain ⟨oc, od, kV, doc, pm, an, cdv, ct, osl, rfl, lk, hcd⟩ := F.ex
    exact ⟨fun s us ws X l1 l2 => match us, l1, ws, l2 with | [_, _], _, [], _ => .of_eq rfl, fun r1 r2 => r1⟩
  · obtain ⟨oc, od, kV, doc, pm, an, cdv, ct, osl, rfl, lk, hcd⟩ := F.ex
    exact ⟨fun s us ws X l1 l2 => match us, l1, ws, l2 with | [_], _, [_], _ => .of_eq rfl, fun r1 r2 => r1.append r2⟩
abbrev bs16 : List Bool := [false, true, false, false, true, false, false, false, false, false, false, false, false, false, false, false, false, false, false, true, false, false, false, false, false, false, false, false, false, false]
theorem tal16 : tal (kinOf bs16) = .g1 "given" "UnknownName" := by kernel_rfl
theorem sc17 : FnScope ["self", "index"] ["self", "index"] (defScope (ini 17)) := ⟨rfl, rfl, rfl, by decide +kernel, rfl, by decide +kernel, by decide +kernel⟩
theorem oki17 (F : Fun K "__init__" "InUse.__init__" (ini 17) f fd) (R : BoC K Bc "LookupError.__init__") (mB : mg "BadName" = some (.ref Bc)) : FnOk P w K mg base CX0 1 f fd ["self", "index"] (sp1 K Bc "LookupError.__new__" tlL "index") := by
  refine F.ok sc17 (fun vs H Q E h => ?_) (fun cdv A outer s H vs Q E hr h => ?_)
  · obtain ⟨H0, a, C, v, rfl, _⟩ := h
    rfl
  · obtain ⟨H0, a, C, v, rfl, T, hno, s0, a0, ha, k⟩ := h
    refine ⟨_, pss_cons (ps_expr (pe_bin R bseL rfl mB (pa_cons (pv 0) (pa_cons pe_str pa_nil)) rfl)) (pss_one (ps_ox (Bc := Bc) bseL (pv 0) (pv 1))), ?_⟩
    refine ⟨_, rfl, a, C, [.str _], rfl, by decide, T, ha, _, rfl, _, rfl, a, C, rfl, T, hno, .inl ⟨ha, fun dx hdx ne => ?_⟩⟩
    exact k _ (keep1 s0 a0 hdx) (.inr ⟨dx, upd_same, by rw [upd_ne ne, upd_same]⟩)
theorem mk17 (F : Fun K "__init__" "InUse.__init__" (ini 17) f fd) (R : BoC K Bc "LookupError.__init__") (mB : mg "BadName" = some (.ref Bc)) (O : OxC K C Bc "LookupError.__new__" tlL) (no : PySem.W.findIn K (.ref C) "index" = some none)
    (at_ : mg "InUse" = some (.ref C)) (iC : PySem.W.findIn K (.ref C) "__init__" = some (some (.ref f))) (tI : PySem.W.typeIn K (.ref f) = some (.type "function")) : M1 P w K mg base "InUse" "index" C Bc "LookupError.__new__" tlL := by
  refine ⟨O, no, at_, _, _, f, fd, bseL, iC, tI, oki17 F R mB, ?_, ?_⟩
  · obtain ⟨oc, od, kV, doc, pm, an, cdv, ct, osl, rfl, lk, hcd⟩ := F.ex
    exact ⟨fun s us ws X l1 l2 => match us, l1, ws, l2 with | [_, _], _, [], _ => .of_eq rfl, fun r1 r2 => r1⟩
  · obtain ⟨oc, od, kV, doc, pm, an, cdv, ct, osl, rfl, lk, hcd⟩ := F.ex
    exact ⟨fun s us ws X l1 l2 => match us, l1, ws, l2 with | [_], _, [_], _ => .of_eq rfl, fun r1 r2 => r1.append r2⟩
abbrev bs17 : List Bool := [false, true, false, false, true, false, false, false, false, false, false, false, false, false, false, false, false, false, false, false, true, false, false, false, false, false, false, false, false, false]
theorem tal17 : tal (kinOf bs17) = .g1 "index" "InUse" := by kernel_rfl
theorem mk19 (F : Fun K "__init__" "NoRoot.__init__" (ini 19) f fd) (R : BoC K Bc "ArithmeticError.__init__") (mB : mg "NoAnswer" = some (.ref Bc)) (O : OxC K C Bc "ArithmeticError.__new__" tlA)
    (at_ : mg "NoRoot" = some (.ref C)) (iC : PySem.W.findIn K (.ref C) "__init__" = some (some (.ref f))) (tI : PySem.W.typeIn K (.ref f) = some (.type "function")) : M0 P w K mg base "NoRoot" C Bc "ArithmeticError.__new__" tlA := by
  refine ⟨O, at_, _, _, f, fd, bseA, iC, tI, ok19 F R mB, ?_⟩
  obtain ⟨oc, od, kV, doc, pm, an, cdv, ct, osl, rfl, lk, hcd⟩ := F.ex
  exact ⟨fun s us ws X l1 l2 => match us, l1, ws, l2 with | [_], _, [], _ => .of_eq rfl, fun r1 r2 => r1⟩
abbrev bs19 : List Bool := [false, false, true, false, false, true, false, false, false, false, false, false, false, false, false, false, false, false, false, false, false, true, false, false, false, false, false, false, false, false]
theorem tal19 : tal (kinOf bs19) = .g0 "NoRoot" := by kernel_rfl
theorem sc20 : FnScope ["self"] ["self"] (defScope (ini 20)) := ⟨rfl, rfl, rfl, by decide +kernel, rfl, by decide +kernel, by decide +kernel⟩
theorem oki20 (F : Fun K "__init__" "NoQuotient.__init__" (ini 20) f fd) (R : BoC K Bc "ArithmeticError.__init__") (mB : mg "NoAnswer" = some (.ref Bc)) : FnOk P w K mg base CX0 1 f fd ["self"] (sp0 K Bc "ArithmeticError.__new__" tlA) := by
  refine F.ok sc20 (fun vs H Q E h => ?_) (fun cdv A outer s H vs Q E hr h => ?_)
  · obtain ⟨H0, a, C, rfl, _⟩ := h
    rfl
  · obtain ⟨H0, a, C, rfl, T, s0, a0, ha, k⟩ := h
    refine ⟨_, pss_one (ps_expr (pe_bin R bseA rfl mB (pa_cons (pv 0) (pa_cons pe_str pa_nil)) rfl)), ?_⟩
    refine ⟨_, rfl, a, C, [.str _], rfl, by decide, T, ha, ?_⟩
    exact k _ s0 (.inl ⟨rfl, ha⟩)
theorem mk20 (F : Fun K "__init__" "NoQuotient.__init__" (ini 20) f fd) (R : BoC K Bc "ArithmeticError.__init__") (mB : mg "NoAnswer" = some (.ref Bc)) (O : OxC K C Bc "ArithmeticError.__new__" tlA)
    (at_ : mg "NoQuotient" = some (.ref C)) (iC : PySem.W.findIn K (.ref C) "__init__" = some (some (.ref f))) (tI : PySem.W.typeIn K (.ref f) = some (.type "function")) : M0 P w K mg base "NoQuotient" C Bc "ArithmeticError.__new__" tlA := by
  refine ⟨O, at_, _, _, f, fd, bseA, iC, tI, oki20 F R mB, ?_⟩
  obtain ⟨oc, od, kV, doc, pm, an, cdv, ct, osl, rfl, lk, hcd⟩ := F.ex
  exact ⟨fun s us ws X l1 l2 => match us, l1, ws, l2 with | [_], _, [], _ => .of_eq rfl, fun r1 r2 => r1⟩
abbrev bs20 : List Bool := [false, false, true, false, false, true, false, false, false, false, false, false, false, false, false, false, false, false, false, false, false, false, true, false, false, false, false, false, false, false]
theorem tal20 : tal (kinOf bs20) = .g0 "NoQuotient" := by kernel_rfl
theorem sc21 : FnScope ["self"] ["self"] (defScope (ini 21)) := ⟨rfl, rfl, rfl, by decide +kernel, rfl, by decide +kernel, by decide +kernel⟩
theorem oki21 (F : Fun K "__init__" "NotPositive.__init__" (ini 21) f fd) (R : BoC K Bc "ArithmeticError.__init__") (mB : mg "NoAnswer" = some (.ref Bc)) : FnOk P w K mg base CX0 1 f fd ["self"] (sp0 K Bc "ArithmeticError.__new__" tlA) := by
  refine F.ok sc21 (fun vs H Q E h => ?_) (fun cdv A outer s H vs Q E hr h => ?_)
  · obtain ⟨H0, a, C, rfl, _⟩ := h
    rfl
  · obtain ⟨H0, a, C, rfl, T, s0, a0, ha, k⟩ := h
    refine ⟨_, pss_one (ps_expr (pe_bin R bseA rfl mB (pa_cons (pv 0) (pa_cons pe_str pa_nil)) rfl)), ?_⟩
    refine ⟨_, rfl, a, C, [.str _], rfl, by decide, T, ha, ?_⟩
    exact k _ s0 (.inl ⟨rfl, ha⟩)
theorem mk21 (F : Fun K "__init__" "NotPositive.__init__" (ini 21) f fd) (R : BoC K Bc "ArithmeticError.__init__") (mB : mg "NoAnswer" = some (.ref Bc)) (O : OxC K C Bc "ArithmeticError.__new__" tlA)
    (at_ : mg "NotPositive" = some (.ref C)) (iC : PySem.W.findIn K (.ref C) "__init__" = some (some (.ref f))) (tI : PySem.W.typeIn K (.ref f) = some (.type "function")) : M0 P w K mg base "NotPositive" C Bc "ArithmeticError.__new__" tlA := by
  refine ⟨O, at_, _, _, f, fd, bseA, iC, tI, oki21 F R mB, ?_⟩
  obtain ⟨oc, od, kV, doc, pm, an, cdv, ct, osl, rfl, lk, hcd⟩ := F.ex
  exact ⟨fun s us ws X l1 l2 => match us, l1, ws, l2 with | [_], _, [], _ => .of_eq rfl, fun r1 r2 => r1⟩
abbrev bs21 : List Bool := [false, false, true, false, false, true, false, false, false, false, false, false, false, false, false, false, false, false, false, false, false, false, false, true, false, false, false, false, false, false]
theorem tal21 : tal (kinOf bs21) = .g0 "NotPositive" := by kernel_rfl
theorem sc22 : FnScope ["self"] ["self"] (defScope (ini 22)) := ⟨rfl, rfl, rfl, by decide +kernel, rfl, by decide +kernel, by decide +kernel⟩
theorem oki22 (F : Fun K "__init__" "NotFilled.__init__" (ini 22) f fd) (R : BoC K Bc "ArithmeticError.__init__") (mB : mg "NoAnswer" = some (.ref Bc)) : FnOk P w K mg base CX0 1 f fd ["self"] (sp0 K Bc "ArithmeticError.__new__" tlA) := by
  refine F.ok sc22 (fun vs H Q E h => ?_) (fun cdv A outer s H vs Q E hr h => ?_)
  · obtain ⟨H0, a, C, rfl, _⟩ := h
    rfl
  · obtain ⟨H0, a, C, rfl, T, s0, a0, ha, k⟩ := h
    refine ⟨_, pss_one (ps_expr (pe_bin R bseA rfl mB (pa_cons (pv 0) (pa_cons pe_str pa_nil)) rfl)), ?_⟩
    refine ⟨_, rfl, a, C, [.str _], rfl, by decide, T, ha, ?_⟩
    exact k _ s0 (.inl ⟨rfl, ha⟩)
theorem mk22 (F : Fun K "__init__" "NotFilled.__init__" (ini 22) f fd) (R : BoC K Bc "ArithmeticError.__init__") (mB : mg "NoAnswer" = some (.ref Bc)) (O : OxC K C Bc "ArithmeticError.__new__" tlA)
    (at_ : mg "NotFilled" = some (.ref C)) (iC : PySem.W.findIn K (.ref C) "__init__" = some (some (.ref f))) (tI : PySem.W.typeIn K (.ref f) = some (.type "function")) : M0 P w K mg base "NotFilled" C Bc "ArithmeticError.__new__" tlA := by
  refine ⟨O, at_, _, _, f, fd, bseA, iC, tI, oki22 F R mB, ?_⟩
  obtain ⟨oc, od, kV, doc, pm, an, cdv, ct, osl, rfl, lk, hcd⟩ := F.ex
  exact ⟨fun s us ws X l1 l2 => match us, l1, ws, l2 with | [_], _, [], _ => .of_eq rfl, fun r1 r2 => r1⟩
abbrev bs22 : List Bool := [false, false, true, false, false, true, false, false, false, false, false, false, false, false, false, false, false, false, false, false, false, false, false, false, true, false, false, false, false, false]
theorem tal22 : tal (kinOf bs22) = .g0 "NotFilled" := by kernel_rfl
theorem sc23 : FnScope ["self", "limit"] ["self", "limit"] (defScope (ini 23)) := ⟨rfl, rfl, rfl, by decide +kernel, rfl, by decide +kernel, by decide +kernel⟩
theorem oki23 (F : Fun K "__init__" "TooMany.__init__" (ini 23) f fd) (R : BoC K Bc "ArithmeticError.__init__") (mB : mg "NoAnswer" = some (.ref Bc)) : FnOk P w K mg base CX0 1 f fd ["self", "limit"] (sp1 K Bc "ArithmeticError.__new__" tlA "limit") := by
  refine F.ok sc23 (fun vs H Q E h => ?_) (fun cdv A outer s H vs Q E hr h => ?_)
  · obtain ⟨H0, a, C, v, rfl, _⟩ := h
    rfl
  · obtain ⟨H0, a, C, v, rfl, T, hno, s0, a0, ha, k⟩ := h
    refine ⟨_, pss_cons (ps_expr (pe_bin R bseA rfl mB (pa_cons (pv 0) (pa_cons pe_str pa_nil)) rfl)) (pss_one (ps_ox (Bc := Bc) bseA (pv 0) (pv 1))), ?_⟩
    refine ⟨_, rfl, a, C, [.str _], rfl, by decide, T, ha, _, rfl, _, rfl, a, C, rfl, T, hno, .inl ⟨ha, fun dx hdx ne => ?_⟩⟩
    exact k _ (keep1 s0 a0 hdx) (.inr ⟨dx, upd_same, by rw [upd_ne ne, upd_same]⟩)
theorem mk23 (F : Fun K "__init__" "TooMany.__init__" (ini 23) f fd) (R : BoC K Bc "ArithmeticError.__init__") (mB : mg "NoAnswer" = some (.ref Bc)) (O : OxC K C Bc "ArithmeticError.__new__" tlA) (no : PySem.W.findIn K (.ref C) "limit" = some none)
    (at_ : mg "TooMany" = some (.ref C)) (iC : PySem.W.findIn K (.ref C) "__init__" = some (some (.ref f))) (tI : PySem.W.typeIn K (.ref f) = some (.type "function")) : M1 P w K mg base "TooMany" "limit" C Bc "ArithmeticError.__new__" tlA := by
  refine ⟨O, no, at_, _, _, f, fd, bseA, iC, tI, oki23 F R mB, ?_, ?_⟩
  · obtain ⟨oc, od, kV, doc, pm, an, cdv, ct, osl, rfl, lk, hcd⟩ := F.ex
    exact ⟨fun s us ws X l1 l2 => match us, l1, ws, l2 with | [_, _], _, [], _ => .of_eq rfl, fun r1 r2 => r1⟩
  · obtain ⟨oc, od, kV, doc, pm, an, cdv, ct, osl, rfl, lk, hcd⟩ := F.ex
    exact ⟨fun s us ws X l1 l2 => match us, l1, ws, l2 with | [_], _, [_], _ => .of_eq rfl, fun r1 r2 => r1.append r2⟩
abbrev bs23 : List Bool := [false, false, true, false, false, true, false, false, false, false, false, false, false, false, false, false, false, false, false, false, false, false, false, false, false, true, false, false, false, false]
theorem tal23 : tal (kinOf bs23) = .g1 "limit" "TooMany" := by kernel_rfl
theorem sc24 : FnScope ["self"] ["self"] (defScope (ini 24)) := ⟨rfl, rfl, rfl, by decide +kernel, rfl, by decide +kernel, by decide +kernel⟩
theorem oki24 (F : Fun K "__init__" "Outside.__init__" (ini 24) f fd) (R : BoC K Bc "ArithmeticError.__init__") (mB : mg "NoAnswer" = some (.ref Bc)) : FnOk P w K mg base CX0 1 f fd ["self"] (sp0 K Bc "ArithmeticError.__new__" tlA) := by
  refine F.ok sc24 (fun vs H Q E h => ?_) (fun cdv A outer s H vs Q E hr h => ?_)
  · obtain ⟨H0, a, C, rfl, _⟩ := h
    rfl
  · obtain ⟨H0, a, C, rfl, T, s0, a0, ha, k⟩ := h
    refine ⟨_, pss_one (ps_expr (pe_bin R bseA rfl mB (pa_cons (pv 0) (pa_cons pe_str pa_nil)) rfl)), ?_⟩
    refine ⟨_, rfl, a, C, [.str _], rfl, by decide, T, ha, ?_⟩
    exact k _ s0 (.inl ⟨rfl, ha⟩)
theorem mk24 (F : Fun K "__init__" "Outside.__init__" (ini 24) f fd) (R : BoC K Bc "ArithmeticError.__init__") (mB : mg "NoAnswer" = some (.ref Bc)) (O : OxC K C Bc "ArithmeticError.__new__" tlA)
    (at_ : mg "Outside" = some (.ref C)) (iC : PySem.W.findIn K (.ref C) "__init__" = some (some (.ref f))) (tI : PySem.W.typeIn K (.ref f) = some (.type "function")) : M0 P w K mg base "Outside" C Bc "ArithmeticError.__new__" tlA := by
  refine ⟨O, at_, _, _, f, fd, bseA, iC, tI, oki24 F R mB, ?_⟩
  obtain ⟨oc, od, kV, doc, pm, an, cdv, ct, osl, rfl, lk, hcd⟩ := F.ex
  exact ⟨fun s us ws X l1 l2 => match us, l1, ws, l2 with | [_], _, [], _ => .of_eq rfl, fun r1 r2 => r1⟩
abbrev bs24 : List Bool := [false, false, true, false, false, true, false, false, false, false, false, false, false, false, false, false, false, false, false, false, false, false, false, false, false, false, true, false, false, false]
theorem tal24 : tal (kinOf bs24) = .g0 "Outside" := by kernel_rfl
theorem sc25 : FnScope ["self", "index"] ["self", "index"] (defScope (ini 25)) := ⟨rfl, rfl, rfl, by decide +kernel, rfl, by decide +kernel, by decide +kernel⟩
theorem oki25 (F : Fun K "__init__" "Overlaps.__init__" (ini 25) f fd) (R : BoC K Bc "ArithmeticError.__init__") (mB : mg "NoAnswer" = some (.ref Bc)) : FnOk P w K mg base CX0 1 f fd ["self", "index"] (sp1 K Bc "ArithmeticError.__new__" tlA "index") := by
  refine F.ok sc25 (fun vs H Q E h => ?_) (fun cdv A outer s H vs Q E hr h => ?_)
  · obtain ⟨H0, a, C, v, rfl, _⟩ := h
    rfl
  · obtain ⟨H0, a, C, v, rfl, T, hno, s0, a0, ha, k⟩ := h
    refine ⟨_, pss_cons (ps_expr (pe_bin R bseA rfl mB (pa_cons (pv 0) (pa_cons pe_str pa_nil)) rfl)) (pss_one (ps_ox (Bc := Bc) bseA (pv 0) (pv 1))), ?_⟩
    refine ⟨_, rfl, a, C, [.str _], rfl, by decide, T, ha, _, rfl, _, rfl, a, C, rfl, T, hno, .inl ⟨ha, fun dx hdx ne => ?_⟩⟩
    exact k _ (keep1 s0 a0 hdx) (.inr ⟨dx, upd_same, by rw [upd_ne ne, upd_same]⟩)
theorem mk25 (F : Fun K "__init__" "Overlaps.__init__" (ini 25) f fd) (R : BoC K Bc "ArithmeticError.__init__") (mB : mg "NoAnswer" = some (.ref Bc)) (O : OxC K C Bc "ArithmeticError.__new__" tlA) (no : PySem.W.findIn K (.ref C) "index" = some none)
    (at_ : mg "Overlaps" = some (.ref C)) (iC : PySem.W.findIn K (.ref C) "__init__" = some (some (.ref f))) (tI : PySem.W.typeIn K (.ref f) = some (.type "function")) : M1 P w K mg base "Overlaps" "index" C Bc "ArithmeticError.__new__" tlA := by
  refine ⟨O, no, at_, _, _, f, fd, bseA, iC, tI, oki25 F R mB, ?_, ?_⟩
  · obtain ⟨oc, od, kV, doc, pm, an, cdv, ct, osl, rfl, lk, hcd⟩ := F.ex
    exact ⟨fun s us ws X l1 l2 => match us, l1, ws, l2 with | [_, _], _, [], _ => .of_eq rfl, fun r1 r2 => r1⟩
  · obtain ⟨oc, od, kV, doc, pm, an, cdv, ct, osl, rfl, lk, hcd⟩ := F.ex
    exact ⟨fun s us ws X l1 l2 => match us, l1, ws, l2 with | [_], _, [_], _ => .of_eq rfl, fun r1 r2 => r1.append r2⟩
abbrev bs25 : List Bool := [false, false, true, false, false, true, false, false, false, false, false, false, false, false, false, false, false, false, false, false, false, false, false, false, false, false, false, true, false, false]
theorem tal25 : tal (kinOf bs25) = .g1 "index" "Overlaps" := by kernel_rfl
theorem sc26 : FnScope ["self"] ["self"] (defScope (ini 26)) := ⟨rfl, rfl, rfl, by decide +kernel, rfl, by decide +kernel, by decide +kernel⟩
theorem oki26 (F : Fun K "__init__" "NothingToUndo.__init__" (ini 26) f fd) (R : BoC K Bc "ArithmeticError.__init__") (mB : mg "NoAnswer" = some (.ref Bc)) : FnOk P w K mg base CX0 1 f fd ["self"] (sp0 K Bc "ArithmeticError.__new__" tlA) := by
  refine F.ok sc26 (fun vs H Q E h => ?_) (fun cdv A outer s H vs Q E hr h => ?_)
  · obtain ⟨H0, a, C, rfl, _⟩ := h
    rfl
  · obtain ⟨H0, a, C, rfl, T, s0, a0, ha, k⟩ := h
    refine ⟨_, pss_one (ps_expr (pe_bin R bseA rfl mB (pa_cons (pv 0) (pa_cons pe_str pa_nil)) rfl)), ?_⟩
    refine ⟨_, rfl, a, C, [.str _], rfl, by decide, T, ha, ?_⟩
    exact k _ s0 (.inl ⟨rfl, ha⟩)
theorem mk26 (F : Fun K "__init__" "NothingToUndo.__init__" (ini 26) f fd) (R : BoC K Bc "ArithmeticError.__init__") (mB : mg "NoAnswer" = some (.ref Bc)) (O : OxC K C Bc "ArithmeticError.__new__" tlA)
    (at_ : mg "NothingToUndo" = some (.ref C)) (iC : PySem.W.findIn K (.ref C) "__init__" = some (some (.ref f))) (tI : PySem.W.typeIn K (.ref f) = some (.type "function")) : M0 P w K mg base "NothingToUndo" C Bc "ArithmeticError.__new__" tlA := by
  refine ⟨O, at_, _, _, f, fd, bseA, iC, tI, oki26 F R mB, ?_⟩
  obtain ⟨oc, od, kV, doc, pm, an, cdv, ct, osl, rfl, lk, hcd⟩ := F.ex
  exact ⟨fun s us ws X l1 l2 => match us, l1, ws, l2 with | [_], _, [], _ => .of_eq rfl, fun r1 r2 => r1⟩
abbrev bs26 : List Bool := [false, false, true, false, false, true, false, false, false, false, false, false, false, false, false, false, false, false, false, false, false, false, false, false, false, false, false, false, true, false]
theorem tal26 : tal (kinOf bs26) = .g0 "NothingToUndo" := by kernel_rfl
theorem mk27 (F : Fun K "__init__" "Broken.__init__" (ini 27) f fd) (R : BoC K Bc "ArithmeticError.__init__") (mB : mg "NoAnswer" = some (.ref Bc)) (O : OxC K C Bc "ArithmeticError.__new__" tlA) (no : PySem.W.findIn K (.ref C) "index" = some none) (no2 : PySem.W.findIn K (.ref C) "shown" = some none)
    (at_ : mg "Broken" = some (.ref C)) (iC : PySem.W.findIn K (.ref C) "__init__" = some (some (.ref f))) (tI : PySem.W.typeIn K (.ref f) = some (.type "function")) : M2 P w K mg base "Broken" "index" "shown" C Bc "ArithmeticError.__new__" tlA := by
  refine ⟨O, no, no2, at_, _, _, f, fd, bseA, iC, tI, ok27 F R mB, ?_, ?_⟩
  · obtain ⟨oc, od, kV, doc, pm, an, cdv, ct, osl, rfl, lk, hcd⟩ := F.ex
    exact ⟨fun s us ws X l1 l2 => match us, l1, ws, l2 with | [_, _, _], _, [], _ => .of_eq rfl, fun r1 r2 => r1⟩
  · obtain ⟨oc, od, kV, doc, pm, an, cdv, ct, osl, rfl, lk, hcd⟩ := F.ex
    exact ⟨fun s us ws X l1 l2 => match us, l1, ws, l2 with | [_], _, [_, _], _ => .of_eq rfl, fun r1 r2 => r1.append (vals_rev r2)⟩
abbrev bs27 : List Bool := [false, false, true, false, false, true, false, false, false, false, false, false, false, false, false, false, false, false, false, false, false, false, false, false, false, false, false, false, false, true]
theorem tal27 : tal (kinOf bs27) = .g2 := by kernel_rfl
end
end Xk

namespace Xk
open PySem PySem.Spec PyProof.Rows L2
noncomputable abbrev HK (p : Params) : PySem.W.Frag := hd.heap_39 p
def cA : Nat → Addr := fun i => [0, 24, 44, 63, 82, 101, 120, 139, 158, 177, 196, 215, 234, 253, 272, 284, 304, 323, 335, 355, 374, 393, 412, 431, 450, 469, 488, 507].getD i 0
theorem boc1 (p : Params) : BoC (HK p) (cA 1) "ValueError.__init__" := ⟨by kernel_rfl, by kernel_rfl, by kernel_rfl⟩
theorem boc15 (p : Params) : BoC (HK p) (cA 15) "LookupError.__init__" := ⟨by kernel_rfl, by kernel_rfl, by kernel_rfl⟩
theorem boc18 (p : Params) : BoC (HK p) (cA 18) "ArithmeticError.__init__" := ⟨by kernel_rfl, by kernel_rfl, by kernel_rfl⟩
theorem oxc2 (p : Params) : OxC (HK p) (cA 2) (cA 1) "ValueError.__new__" tlV :=
  ⟨⟨_, _, _, _, _, _, _, _, _, _, _, _, _, _, rfl⟩, by kernel_rfl, by kernel_rfl, by kernel_rfl, by kernel_rfl, by kernel_rfl, by kernel_rfl, by kernel_rfl, by kernel_rfl, by kernel_rfl, by kernel_rfl⟩
theorem kin2 (p : Params) : KinOk (HK p) cA (cA 2) bs2 := kin_of (by kernel_rfl)
theorem fI2 (p : Params) : ∃ f fd, Fun (HK p) "__init__" "InvalidText.__init__" (ini 2) f fd ∧ PySem.W.findIn (HK p) (.ref (cA 2)) "__init__" = some (some (.ref f)) ∧ PySem.W.typeIn (HK p) (.ref f) = some (.type "function") := by
  refine ⟨?f, ?fd, ⟨⟨?a1, ?a2, ?a3, ?a4, ?a5, ?a6, ?a7, ?a8, ?a9, ?e1, ?e2, ?e3⟩, ?e4⟩, ?e5, ?e6⟩
  case e5 => exact rfl
  case e1 => exact rfl
  case e2 => exact rfl
  case e3 => kernel_rfl
  case e4 => kernel_rfl
  case e6 => kernel_rfl
theorem no2_0 (p : Params) : PySem.W.findIn (HK p) (.ref (cA 2)) "given" = some none := by kernel_rfl
theorem oxc3 (p : Params) : OxC (HK p) (cA 3) (cA 1) "ValueError.__new__" tlV :=
  ⟨⟨_, _, _, _, _, _, _, _, _, _, _, _, _, _, rfl⟩, by kernel_rfl, by kernel_rfl, by kernel_rfl, by kernel_rfl, by kernel_rfl, by kernel_rfl, by kernel_rfl, by kernel_rfl, by kernel_rfl, by kernel_rfl⟩
theorem kin3 (p : Params) : KinOk (HK p) cA (cA 3) bs3 := kin_of (by kernel_rfl)
theorem fI3 (p : Params) : ∃ f fd, Fun (HK p) "__init__" "InvalidFraction.__init__" (ini 3) f fd ∧ PySem.W.findIn (HK p) (.ref (cA 3)) "__init__" = some (some (.ref f)) ∧ PySem.W.typeIn (HK p) (.ref f) = some (.type "function") := by
  refine ⟨?f, ?fd, ⟨⟨?a1, ?a2, ?a3, ?a4, ?a5, ?a6, ?a7, ?a8, ?a9, ?e1, ?e2, ?e3⟩, ?e4⟩, ?e5, ?e6⟩
  case e5 => exact rfl
  case e1 => exact rfl
  case e2 => exact rfl
  case e3 => kernel_rfl
  case e4 => kernel_rfl
  case e6 => kernel_rfl
theorem no3_0 (p : Params) : PySem.W.findIn (HK p) (.ref (cA 3)) "given" = some none := by kernel_rfl
theorem oxc4 (p : Params) : OxC (HK p) (cA 4) (cA 1) "ValueError.__new__" tlV :=
  ⟨⟨_, _, _, _, _, _, _, _, _, _, _, _, _, _, rfl⟩, by kernel_rfl, by kernel_rfl, by kernel_rfl, by kernel_rfl, by kernel_rfl, by kernel_rfl, by kernel_rfl, by kernel_rfl, by kernel_rfl, by kernel_rfl⟩
theorem kin4 (p : Params) : KinOk (HK p) cA (cA 4) bs4 := kin_of (by kernel_rfl)
theorem fI4 (p : Params) : ∃ f fd, Fun (HK p) "__init__" "InvalidNumber.__init__" (ini 4) f fd ∧ PySem.W.findIn (HK p) (.ref (cA 4)) "__init__" = some (some (.ref f)) ∧ PySem.W.typeIn (HK p) (.ref f) = some (.type "function") := by
  refine ⟨?f, ?fd, ⟨⟨?a1, ?a2, ?a3, ?a4, ?a5, ?a6, ?a7, ?a8, ?a9, ?e1, ?e2, ?e3⟩, ?e4⟩, ?e5, ?e6⟩
  case e5 => exact rfl
  case e1 => exact rfl
  case e2 => exact rfl
  case e3 => kernel_rfl
  case e4 => kernel_rfl
  case e6 => kernel_rfl
theorem no4_0 (p : Params) : PySem.W.findIn (HK p) (.ref (cA 4)) "given" = some none := by kernel_rfl
theorem oxc5 (p : Params) : OxC (HK p) (cA 5) (cA 1) "ValueError.__new__" tlV :=
  ⟨⟨_, _, _, _, _, _, _, _, _, _, _, _, _, _, rfl⟩, by kernel_rfl, by kernel_rfl, by kernel_rfl, by kernel_rfl, by kernel_rfl, by kernel_rfl, by kernel_rfl, by kernel_rfl, by kernel_rfl, by kernel_rfl⟩
theorem kin5 (p : Params) : KinOk (HK p) cA (cA 5) bs5 := kin_of (by kernel_rfl)
theorem fI5 (p : Params) : ∃ f fd, Fun (HK p) "__init__" "InvalidScale.__init__" (ini 5) f fd ∧ PySem.W.findIn (HK p) (.ref (cA 5)) "__init__" = some (some (.ref f)) ∧ PySem.W.typeIn (HK p) (.ref f) = some (.type "function") := by
  refine ⟨?f, ?fd, ⟨⟨?a1, ?a2, ?a3, ?a4, ?a5, ?a6, ?a7, ?a8, ?a9, ?e1, ?e2, ?e3⟩, ?e4⟩, ?e5, ?e6⟩
  case e5 => exact rfl
  case e1 => exact rfl
  case e2 => exact rfl
  case e3 => kernel_rfl
  case e4 => kernel_rfl
  case e6 => kernel_rfl
theorem no5_0 (p : Params) : PySem.W.findIn (HK p) (.ref (cA 5)) "given" = some none := by kernel_rfl
theorem oxc6 (p : Params) : OxC (HK p) (cA 6) (cA 1) "ValueError.__new__" tlV :=
  ⟨⟨_, _, _, _, _, _, _, _, _, _, _, _, _, _, rfl⟩, by kernel_rfl, by kernel_rfl, by kernel_rfl, by kernel_rfl, by kernel_rfl, by kernel_rfl, by kernel_rfl, by kernel_rfl, by kernel_rfl, by kernel_rfl⟩
theorem kin6 (p : Params) : KinOk (HK p) cA (cA 6) bs6 := kin_of (by kernel_rfl)
theorem fI6 (p : Params) : ∃ f fd, Fun (HK p) "__init__" "InvalidTree.__init__" (ini 6) f fd ∧ PySem.W.findIn (HK p) (.ref (cA 6)) "__init__" = some (some (.ref f)) ∧ PySem.W.typeIn (HK p) (.ref f) = some (.type "function") := by
  refine ⟨?f, ?fd, ⟨⟨?a1, ?a2, ?a3, ?a4, ?a5, ?a6, ?a7, ?a8, ?a9, ?e1, ?e2, ?e3⟩, ?e4⟩, ?e5, ?e6⟩
  case e5 => exact rfl
  case e1 => exact rfl
  case e2 => exact rfl
  case e3 => kernel_rfl
  case e4 => kernel_rfl
  case e6 => kernel_rfl
theorem no6_0 (p : Params) : PySem.W.findIn (HK p) (.ref (cA 6)) "given" = some none := by kernel_rfl
theorem oxc7 (p : Params) : OxC (HK p) (cA 7) (cA 1) "ValueError.__new__" tlV :=
  ⟨⟨_, _, _, _, _, _, _, _, _, _, _, _, _, _, rfl⟩, by kernel_rfl, by kernel_rfl, by kernel_rfl, by kernel_rfl, by kernel_rfl, by kernel_rfl, by kernel_rfl, by kernel_rfl, by kernel_rfl, by kernel_rfl⟩
theorem kin7 (p : Params) : KinOk (HK p) cA (cA 7) bs7 := kin_of (by kernel_rfl)
theorem fI7 (p : Params) : ∃ f fd, Fun (HK p) "__init__" "InvalidCount.__init__" (ini 7) f fd ∧ PySem.W.findIn (HK p) (.ref (cA 7)) "__init__" = some (some (.ref f)) ∧ PySem.W.typeIn (HK p) (.ref f) = some (.type "function") := by
  refine ⟨?f, ?fd, ⟨⟨?a1, ?a2, ?a3, ?a4, ?a5, ?a6, ?a7, ?a8, ?a9, ?e1, ?e2, ?e3⟩, ?e4⟩, ?e5, ?e6⟩
  case e5 => exact rfl
  case e1 => exact rfl
  case e2 => exact rfl
  case e3 => kernel_rfl
  case e4 => kernel_rfl
  case e6 => kernel_rfl
theorem no7_0 (p : Params) : PySem.W.findIn (HK p) (.ref (cA 7)) "given" = some none := by kernel_rfl
theorem oxc8 (p : Params) : OxC (HK p) (cA 8) (cA 1) "ValueError.__new__" tlV :=
  ⟨⟨_, _, _, _, _, _, _, _, _, _, _, _, _, _, rfl⟩, by kernel_rfl, by kernel_rfl, by kernel_rfl, by kernel_rfl, by kernel_rfl, by kernel_rfl, by kernel_rfl, by kernel_rfl, by kernel_rfl, by kernel_rfl⟩
theorem kin8 (p : Params) : KinOk (HK p) cA (cA 8) bs8 := kin_of (by kernel_rfl)
theorem fI8 (p : Params) : ∃ f fd, Fun (HK p) "__init__" "InvalidWay.__init__" (ini 8) f fd ∧ PySem.W.findIn (HK p) (.ref (cA 8)) "__init__" = some (some (.ref f)) ∧ PySem.W.typeIn (HK p) (.ref f) = some (.type "function") := by
  refine ⟨?f, ?fd, ⟨⟨?a1, ?a2, ?a3, ?a4, ?a5, ?a6, ?a7, ?a8, ?a9, ?e1, ?e2, ?e3⟩, ?e4⟩, ?e5, ?e6⟩
  case e5 => exact rfl
  case e1 => exact rfl
  case e2 => exact rfl
  case e3 => kernel_rfl
  case e4 => kernel_rfl
  case e6 => kernel_rfl
theorem no8_0 (p : Params) : PySem.W.findIn (HK p) (.ref (cA 8)) "given" = some none := by kernel_rfl
theorem oxc9 (p : Params) : OxC (HK p) (cA 9) (cA 1) "ValueError.__new__" tlV :=
  ⟨⟨_, _, _, _, _, _, _, _, _, _, _, _, _, _, rfl⟩, by kernel_rfl, by kernel_rfl, by kernel_rfl, by kernel_rfl, by kernel_rfl, by kernel_rfl, by kernel_rfl, by kernel_rfl, by kernel_rfl, by kernel_rfl⟩
theorem kin9 (p : Params) : KinOk (HK p) cA (cA 9) bs9 := kin_of (by kernel_rfl)
theorem fI9 (p : Params) : ∃ f fd, Fun (HK p) "__init__" "InvalidName.__init__" (ini 9) f fd ∧ PySem.W.findIn (HK p) (.ref (cA 9)) "__init__" = some (some (.ref f)) ∧ PySem.W.typeIn (HK p) (.ref f) = some (.type "function") := by
  refine ⟨?f, ?fd, ⟨⟨?a1, ?a2, ?a3, ?a4, ?a5, ?a6, ?a7, ?a8, ?a9, ?e1, ?e2, ?e3⟩, ?e4⟩, ?e5, ?e6⟩
  case e5 => exact rfl
  case e1 => exact rfl
  case e2 => exact rfl
  case e3 => kernel_rfl
  case e4 => kernel_rfl
  case e6 => kernel_rfl
theorem no9_0 (p : Params) : PySem.W.findIn (HK p) (.ref (cA 9)) "given" = some none := by kernel_rfl
theorem oxc10 (p : Params) : OxC (HK p) (cA 10) (cA 1) "ValueError.__new__" tlV :=
  ⟨⟨_, _, _, _, _, _, _, _, _, _, _, _, _, _, rfl⟩, by kernel_rfl, by kernel_rfl, by kernel_rfl, by kernel_rfl, by kernel_rfl, by kernel_rfl, by kernel_rfl, by kernel_rfl, by kernel_rfl, by kernel_rfl⟩
theorem kin10 (p : Params) : KinOk (HK p) cA (cA 10) bs10 := kin_of (by kernel_rfl)
theorem fI10 (p : Params) : ∃ f fd, Fun (HK p) "__init__" "InvalidIndex.__init__" (ini 10) f fd ∧ PySem.W.findIn (HK p) (.ref (cA 10)) "__init__" = some (some (.ref f)) ∧ PySem.W.typeIn (HK p) (.ref f) = some (.type "function") := by
  refine ⟨?f, ?fd, ⟨⟨?a1, ?a2, ?a3, ?a4, ?a5, ?a6, ?a7, ?a8, ?a9, ?e1, ?e2, ?e3⟩, ?e4⟩, ?e5, ?e6⟩
  case e5 => exact rfl
  case e1 => exact rfl
  case e2 => exact rfl
  case e3 => kernel_rfl
  case e4 => kernel_rfl
  case e6 => kernel_rfl
theorem no10_0 (p : Params) : PySem.W.findIn (HK p) (.ref (cA 10)) "given" = some none := by kernel_rfl
theorem oxc11 (p : Params) : OxC (HK p) (cA 11) (cA 1) "ValueError.__new__" tlV :=
  ⟨⟨_, _, _, _, _, _, _, _, _, _, _, _, _, _, rfl⟩, by kernel_rfl, by kernel_rfl, by kernel_rfl, by kernel_rfl, by kernel_rfl, by kernel_rfl, by kernel_rfl, by kernel_rfl, by kernel_rfl, by kernel_rfl⟩
theorem kin11 (p : Params) : KinOk (HK p) cA (cA 11) bs11 := kin_of (by kernel_rfl)
theorem fI11 (p : Params) : ∃ f fd, Fun (HK p) "__init__" "InvalidClaim.__init__" (ini 11) f fd ∧ PySem.W.findIn (HK p) (.ref (cA 11)) "__init__" = some (some (.ref f)) ∧ PySem.W.typeIn (HK p) (.ref f) = some (.type "function") := by
  refine ⟨?f, ?fd, ⟨⟨?a1, ?a2, ?a3, ?a4, ?a5, ?a6, ?a7, ?a8, ?a9, ?e1, ?e2, ?e3⟩, ?e4⟩, ?e5, ?e6⟩
  case e5 => exact rfl
  case e1 => exact rfl
  case e2 => exact rfl
  case e3 => kernel_rfl
  case e4 => kernel_rfl
  case e6 => kernel_rfl
theorem no11_0 (p : Params) : PySem.W.findIn (HK p) (.ref (cA 11)) "given" = some none := by kernel_rfl
theorem oxc12 (p : Params) : OxC (HK p) (cA 12) (cA 1) "ValueError.__new__" tlV :=
  ⟨⟨_, _, _, _, _, _, _, _, _, _, _, _, _, _, rfl⟩, by kernel_rfl, by kernel_rfl, by kernel_rfl, by kernel_rfl, by kernel_rfl, by kernel_rfl, by kernel_rfl, by kernel_rfl, by kernel_rfl, by kernel_rfl⟩
theorem kin12 (p : Params) : KinOk (HK p) cA (cA 12) bs12 := kin_of (by kernel_rfl)
theorem fI12 (p : Params) : ∃ f fd, Fun (HK p) "__init__" "NotAShape.__init__" (ini 12) f fd ∧ PySem.W.findIn (HK p) (.ref (cA 12)) "__init__" = some (some (.ref f)) ∧ PySem.W.typeIn (HK p) (.ref f) = some (.type "function") := by
  refine ⟨?f, ?fd, ⟨⟨?a1, ?a2, ?a3, ?a4, ?a5, ?a6, ?a7, ?a8, ?a9, ?e1, ?e2, ?e3⟩, ?e4⟩, ?e5, ?e6⟩
  case e5 => exact rfl
  case e1 => exact rfl
  case e2 => exact rfl
  case e3 => kernel_rfl
  case e4 => kernel_rfl
  case e6 => kernel_rfl
theorem no12_0 (p : Params) : PySem.W.findIn (HK p) (.ref (cA 12)) "given" = some none := by kernel_rfl
theorem oxc13 (p : Params) : OxC (HK p) (cA 13) (cA 1) "ValueError.__new__" tlV :=
  ⟨⟨_, _, _, _, _, _, _, _, _, _, _, _, _, _, rfl⟩, by kernel_rfl, by kernel_rfl, by kernel_rfl, by kernel_rfl, by kernel_rfl, by kernel_rfl, by kernel_rfl, by kernel_rfl, by kernel_rfl, by kernel_rfl⟩
theorem kin13 (p : Params) : KinOk (HK p) cA (cA 13) bs13 := kin_of (by kernel_rfl)
theorem fI13 (p : Params) : ∃ f fd, Fun (HK p) "__init__" "InvalidEquation.__init__" (ini 13) f fd ∧ PySem.W.findIn (HK p) (.ref (cA 13)) "__init__" = some (some (.ref f)) ∧ PySem.W.typeIn (HK p) (.ref f) = some (.type "function") := by
  refine ⟨?f, ?fd, ⟨⟨?a1, ?a2, ?a3, ?a4, ?a5, ?a6, ?a7, ?a8, ?a9, ?e1, ?e2, ?e3⟩, ?e4⟩, ?e5, ?e6⟩
  case e5 => exact rfl
  case e1 => exact rfl
  case e2 => exact rfl
  case e3 => kernel_rfl
  case e4 => kernel_rfl
  case e6 => kernel_rfl
theorem no13_0 (p : Params) : PySem.W.findIn (HK p) (.ref (cA 13)) "index" = some none := by kernel_rfl
theorem oxc14 (p : Params) : OxC (HK p) (cA 14) (cA 1) "ValueError.__new__" tlV :=
  ⟨⟨_, _, _, _, _, _, _, _, _, _, _, _, _, _, rfl⟩, by kernel_rfl, by kernel_rfl, by kernel_rfl, by kernel_rfl, by kernel_rfl, by kernel_rfl, by kernel_rfl, by kernel_rfl, by kernel_rfl, by kernel_rfl⟩
theorem kin14 (p : Params) : KinOk (HK p) cA (cA 14) bs14 := kin_of (by kernel_rfl)
theorem fI14 (p : Params) : ∃ f fd, Fun (HK p) "__init__" "InvalidCutting.__init__" (ini 14) f fd ∧ PySem.W.findIn (HK p) (.ref (cA 14)) "__init__" = some (some (.ref f)) ∧ PySem.W.typeIn (HK p) (.ref f) = some (.type "function") := by
  refine ⟨?f, ?fd, ⟨⟨?a1, ?a2, ?a3, ?a4, ?a5, ?a6, ?a7, ?a8, ?a9, ?e1, ?e2, ?e3⟩, ?e4⟩, ?e5, ?e6⟩
  case e5 => exact rfl
  case e1 => exact rfl
  case e2 => exact rfl
  case e3 => kernel_rfl
  case e4 => kernel_rfl
  case e6 => kernel_rfl
theorem no14_0 (p : Params) : PySem.W.findIn (HK p) (.ref (cA 14)) "index" = some none := by kernel_rfl
theorem oxc16 (p : Params) : OxC (HK p) (cA 16) (cA 15) "LookupError.__new__" tlL :=
  ⟨⟨_, _, _, _, _, _, _, _, _, _, _, _, _, _, rfl⟩, by kernel_rfl, by kernel_rfl, by kernel_rfl, by kernel_rfl, by kernel_rfl, by kernel_rfl, by kernel_rfl, by kernel_rfl, by kernel_rfl, by kernel_rfl⟩
theorem kin16 (p : Params) : KinOk (HK p) cA (cA 16) bs16 := kin_of (by kernel_rfl)
theorem fI16 (p : Params) : ∃ f fd, Fun (HK p) "__init__" "UnknownName.__init__" (ini 16) f fd ∧ PySem.W.findIn (HK p) (.ref (cA 16)) "__init__" = some (some (.ref f)) ∧ PySem.W.typeIn (HK p) (.ref f) = some (.type "function") := by
  refine ⟨?f, ?fd, ⟨⟨?a1, ?a2, ?a3, ?a4, ?a5, ?a6, ?a7, ?a8, ?a9, ?e1, ?e2, ?e3⟩, ?e4⟩, ?e5, ?e6⟩
  case e5 => exact rfl
  case e1 => exact rfl
  case e2 => exact rfl
  case e3 => kernel_rfl
  case e4 => kernel_rfl
  case e6 => kernel_rfl
theorem no16_0 (p : Params) : PySem.W.findIn (HK p) (.ref (cA 16)) "given" = some none := by kernel_rfl
theorem oxc17 (p : Params) : OxC (HK p) (cA 17) (cA 15) "LookupError.__new__" tlL :=
  ⟨⟨_, _, _, _, _, _, _, _, _, _, _, _, _, _, rfl⟩, by kernel_rfl, by kernel_rfl, by kernel_rfl, by kernel_rfl, by kernel_rfl, by kernel_rfl, by kernel_rfl, by kernel_rfl, by kernel_rfl, by kernel_rfl⟩
theorem kin17 (p : Params) : KinOk (HK p) cA (cA 17) bs17 := kin_of (by kernel_rfl)
theorem fI17 (p : Params) : ∃ f fd, Fun (HK p) "__init__" "InUse.__init__" (ini 17) f fd ∧ PySem.W.findIn (HK p) (.ref (cA 17)) "__init__" = some (some (.ref f)) ∧ PySem.W.typeIn (HK p) (.ref f) = some (.type "function") := by
  refine ⟨?f, ?fd, ⟨⟨?a1, ?a2, ?a3, ?a4, ?a5, ?a6, ?a7, ?a8, ?a9, ?e1, ?e2, ?e3⟩, ?e4⟩, ?e5, ?e6⟩
  case e5 => exact rfl
  case e1 => exact rfl
  case e2 => exact rfl
  case e3 => kernel_rfl
  case e4 => kernel_rfl
  case e6 => kernel_rfl
theorem no17_0 (p : Params) : PySem.W.findIn (HK p) (.ref (cA 17)) "index" = some none := by kernel_rfl
theorem oxc19 (p : Params) : OxC (HK p) (cA 19) (cA 18) "ArithmeticError.__new__" tlA :=
  ⟨⟨_, _, _, _, _, _, _, _, _, _, _, _, _, _, rfl⟩, by kernel_rfl, by kernel_rfl, by kernel_rfl, by kernel_rfl, by kernel_rfl, by kernel_rfl, by kernel_rfl, by kernel_rfl, by kernel_rfl, by kernel_rfl⟩
theorem kin19 (p : Params) : KinOk (HK p) cA (cA 19) bs19 := kin_of (by kernel_rfl)
theorem fI19 (p : Params) : ∃ f fd, Fun (HK p) "__init__" "NoRoot.__init__" (ini 19) f fd ∧ PySem.W.findIn (HK p) (.ref (cA 19)) "__init__" = some (some (.ref f)) ∧ PySem.W.typeIn (HK p) (.ref f) = some (.type "function") := by
  refine ⟨?f, ?fd, ⟨⟨?a1, ?a2, ?a3, ?a4, ?a5, ?a6, ?a7, ?a8, ?a9, ?e1, ?e2, ?e3⟩, ?e4⟩, ?e5, ?e6⟩
  case e5 => exact rfl
  case e1 => exact rfl
  case e2 => exact rfl
  case e3 => kernel_rfl
  case e4 => kernel_rfl
  case e6 => kernel_rfl
theorem oxc20 (p : Params) : OxC (HK p) (cA 20) (cA 18) "ArithmeticError.__new__" tlA :=
  ⟨⟨_, _, _, _, _, _, _, _, _, _, _, _, _, _, rfl⟩, by kernel_rfl, by kernel_rfl, by kernel_rfl, by kernel_rfl, by kernel_rfl, by kernel_rfl, by kernel_rfl, by kernel_rfl, by kernel_rfl, by kernel_rfl⟩
theorem kin20 (p : Params) : KinOk (HK p) cA (cA 20) bs20 := kin_of (by kernel_rfl)
theorem fI20 (p : Params) : ∃ f fd, Fun (HK p) "__init__" "NoQuotient.__init__" (ini 20) f fd ∧ PySem.W.findIn (HK p) (.ref (cA 20)) "__init__" = some (some (.ref f)) ∧ PySem.W.typeIn (HK p) (.ref f) = some (.type "function") := by
  refine ⟨?f, ?fd, ⟨⟨?a1, ?a2, ?a3, ?a4, ?a5, ?a6, ?a7, ?a8, ?a9, ?e1, ?e2, ?e3⟩, ?e4⟩, ?e5, ?e6⟩
  case e5 => exact rfl
  case e1 => exact rfl
  case e2 => exact rfl
  case e3 => kernel_rfl
  case e4 => kernel_rfl
  case e6 => kernel_rfl
theorem oxc21 (p : Params) : OxC (HK p) (cA 21) (cA 18) "ArithmeticError.__new__" tlA :=
  ⟨⟨_, _, _, _, _, _, _, _, _, _, _, _, _, _, rfl⟩, by kernel_rfl, by kernel_rfl, by kernel_rfl, by kernel_rfl, by kernel_rfl, by kernel_rfl, by kernel_rfl, by kernel_rfl, by kernel_rfl, by kernel_rfl⟩
theorem kin21 (p : Params) : KinOk (HK p) cA (cA 21) bs21 := kin_of (by kernel_rfl)
theorem fI21 (p : Params) : ∃ f fd, Fun (HK p) "__init__" "NotPositive.__init__" (ini 21) f fd ∧ PySem.W.findIn (HK p) (.ref (cA 21)) "__init__" = some (some (.ref f)) ∧ PySem.W.typeIn (HK p) (.ref f) = some (.type "function") := by
  refine ⟨?f, ?fd, ⟨⟨?a1, ?a2, ?a3, ?a4, ?a5, ?a6, ?a7, ?a8, ?a9, ?e1, ?e2, ?e3⟩, ?e4⟩, ?e5, ?e6⟩
  case e5 => exact rfl
  case e1 => exact rfl
  case e2 => exact rfl
  case e3 => kernel_rfl
  case e4 => kernel_rfl
  case e6 => kernel_rfl
theorem oxc22 (p : Params) : OxC (HK p) (cA 22) (cA 18) "ArithmeticError.__new__" tlA :=
  ⟨⟨_, _, _, _, _, _, _, _, _, _, _, _, _, _, rfl⟩, by kernel_rfl, by kernel_rfl, by kernel_rfl, by kernel_rfl, by kernel_rfl, by kernel_rfl, by kernel_rfl, by kernel_rfl, by kernel_rfl, by kernel_rfl⟩
theorem kin22 (p : Params) : KinOk (HK p) cA (cA 22) bs22 := kin_of (by kernel_rfl)
theorem fI22 (p : Params) : ∃ f fd, Fun (HK p) "__init__" "NotFilled.__init__" (ini 22) f fd ∧ PySem.W.findIn (HK p) (.ref (cA 22)) "__init__" = some (some (.ref f)) ∧ PySem.W.typeIn (HK p) (.ref f) = some (.type "function") := by
  refine ⟨?f, ?fd, ⟨⟨?a1, ?a2, ?a3, ?a4, ?a5, ?a6, ?a7, ?a8, ?a9, ?e1, ?e2, ?e3⟩, ?e4⟩, ?e5, ?e6⟩
  case e5 => exact rfl
  case e1 => exact rfl
  case e2 => exact rfl
  case e3 => kernel_rfl
  case e4 => kernel_rfl
  case e6 => kernel_rfl
theorem oxc23 (p : Params) : OxC (HK p) (cA 23) (cA 18) "ArithmeticError.__new__" tlA :=
  ⟨⟨_, _, _, _, _, _, _, _, _, _, _, _, _, _, rfl⟩, by kernel_rfl, by kernel_rfl, by kernel_rfl, by kernel_rfl, by kernel_rfl, by kernel_rfl, by kernel_rfl, by kernel_rfl, by kernel_rfl, by kernel_rfl⟩
theorem kin23 (p : Params) : KinOk (HK p) cA (cA 23) bs23 := kin_of (by kernel_rfl)
theorem fI23 (p : Params) : ∃ f fd, Fun (HK p) "__init__" "TooMany.__init__" (ini 23) f fd ∧ PySem.W.findIn (HK p) (.ref (cA 23)) "__init__" = some (some (.ref f)) ∧ PySem.W.typeIn (HK p) (.ref f) = some (.type "function") := by
  refine ⟨?f, ?fd, ⟨⟨?a1, ?a2, ?a3, ?a4, ?a5, ?a6, ?a7, ?a8, ?a9, ?e1, ?e2, ?e3⟩, ?e4⟩, ?e5, ?e6⟩
  case e5 => exact rfl
  case e1 => exact rfl
  case e2 => exact rfl
  case e3 => kernel_rfl
  case e4 => kernel_rfl
  case e6 => kernel_rfl
theorem no23_0 (p : Params) : PySem.W.findIn (HK p) (.ref (cA 23)) "limit" = some none := by kernel_rfl
theorem oxc24 (p : Params) : OxC (HK p) (cA 24) (cA 18) "ArithmeticError.__new__" tlA :=
  ⟨⟨_, _, _, _, _, _, _, _, _, _, _, _, _, _, rfl⟩, by kernel_rfl, by kernel_rfl, by kernel_rfl, by kernel_rfl, by kernel_rfl, by kernel_rfl, by kernel_rfl, by kernel_rfl, by kernel_rfl, by kernel_rfl⟩
theorem kin24 (p : Params) : KinOk (HK p) cA (cA 24) bs24 := kin_of (by kernel_rfl)
theorem fI24 (p : Params) : ∃ f fd, Fun (HK p) "__init__" "Outside.__init__" (ini 24) f fd ∧ PySem.W.findIn (HK p) (.ref (cA 24)) "__init__" = some (some (.ref f)) ∧ PySem.W.typeIn (HK p) (.ref f) = some (.type "function") := by
  refine ⟨?f, ?fd, ⟨⟨?a1, ?a2, ?a3, ?a4, ?a5, ?a6, ?a7, ?a8, ?a9, ?e1, ?e2, ?e3⟩, ?e4⟩, ?e5, ?e6⟩
  case e5 => exact rfl
  case e1 => exact rfl
  case e2 => exact rfl
  case e3 => kernel_rfl
  case e4 => kernel_rfl
  case e6 => kernel_rfl
theorem oxc25 (p : Params) : OxC (HK p) (cA 25) (cA 18) "ArithmeticError.__new__" tlA :=
  ⟨⟨_, _, _, _, _, _, _, _, _, _, _, _, _, _, rfl⟩, by kernel_rfl, by kernel_rfl, by kernel_rfl, by kernel_rfl, by kernel_rfl, by kernel_rfl, by kernel_rfl, by kernel_rfl, by kernel_rfl, by kernel_rfl⟩
theorem kin25 (p : Params) : KinOk (HK p) cA (cA 25) bs25 := kin_of (by kernel_rfl)
theorem fI25 (p : Params) : ∃ f fd, Fun (HK p) "__init__" "Overlaps.__init__" (ini 25) f fd ∧ PySem.W.findIn (HK p) (.ref (cA 25)) "__init__" = some (some (.ref f)) ∧ PySem.W.typeIn (HK p) (.ref f) = some (.type "function") := by
  refine ⟨?f, ?fd, ⟨⟨?a1, ?a2, ?a3, ?a4, ?a5, ?a6, ?a7, ?a8, ?a9, ?e1, ?e2, ?e3⟩, ?e4⟩, ?e5, ?e6⟩
  case e5 => exact rfl
  case e1 => exact rfl
  case e2 => exact rfl
  case e3 => kernel_rfl
  case e4 => kernel_rfl
  case e6 => kernel_rfl
theorem no25_0 (p : Params) : PySem.W.findIn (HK p) (.ref (cA 25)) "index" = some none := by kernel_rfl
theorem oxc26 (p : Params) : OxC (HK p) (cA 26) (cA 18) "ArithmeticError.__new__" tlA :=
  ⟨⟨_, _, _, _, _, _, _, _, _, _, _, _, _, _, rfl⟩, by kernel_rfl, by kernel_rfl, by kernel_rfl, by kernel_rfl, by kernel_rfl, by kernel_rfl, by kernel_rfl, by kernel_rfl, by kernel_rfl, by kernel_rfl⟩
theorem kin26 (p : Params) : KinOk (HK p) cA (cA 26) bs26 := kin_of (by kernel_rfl)
theorem fI26 (p : Params) : ∃ f fd, Fun (HK p) "__init__" "NothingToUndo.__init__" (ini 26) f fd ∧ PySem.W.findIn (HK p) (.ref (cA 26)) "__init__" = some (some (.ref f)) ∧ PySem.W.typeIn (HK p) (.ref f) = some (.type "function") := by
  refine ⟨?f, ?fd, ⟨⟨?a1, ?a2, ?a3, ?a4, ?a5, ?a6, ?a7, ?a8, ?a9, ?e1, ?e2, ?e3⟩, ?e4⟩, ?e5, ?e6⟩
  case e5 => exact rfl
  case e1 => exact rfl
  case e2 => exact rfl
  case e3 => kernel_rfl
  case e4 => kernel_rfl
  case e6 => kernel_rfl
theorem oxc27 (p : Params) : OxC (HK p) (cA 27) (cA 18) "ArithmeticError.__new__" tlA :=
  ⟨⟨_, _, _, _, _, _, _, _, _, _, _, _, _, _, rfl⟩, by kernel_rfl, by kernel_rfl, by kernel_rfl, by kernel_rfl, by kernel_rfl, by kernel_rfl, by kernel_rfl, by kernel_rfl, by kernel_rfl, by kernel_rfl⟩
theorem kin27 (p : Params) : KinOk (HK p) cA (cA 27) bs27 := kin_of (by kernel_rfl)
theorem fI27 (p : Params) : ∃ f fd, Fun (HK p) "__init__" "Broken.__init__" (ini 27) f fd ∧ PySem.W.findIn (HK p) (.ref (cA 27)) "__init__" = some (some (.ref f)) ∧ PySem.W.typeIn (HK p) (.ref f) = some (.type "function") := by
  refine ⟨?f, ?fd, ⟨⟨?a1, ?a2, ?a3, ?a4, ?a5, ?a6, ?a7, ?a8, ?a9, ?e1, ?e2, ?e3⟩, ?e4⟩, ?e5, ?e6⟩
  case e5 => exact rfl
  case e1 => exact rfl
  case e2 => exact rfl
  case e3 => kernel_rfl
  case e4 => kernel_rfl
  case e6 => kernel_rfl
theorem no27_0 (p : Params) : PySem.W.findIn (HK p) (.ref (cA 27)) "index" = some none := by kernel_rfl
theorem no27_1 (p : Params) : PySem.W.findIn (HK p) (.ref (cA 27)) "shown" = some none := by kernel_rfl
theorem fd_rack (p : Params) : ∃ fd, Fun (HK p) "_law_rack" "_law_rack" sRack 516 fd := by
  refine ⟨?fd, ⟨⟨?a1, ?a2, ?a3, ?a4, ?a5, ?a6, ?a7, ?a8, ?a9, ?e1, ?e2, ?e3⟩, ?e4⟩⟩
  case e1 => exact rfl
  case e2 => exact rfl
  case e3 => kernel_rfl
  case e4 => kernel_rfl
theorem fd_pick (p : Params) : ∃ fd, Fun (HK p) "_law_pick" "_law_pick" sPick 523 fd := by
  refine ⟨?fd, ⟨⟨?a1, ?a2, ?a3, ?a4, ?a5, ?a6, ?a7, ?a8, ?a9, ?e1, ?e2, ?e3⟩, ?e4⟩⟩
  case e1 => exact rfl
  case e2 => exact rfl
  case e3 => kernel_rfl
  case e4 => kernel_rfl
theorem fd_kin (p : Params) : ∃ fd, Fun (HK p) "_law_kin" "_law_kin" sKin 528 fd := by
  refine ⟨?fd, ⟨⟨?a1, ?a2, ?a3, ?a4, ?a5, ?a6, ?a7, ?a8, ?a9, ?e1, ?e2, ?e3⟩, ?e4⟩⟩
  case e1 => exact rfl
  case e2 => exact rfl
  case e3 => kernel_rfl
  case e4 => kernel_rfl
theorem fd_tale (p : Params) : ∃ fd, Fun (HK p) "_law_tale" "_law_tale" sTale 535 fd := by
  refine ⟨?fd, ⟨⟨?a1, ?a2, ?a3, ?a4, ?a5, ?a6, ?a7, ?a8, ?a9, ?e1, ?e2, ?e3⟩, ?e4⟩⟩
  case e1 => exact rfl
  case e2 => exact rfl
  case e3 => kernel_rfl
  case e4 => kernel_rfl
theorem fd_odd (p : Params) : ∃ fd, Fun (HK p) "_law_odd" "_law_odd" sOdd 542 fd := by
  refine ⟨?fd, ⟨⟨?a1, ?a2, ?a3, ?a4, ?a5, ?a6, ?a7, ?a8, ?a9, ?e1, ?e2, ?e3⟩, ?e4⟩⟩
  case e1 => exact rfl
  case e2 => exact rfl
  case e3 => kernel_rfl
  case e4 => kernel_rfl
theorem fd_by_place (p : Params) : ∃ fd, Fun (HK p) "_law_by_place" "_law_by_place" sPlace 549 fd := by
  refine ⟨?fd, ⟨⟨?a1, ?a2, ?a3, ?a4, ?a5, ?a6, ?a7, ?a8, ?a9, ?e1, ?e2, ?e3⟩, ?e4⟩⟩
  case e1 => exact rfl
  case e2 => exact rfl
  case e3 => kernel_rfl
  case e4 => kernel_rfl
theorem fd_by_name (p : Params) : ∃ fd, Fun (HK p) "_law_by_name" "_law_by_name" sName 556 fd := by
  refine ⟨?fd, ⟨⟨?a1, ?a2, ?a3, ?a4, ?a5, ?a6, ?a7, ?a8, ?a9, ?e1, ?e2, ?e3⟩, ?e4⟩⟩
  case e1 => exact rfl
  case e2 => exact rfl
  case e3 => kernel_rfl
  case e4 => kernel_rfl
theorem fd_right (p : Params) : ∃ fd, Fun (HK p) "_law_right" "_law_right" sRight 563 fd := by
  refine ⟨?fd, ⟨⟨?a1, ?a2, ?a3, ?a4, ?a5, ?a6, ?a7, ?a8, ?a9, ?e1, ?e2, ?e3⟩, ?e4⟩⟩
  case e1 => exact rfl
  case e2 => exact rfl
  case e3 => kernel_rfl
  case e4 => kernel_rfl
theorem fd_law (p : Params) : ∃ fd, Fun (HK p) "law" "law" sLaw 568 fd := by
  refine ⟨?fd, ⟨⟨?a1, ?a2, ?a3, ?a4, ?a5, ?a6, ?a7, ?a8, ?a9, ?e1, ?e2, ?e3⟩, ?e4⟩⟩
  case e1 => exact rfl
  case e2 => exact rfl
  case e3 => kernel_rfl
  case e4 => kernel_rfl
section
variable {P : Program} {w : World} {p : Params} {mg : Str → Option Value} {h : Heap}
theorem tx_of (X : (HK p).In h) (G : h.Ns mainGlobals mg) (base : Heap) : Tx P w (HK p) mg base cA := by
  have g1 : mg "BadValue" = some (.ref (cA 1)) := PySem.W.mg_of X G (by kernel_rfl)
  have g15 : mg "BadName" = some (.ref (cA 15)) := PySem.W.mg_of X G (by kernel_rfl)
  have g18 : mg "NoAnswer" = some (.ref (cA 18)) := PySem.W.mg_of X G (by kernel_rfl)
  obtain ⟨f2, d2, F2, i2, t2⟩ := fI2 p
  obtain ⟨f3, d3, F3, i3, t3⟩ := fI3 p
  obtain ⟨f4, d4, F4, i4, t4⟩ := fI4 p
  obtain ⟨f5, d5, F5, i5, t5⟩ := fI5 p
  obtain ⟨f6, d6, F6, i6, t6⟩ := fI6 p
  obtain ⟨f7, d7, F7, i7, t7⟩ := fI7 p
  obtain ⟨f8, d8, F8, i8, t8⟩ := fI8 p
  obtain ⟨f9, d9, F9, i9, t9⟩ := fI9 p
  obtain ⟨f10, d10, F10, i10, t10⟩ := fI10 p
  obtain ⟨f11, d11, F11, i11, t11⟩ := fI11 p
  obtain ⟨f12, d12, F12, i12, t12⟩ := fI12 p
  obtain ⟨f13, d13, F13, i13, t13⟩ := fI13 p
  obtain ⟨f14, d14, F14, i14, t14⟩ := fI14 p
  obtain ⟨f16, d16, F16, i16, t16⟩ := fI16 p
  obtain ⟨f17, d17, F17, i17, t17⟩ := fI17 p
  obtain ⟨f19, d19, F19, i19, t19⟩ := fI19 p
  obtain ⟨f20, d20, F20, i20, t20⟩ := fI20 p
  obtain ⟨f21, d21, F21, i21, t21⟩ := fI21 p
  obtain ⟨f22, d22, F22, i22, t22⟩ := fI22 p
  obtain ⟨f23, d23, F23, i23, t23⟩ := fI23 p
  obtain ⟨f24, d24, F24, i24, t24⟩ := fI24 p
  obtain ⟨f25, d25, F25, i25, t25⟩ := fI25 p
  obtain ⟨f26, d26, F26, i26, t26⟩ := fI26 p
  obtain ⟨f27, d27, F27, i27, t27⟩ := fI27 p
  exact {
    m2 := mk2 F2 (boc1 p) g1 (oxc2 p) (no2_0 p) (PySem.W.mg_of X G (by kernel_rfl)) i2 t2
    m3 := mk3 F3 (boc1 p) g1 (oxc3 p) (no3_0 p) (PySem.W.mg_of X G (by kernel_rfl)) i3 t3
    m4 := mk4 F4 (boc1 p) g1 (oxc4 p) (no4_0 p) (PySem.W.mg_of X G (by kernel_rfl)) i4 t4
    m5 := mk5 F5 (boc1 p) g1 (oxc5 p) (no5_0 p) (PySem.W.mg_of X G (by kernel_rfl)) i5 t5
    m6 := mk6 F6 (boc1 p) g1 (oxc6 p) (no6_0 p) (PySem.W.mg_of X G (by kernel_rfl)) i6 t6
    m7 := mk7 F7 (boc1 p) g1 (oxc7 p) (no7_0 p) (PySem.W.mg_of X G (by kernel_rfl)) i7 t7
    m8 := mk8 F8 (boc1 p) g1 (oxc8 p) (no8_0 p) (PySem.W.mg_of X G (by kernel_rfl)) i8 t8
    m9 := mk9 F9 (boc1 p) g1 (oxc9 p) (no9_0 p) (PySem.W.mg_of X G (by kernel_rfl)) i9 t9
    m10 := mk10 F10 (boc1 p) g1 (oxc10 p) (no10_0 p) (PySem.W.mg_of X G (by kernel_rfl)) i10 t10
    m11 := mk11 F11 (boc1 p) g1 (oxc11 p) (no11_0 p) (PySem.W.mg_of X G (by kernel_rfl)) i11 t11
    m12 := mk12 F12 (boc1 p) g1 (oxc12 p) (no12_0 p) (PySem.W.mg_of X G (by kernel_rfl)) i12 t12
    m13 := mk13 F13 (boc1 p) g1 (oxc13 p) (no13_0 p) (PySem.W.mg_of X G (by kernel_rfl)) i13 t13
    m14 := mk14 F14 (boc1 p) g1 (oxc14 p) (no14_0 p) (PySem.W.mg_of X G (by kernel_rfl)) i14 t14
    m16 := mk16 F16 (boc15 p) g15 (oxc16 p) (no16_0 p) (PySem.W.mg_of X G (by kernel_rfl)) i16 t16
    m17 := mk17 F17 (boc15 p) g15 (oxc17 p) (no17_0 p) (PySem.W.mg_of X G (by kernel_rfl)) i17 t17
    m19 := mk19 F19 (boc18 p) g18 (oxc19 p)  (PySem.W.mg_of X G (by kernel_rfl)) i19 t19
    m20 := mk20 F20 (boc18 p) g18 (oxc20 p)  (PySem.W.mg_of X G (by kernel_rfl)) i20 t20
    m21 := mk21 F21 (boc18 p) g18 (oxc21 p)  (PySem.W.mg_of X G (by kernel_rfl)) i21 t21
    m22 := mk22 F22 (boc18 p) g18 (oxc22 p)  (PySem.W.mg_of X G (by kernel_rfl)) i22 t22
    m23 := mk23 F23 (boc18 p) g18 (oxc23 p) (no23_0 p) (PySem.W.mg_of X G (by kernel_rfl)) i23 t23
    m24 := mk24 F24 (boc18 p) g18 (oxc24 p)  (PySem.W.mg_of X G (by kernel_rfl)) i24 t24
    m25 := mk25 F25 (boc18 p) g18 (oxc25 p) (no25_0 p) (PySem.W.mg_of X G (by kernel_rfl)) i25 t25
    m26 := mk26 F26 (boc18 p) g18 (oxc26 p)  (PySem.W.mg_of X G (by kernel_rfl)) i26 t26
    m27 := mk27 F27 (boc18 p) g18 (oxc27 p) (no27_0 p) (no27_1 p) (PySem.W.mg_of X G (by kernel_rfl)) i27 t27
    b1 := g1
    b15 := g15
    b18 := g18
    z_isinstance := PySem.W.mg_none_of X G (by kernel_rfl)
    z_ValueError := PySem.W.mg_none_of X G (by kernel_rfl)
    z_LookupError := PySem.W.mg_none_of X G (by kernel_rfl)
    z_ArithmeticError := PySem.W.mg_none_of X G (by kernel_rfl)
    z_repr := PySem.W.mg_none_of X G (by kernel_rfl)
    z_all := PySem.W.mg_none_of X G (by kernel_rfl)
    z_range := PySem.W.mg_none_of X G (by kernel_rfl)
    z_max := PySem.W.mg_none_of X G (by kernel_rfl)
    z_min := PySem.W.mg_none_of X G (by kernel_rfl)
    z_len := PySem.W.mg_none_of X G (by kernel_rfl)
    z_abs := PySem.W.mg_none_of X G (by kernel_rfl)
    z_int := PySem.W.mg_none_of X G (by kernel_rfl)
    z_divmod := PySem.W.mg_none_of X G (by kernel_rfl)
  }
theorem txs_of (p : Params) : TxS (HK p) cA where
  all1 := fun m hm => by
    unfold specs at hm
    simp only [List.mem_cons, List.not_mem_nil, or_false] at hm
    rcases hm with rfl | rfl | rfl | rfl | rfl | rfl | rfl | rfl | rfl | rfl | rfl | rfl | rfl | rfl | rfl | rfl | rfl
    · exact ⟨⟨_, _, _, bs2, oxc2 p, kin2 p, tal2⟩, no2_0 p⟩
    · exact ⟨⟨_, _, _, bs3, oxc3 p, kin3 p, tal3⟩, no3_0 p⟩
    · exact ⟨⟨_, _, _, bs4, oxc4 p, kin4 p, tal4⟩, no4_0 p⟩
    · exact ⟨⟨_, _, _, bs5, oxc5 p, kin5 p, tal5⟩, no5_0 p⟩
    · exact ⟨⟨_, _, _, bs6, oxc6 p, kin6 p, tal6⟩, no6_0 p⟩
    · exact ⟨⟨_, _, _, bs7, oxc7 p, kin7 p, tal7⟩, no7_0 p⟩
    · exact ⟨⟨_, _, _, bs8, oxc8 p, kin8 p, tal8⟩, no8_0 p⟩
    · exact ⟨⟨_, _, _, bs9, oxc9 p, kin9 p, tal9⟩, no9_0 p⟩
    · exact ⟨⟨_, _, _, bs10, oxc10 p, kin10 p, tal10⟩, no10_0 p⟩
    · exact ⟨⟨_, _, _, bs11, oxc11 p, kin11 p, tal11⟩, no11_0 p⟩
    · exact ⟨⟨_, _, _, bs12, oxc12 p, kin12 p, tal12⟩, no12_0 p⟩
    · exact ⟨⟨_, _, _, bs13, oxc13 p, kin13 p, tal13⟩, no13_0 p⟩
    · exact ⟨⟨_, _, _, bs14, oxc14 p, kin14 p, tal14⟩, no14_0 p⟩
    · exact ⟨⟨_, _, _, bs16, oxc16 p, kin16 p, tal16⟩, no16_0 p⟩
    · exact ⟨⟨_, _, _, bs17, oxc17 p, kin17 p, tal17⟩, no17_0 p⟩
    · exact ⟨⟨_, _, _, bs23, oxc23 p, kin23 p, tal23⟩, no23_0 p⟩
    · exact ⟨⟨_, _, _, bs25, oxc25 p, kin25 p, tal25⟩, no25_0 p⟩
  y19 := ⟨_, _, _, bs19, oxc19 p, kin19 p, tal19⟩
  y20 := ⟨_, _, _, bs20, oxc20 p, kin20 p, tal20⟩
  y21 := ⟨_, _, _, bs21, oxc21 p, kin21 p, tal21⟩
  y22 := ⟨_, _, _, bs22, oxc22 p, kin22 p, tal22⟩
  y24 := ⟨_, _, _, bs24, oxc24 p, kin24 p, tal24⟩
  y26 := ⟨_, _, _, bs26, oxc26 p, kin26 p, tal26⟩
  y27 := ⟨_, _, _, bs27, oxc27 p, kin27 p, tal27⟩
theorem txl_of (X : (HK p).In h) (G : h.Ns mainGlobals mg) (hs : ∃ t, mg "MOST_SCALE" = some (.int (10 ^ 40) t)) : TxL mg where
  d1 := ⟨_, PySem.W.mg_of X G rfl⟩
  d2 := ⟨_, PySem.W.mg_of X G rfl⟩
  d3 := ⟨_, PySem.W.mg_of X G rfl⟩
  d4 := ⟨_, PySem.W.mg_of X G rfl⟩
  d5 := ⟨_, PySem.W.mg_of X G rfl⟩
  d6 := ⟨_, PySem.W.mg_of X G rfl⟩
  d7 := hs
theorem law_of (X : (HK p).In h) (G : h.Ns mainGlobals mg) (hs : ∃ t, mg "MOST_SCALE" = some (.int (10 ^ 40) t)) {fa : Addr} (hfa : mg "law" = some (.ref fa)) :
    ∃ fd : FuncData, (∀ (s : Shared) (u : Value), BindsTo s fd ⟨[u], []⟩ [("_law_cells", u)]) ∧ ∀ base : Heap, FnG P w (HK p) mg base 5 fa fd ["_law_cells"] (spLaw (HK p)) := by
  have e := hfa.symm.trans (PySem.W.mg_of (v := .ref 568) X G (by kernel_rfl))
  cases e
  obtain ⟨d_rack, F_rack⟩ := fd_rack p
  have b_rack := F_rack.binds (ps := ["_law_cells", "_law_at"]) fun _ _ _ _ _ _ us hl => match us, hl with | [_, _], _ => rfl
  have m_rack : mg "_law_rack" = some (.ref 516) := PySem.W.mg_of X G (by kernel_rfl)
  obtain ⟨d_pick, F_pick⟩ := fd_pick p
  have b_pick := F_pick.binds (ps := ["_law_rack_here", "_law_many"]) fun _ _ _ _ _ _ us hl => match us, hl with | [_, _], _ => rfl
  have m_pick : mg "_law_pick" = some (.ref 523) := PySem.W.mg_of X G (by kernel_rfl)
  obtain ⟨d_kin, F_kin⟩ := fd_kin p
  have b_kin := F_kin.binds (ps := ["_law_e"]) fun _ _ _ _ _ _ us hl => match us, hl with | [_], _ => rfl
  have m_kin : mg "_law_kin" = some (.ref 528) := PySem.W.mg_of X G (by kernel_rfl)
  obtain ⟨d_tale, F_tale⟩ := fd_tale p
  have b_tale := F_tale.binds (ps := ["_law_e"]) fun _ _ _ _ _ _ us hl => match us, hl with | [_], _ => rfl
  have m_tale : mg "_law_tale" = some (.ref 535) := PySem.W.mg_of X G (by kernel_rfl)
  obtain ⟨d_odd, F_odd⟩ := fd_odd p
  have b_odd := F_odd.binds (ps := ["_law_rack_here"]) fun _ _ _ _ _ _ us hl => match us, hl with | [_], _ => rfl
  have m_odd : mg "_law_odd" = some (.ref 542) := PySem.W.mg_of X G (by kernel_rfl)
  obtain ⟨d_by_place, F_by_place⟩ := fd_by_place p
  have b_by_place := F_by_place.binds (ps := ["_law_thing"]) fun _ _ _ _ _ _ us hl => match us, hl with | [_], _ => rfl
  have m_by_place : mg "_law_by_place" = some (.ref 549) := PySem.W.mg_of X G (by kernel_rfl)
  obtain ⟨d_by_name, F_by_name⟩ := fd_by_name p
  have b_by_name := F_by_name.binds (ps := ["_law_thing"]) fun _ _ _ _ _ _ us hl => match us, hl with | [_], _ => rfl
  have m_by_name : mg "_law_by_name" = some (.ref 556) := PySem.W.mg_of X G (by kernel_rfl)
  obtain ⟨d_right, F_right⟩ := fd_right p
  have b_right := F_right.binds (ps := ["_law_rack_here"]) fun _ _ _ _ _ _ us hl => match us, hl with | [_], _ => rfl
  have m_right : mg "_law_right" = some (.ref 563) := PySem.W.mg_of X G (by kernel_rfl)
  obtain ⟨fd, F⟩ := fd_law p
  have b := F.binds (ps := ["_law_cells"]) fun _ _ _ _ _ _ us hl => match us, hl with | [_], _ => rfl
  refine ⟨fd, fun s u => ?_, fun base => ?_⟩
  · obtain ⟨oc, od, kV, doc, pm, an, cdv, ct, osl, rfl, lk, hcd⟩ := F.ex
    exact .of_eq rfl
  · have T : Tx P w (HK p) mg base cA := tx_of X G base
    have K1 := ok_kin F_kin T
    have K2 := ok_tale F_tale T K1 b_kin m_kin F_kin.kp
    have K3 := ok_odd F_odd (ok_pick F_pick T) b_pick m_pick F_pick.kp
    have K4 := ok_right F_right T (txs_of p) K2 b_tale m_tale F_tale.kp K3 b_odd m_odd F_odd.kp (ok_place F_by_place T) b_by_place m_by_place F_by_place.kp (ok_name F_by_name T) b_by_name m_by_name F_by_name.kp
    exact ok_law F T (txl_of X G hs) K4 b_right m_right F_right.kp (ok_rack F_rack T) b_rack m_rack F_rack.kp
end
end Xk

namespace Xk
open PySem PySem.Spec PyProof.Rows L2
/-- the law's call, where no repr is under way -/
theorem call_g {P : Program} {w : World} {K : PySem.W.Frag} {mg mb : Str → Option Value} {k : Nat} {fa a : Addr} {fd : FuncData} {x : Str} {sp : Sp} {s₁ : Shared} {vs : List Value} {ns : List Int}
    (KX : K.In s₁.heap) (hns : s₁.heap.Ns mainGlobals mg) (hb : s₁.heap.Ns builtinsNs mb) (hbb : ∀ x : Str, x ≠ "__name__" → mb x = bootBuiltins x)
    (hlim : s₁.heap.NoLimit) (hg : s₁.gens = #[]) (ha : s₁.heap.get? a = some { cls := .type "list", data := .seq vs.toArray })
    (hi : IntsAre vs ns) (hl : ns.length ≤ sizeLine) (hr : Room k callerA)
    (F : ∀ base : Heap, FnG P w K mg base k fa fd [x] sp) (hbind : ∀ (s : Shared) (u : Value), BindsTo s fd ⟨[u], []⟩ [(x, u)])
    (hsp : ∀ H : Hp, SqL K H a (ns.map V.int) → sp [.ref a] H (fun v _ => v = .bl true) E0) :
    codeAny (model P w) callerA (.call (.ref fa) ⟨[.ref a], []⟩)
      (fun r s' => r = .ok (.ret (.bool true)) ∧ PySem.OldK s₁.heap s'.heap ∧ s'.os = s₁.os ∧ AllBare s'.gens) s₁ := by
  have rv := vals_ints hi
  have lenV := hi.length
  have core : ∀ H : Hp, Only H → SqL K H a (ns.map V.int) → HOk P w H s₁.heap → (∀ b, H b ≠ none → b = a) → (H a ≠ none → K.lookup a = none) →
      codeAny (model P w) callerA (.call (.ref fa) ⟨[.ref a], []⟩)
        (fun r s' => r = .ok (.ret (.bool true)) ∧ PySem.OldK s₁.heap s'.heap ∧ s'.os = s₁.os ∧ AllBare s'.gens) s₁ := by
    intro H hO hS hok hA hK
    have base_of : ∀ {b : Addr} {o : Obj}, s₁.heap.get? b = some o → H b = none → (hidT s₁.heap H).get? b = some o := fun e n => hidT_get e n
    have noA : ∀ {b : Addr} {o : Obj} {es : Array DictEntry} {ep : Nat}, s₁.heap.get? b = some o → o.data = .dict es ep → H b = none := fun {b o es ep} e d => by
      cases q : H b with
      | none => rfl
      | some u =>
        obtain rfl : b = a := hA b (by rw [q]; simp)
        rw [ha] at e
        cases e
        cases (show Data.seq vs.toArray _ = Data.dict es ep from d)
    have nsK : ∀ {b : Addr} {m : Str → Option Value}, s₁.heap.Ns b m → (hidT s₁.heap H).Ns b m := fun {b m} z => by
      obtain ⟨o, es, ep, e, d, r⟩ := z
      exact ⟨o, es, ep, base_of e (noA e d), d, r⟩
    have hKb : K.In (hidT s₁.heap H) := fun b o e => by
      refine base_of (KX b o e) ?_
      cases q : H b with
      | none => rfl
      | some u =>
        obtain rfl : b = a := hA b (by rw [q]; simp)
        rw [hK (by rw [q]; simp)] at e
        cases e
    have hM : Mod K mg (hidT s₁.heap H) := by
      obtain ⟨mc, h1, h2⟩ := hlim
      exact ⟨hKb, nsK hns, ⟨mb, nsK hb, hbb⟩, ⟨mc, nsK h1, h2⟩⟩
    have en : Env0 P w K mg (hidT s₁.heap H) callerA [] s₁ H :=
      ⟨rfl, hM, fun b o e => of_hidT e, Nat.le_of_eq (hidT_size _ _), trivial, fun b hb => absurd (show b ∈ ([] : List Addr) from hb) (by simp), hok, .of_eq hg⟩
    refine codeAny_mono ((F _).run callerA [] s₁ H ⟨[.ref a], []⟩ [.ref a] [.ref a] _ _ hr rfl en (hbind s₁ (.ref a)) (.cons rfl .nil) (hsp H hS)) fun r s' h => ?_
    cases r with
    | error e => exact (show False from h).elim
    | ok fl =>
      cases fl with
      | next => exact False.elim h
      | brk => exact False.elim h
      | cont => exact False.elim h
      | ret u =>
        obtain ⟨v, H', os, bare, un, hok', r', q⟩ := h
        obtain rfl : v = .bl true := q
        obtain rfl : u = Value.bool true := r'
        refine ⟨rfl, PySem.OldK.of_keep fun b o e => ?_, os, bare⟩
        cases q : H b with
        | none =>
          refine un.keep b o e q ?_ (by simp)
          intro z
          exact absurd (show b ∈ ([] : List Addr) from z) (by simp)
        | some u =>
          rcases hO b with z | ⟨ob, xs, z⟩
          · rw [q] at z
            cases z
          · obtain ⟨e1, _⟩ := hok b _ z
            obtain ⟨e2, _⟩ := hok' b _ (un.frzs b ob _ z)
            rw [e] at e1
            cases e1
            exact e2
  cases hk : K.lookup a with
  | some o =>
    have e := KX a o hk
    rw [ha] at e
    cases e
    refine core (fun _ => none) (fun _ => .inl rfl) (.inr ⟨_, vs.toArray, _, hk, rfl, rfl, rfl, ?_, by simpa using rv⟩) ?_ (fun b z => absurd rfl z) fun z => absurd rfl z
    · rw [List.size_toArray, lenV]
      exact hl
    · intro b u z
      cases (show (none : Option HO) = some u from z)
  | none =>
    refine core (fun b => if b = a then some (.frz { cls := .type "list", data := .seq vs.toArray } (.lst (ns.map V.int))) else none) (fun b => ?_)
      (.inl (.inr ⟨{ cls := .type "list", data := .seq vs.toArray }, if_pos rfl⟩)) (fun b u z => ?_) (fun b z => ?_) fun _ => hk
    · by_cases hb : b = a
      · exact .inr ⟨_, _, if_pos hb⟩
      · exact .inl (if_neg hb)
    · by_cases hb : b = a
      · cases ((if_pos hb).symm.trans z)
        subst hb
        exact ⟨ha, by rw [List.length_map]; exact hl, vs, _, rv, ha⟩
      · cases ((if_neg hb).symm.trans z)
    · by_cases hb : b = a
      · exact hb
      · exact absurd (if_neg hb) z
theorem room5 : Room 5 callerA := ⟨rfl, by decide, by decide⟩
theorem walk_g {l : PySem.W.OpenLaw} {q : Program} {loose : List Str} {XP : (Str → Option Value) → Heap → Prop} {YP : World → Heap → Prop} {d : DefRec}
    (hn : l.most = some 63) (hdf : d.params.defaults = []) (hnm : d.name = "law")
    (hY : ∀ (w : World) (h : Heap), YP w h → (HK w.params).In h)
    (hX : ∀ (mg : Str → Option Value) (h : Heap), XP mg h → ∃ t, mg "MOST_SCALE" = some (.int (10 ^ 40) t)) :
    PySem.W.WalkO q loose XP YP l.row.toRowW d [] (fun f vs => PySem.call f vs) := by
  refine Att.attach_call hn hdf fun w s₀ s₁ mg mb fa o pm cd doc a vs ns G Y ho hd hcd hmg hobj hints hlen hg => ?_
  have KX := hY w _ Y
  rw [hnm] at hmg
  obtain ⟨fd, hb, hF⟩ := law_of (P := l.prog) (w := w) KX G.T.g (hX _ _ G.X) hmg
  exact call_g KX G.T.g G.T.b G.T.builtins G.T.nolimit hg hobj hints (Nat.le_trans hlen (by decide)) room5 hF hb fun H hS => ⟨a, ns, rfl, hS, hlen, fun _ => rfl⟩
theorem scale_of {q : Program} {mg : Str → Option Value} {h : Heap} (x : PySem.W.XL q [("MOST_SCALE", PySem.W.WData.int 10000000000000000000000000000000000000000)] mg h) :
    ∃ t, mg "MOST_SCALE" = some (.int (10 ^ 40) t) := by
  obtain ⟨v, hv, hr⟩ := x.2.val _ List.mem_cons_self
  cases hr
  exact ⟨_, hv⟩
end Xk
open PySem PySem.W PyProof.Rows in
theorem PySem.Challenge.cw_likepanes_k01_limits_and_errors_holds : PySem.Challenge.rw_likepanes_k01_limits_and_errors.Holds := by
  refine hd ?_
  exact Xk.walk_g (l := PySem.Challenge.rw_likepanes_k01_limits_and_errors) rfl rfl rfl (fun w h Y => PySem.W.kIn_of Y) fun mg h x => Xk.scale_of x
#print axioms PySem.Challenge.cw_likepanes_k01_limits_and_errors_holds
