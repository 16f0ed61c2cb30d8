import PyProof.Rows.All
import Wide.All
import OpenK.AllK
import Wide.FinOn
import HandS.Base
import HandS.Call
import HandS.List
import HandS.Flow
import KE.GoesEnumKw
import KE.KDictItemsList
import HandS.Iter
import HandS.Words
import KE.KStateDown
import HandS.Exc
import HandS.Property
import HandS.Defaults
import HandS.Head0
import HandS.Head1
import HandS.Head2
import HandS.HeadEnd
import HandS.HeadHook1
import HandS.HeadHook2
import HandS.ForMost
import HandS.IsInst
import HandS.Codes
import PySem.Challenge.RW_farheap_k01_outgoing_keeps_its_letters
set_option Elab.async false
set_option linter.all false
set_option maxRecDepth 100000
set_option maxHeartbeats 4000000
/-! del xs[:c], the first c items of a list go. -/
namespace Fh
open PySem PySem.Spec PyProof.Rows L2 HT
theorem drop_run {α : Type} (g : α × Nat → Option α) (c : Nat) (hg : ∀ x k, g (x, k) = if k < c then none else some x) : ∀ (l : List α) (i : Nat), (l.zipIdx i).filterMap g = l.drop (c - i)
  | [], i => by simp
  | x :: l, i => by
    have ih := drop_run g c hg l (i + 1)
    rw [List.zipIdx_cons, List.filterMap_cons, hg, ih]
    by_cases h : i < c
    · rw [if_pos h]
      have e : c - i = (c - (i + 1)) + 1 := by omega
      rw [e, List.drop_succ_cons]
    · rw [if_neg h]
      have e1 : c - i = 0 := by omega
      have e2 : c - (i + 1) = 0 := by omega
      rw [e1, e2]
      rfl
section
variable {prog : Program} {w : World} {A : Around} {E : Value → Shared → Prop} {s : Shared}
theorem bounds_to {c n : Nat} (hc : c ≤ n) : sliceBounds none (some (c : Int)) none n = ((0 : Int), (c : Int), 1) := by
  simp only [sliceBounds, Option.getD_none]
  have h2 : ¬ ((c : Int) < 0) := by omega
  simp only [h2, if_false, show (1 : Int) > 0 by decide, if_true]
  congr 1
  congr 1
  omega
/-- list.__delitem__ with a slice [:c] -/
theorem delItem_to {l sl : Addr} {items : Array Value} {n : Nat} {vl vu : Value} {c : Nat} {Q : Unit → Shared → Prop}
    (e : s.heap.get? l = some { cls := .type "list", data := .seq items n })
    (hs : s.heap.IsSliceOf sl vl vu .none) (pl : IsPart vl none) (pu : IsPart vu (some (c : Int))) (hc : c ≤ items.size) (hsz : items.size ≤ sizeLine)
    (h : ∀ F : Array Value → Array Value, F items = (items.toList.drop c).toArray → Q () { s with heap := s.heap.update l (Obj.mapSeq F) }) :
    wpAny (model prog w) A (delItem (.ref l) (.ref sl)) Q E s := by
  have hl : s.heap.IsList l items := PySem.IsL.isList e
  obtain ⟨os, hos, hcs, hds⟩ := id hs
  have hTs : s.TypeIs (.ref sl) "slice" := ⟨os, hos, hcs⟩
  have hstep : ¬ ((rawPart none == rawInt 0) = true) := Bool.false_ne_true
  refine wpAny_delItem_slot hl.typeIs (by decide) PySem.F.slot_list_delitem ?_
  refine wpAny_call_entry PySem.F.slot_list_delitem hl.typeIs PySem.F.entry_list_delitem ?_ (PySem.F.args_list_delitem_2 _ _)
  show wpAny _ _ (Builtin.List.listSubscript? (.ref sl) >>= _) _ _ s
  refine wpAny_bind ?_
  unfold Builtin.List.listSubscript?
  refine wpAny_bind (wpAny_specialOf hTs slice_no_index ?_)
  simp only [Option.isNone_none, if_true]
  refine wpAny_pure ?_
  show wpAny _ _ (typeOf (.ref sl) >>= _) _ _ s
  refine wpAny_bind (wpAny_typeOf hTs ?_)
  first
    | rw [if_neg (by decide)]
    | refine PySem.W.KFB.if_not (by decide) ?_
  rw [listSliceParts_eq]
  refine wpAny_bind (wpAny_bind (wpAny_field hos hds (x := .none) rfl (wpAny_bind (wpAny_listPart .none ?_))))
  rw [if_neg hstep]
  refine wpAny_bind (wpAny_field hos hds (x := vl) rfl (wpAny_bind (wpAny_listPart pl ?_)))
  refine wpAny_bind (wpAny_field hos hds (x := vu) rfl (wpAny_bind (wpAny_listPart pu (wpAny_pure ?_))))
  unfold Builtin.List.listItems
  refine wpAny_bind (wpAny_bind (wpAny_seqItems e rfl (wpAny_pure ?_)))
  refine wpAny_bind (wpAny_of_eq ((sliceIndices_raw none (some (c : Int)) none items.size (by simp)).trans (congrArg (pure : Int × Int × Int → Sem (Int × Int × Int)) (bounds_to hc))) ?_)
  refine wpAny_bind (wpAny_rule ?_)
  have key : ∀ F : Array Value → Array Value, (F = fun xs => (xs.toList.zipIdx.filterMap fun p => if (if (1 : Int) > 0 then (decide ((0 : Int) ≤ (p.2 : Nat)) && decide (((p.2 : Nat) : Int) < (c : Int)) && ((((p.2 : Nat) : Int) - 0) % 1 == 0)) else false) = true then none else some p.1).toArray) → F items = (items.toList.drop c).toArray := by
    intro F hF
    rw [hF]
    refine congrArg List.toArray (drop_run _ c (fun x k => ?_) _ 0)
    have e1 : (((k : Nat) : Int) - 0) % 1 = 0 := by omega
    by_cases hk : k < c
    · rw [if_pos hk]
      have a1 : decide ((0 : Int) ≤ (k : Nat)) = true := decide_eq_true (by omega)
      have a2 : decide (((k : Nat) : Int) < (c : Int)) = true := decide_eq_true (by omega)
      simp [a1, a2, hk]
    · rw [if_neg hk]
      have a2 : decide (((k : Nat) : Int) < (c : Int)) = false := decide_eq_false (by omega)
      simp [a2, hk]
  show wpAny _ _ (updateSeq l _ >>= _) _ _ s
  refine wpAny_bind (wpAny_updateSeq (hz := hsz) (_hz' := ?_) e rfl ?_)
  · refine wpAny_bind (wpAny_letGo ?_)
    exact wpAny_pure ⟨.none, rfl, h _ (key _ rfl)⟩
  · refine Nat.le_trans ?_ (Nat.le_succ_of_le hsz)
    rw [List.size_toArray]
    refine Nat.le_trans (List.length_filterMap_le _ _) ?_
    rw [List.length_zipIdx, Array.length_toList]
    exact Nat.le_refl _
end
/-- del e[:c] -/
def tDelTo (to th : TE) : TS := fun D σ H => to σ H fun x H1 => th σ H1 fun y H2 => ∃ (l : Addr) (xs : List V) (c : Nat), x = .ref l ∧ y = .int (c : Int) ∧ H2 l = some (.lst xs) ∧ c ≤ xs.length ∧ D.nx σ (upd H2 l (.lst (xs.drop c)))
theorem ps_delTo {X : Cx} {o i : Expr} {to ti : TE} {tpos p2 pos : Pos} (ho : PE X o to) (hi : PE X i ti) : PS X (.Delete [.Subscript o (.Slice none (some i) none p2) tpos] pos) (tDelTo to ti) := by
  refine ⟨fun pins s σ H D I h => ?_⟩
  refine wpAny_Delete (wpAny_deleteEach_cons (wpAny_delete_Subscript (thn (ho.run pins s σ H _ I h) fun u s1 ⟨x, H1, I1, rx, q1⟩ => ?_)))
  refine wpAny_Slice ?_
  rw [evalPart_none]
  refine wpAny_pure ?_
  rw [evalPart_some]
  refine thn (hi.run pins s1 σ H1 _ I1 q1) fun vu s3 ⟨y, H2, I3, ry, l, xs, c, ex, ey, hH, hc, q⟩ => ?_
  refine wpAny_pure ?_
  subst ex
  subst ey
  obtain rfl : u = Value.ref l := rx
  obtain ⟨t, rfl⟩ := (show ∃ t, vu = Value.int (c : Int) t from ry)
  have I4 : Inv X pins σ H2 { s3 with heap := s3.heap.push { cls := .type "slice", data := .fields #[.none, .int (c : Int) t, .none] } } := I3.kept (t' := s3.toks) fun b ob q => Heap.get?_push_of_some _ q
  obtain ⟨z, its, n, r, hl, e⟩ := I4.lstM hH
  refine delItem_to e (Heap.IsSliceOf.new ..) .none (.int _ _) (by rw [List.size_toArray]; omega) (by rw [List.size_toArray]; omega) fun F hF => wpAny_deleteEach_nil ⟨σ, _, I4.lset (its' := its.drop c) (t' := s3.toks) hH e (by rw [hF]) (r.drop c) (by rw [List.length_drop]; omega), q⟩
end Fh

/-! list(enumerate(xs, start=k)): the new pairs, in a new list. -/
namespace Fh
open PySem PySem.Spec PyProof.Rows L2
open PySem.W (kdx_alive)
abbrev EnumX (h : Heap) (e it : Addr) (c : Int) (x : Value) (a : Addr) (f : Bool) : Prop :=
  h.get? e = some { cls := .type "enumerate", dict := none, data := .fields #[rawInt a, .bool f, .ref it, rawInt c, .none, x], slots := #[] }
section
variable {prog : Program} {w : World} {A : Around} {E : Value → Shared → Prop} {s : Shared}
/-- the next pair where the last one is still held -/
theorem next_held {e it a : Addr} {fp : List Addr} {n i : Nat} {c : Int} {P : Nat → Value → Prop} {St : Nat → Heap → Prop} {x0 : Value} {f : Bool} {oa : Obj} {Q : Option Value → Shared → Prop}
    (D : Draws prog w A.in1 it fp n P St) (he : EnumX s.heap e it c x0 a f) (ha : s.heap.get? a = some oa) (hae : a ≠ e) (hai : a ≠ it) (hst : St i s.heap) (hlt : i < n) (hne : e ≠ it) (hef : e ∉ fp)
    (hQ : ∀ x h' tk, P i x → EnumX h' e it (c + 1) x0 a true → St (i + 1) h' → h'.get? s.heap.objs.size = some { cls := .type "tuple", data := .seq #[.int c tk, x] } → h'.objs.size = s.heap.objs.size + 1 →
      (∀ b o, b ≠ e → b ≠ it → s.heap.get? b = some o → h'.get? b = some o) → Q (some (.ref s.heap.objs.size)) { s with heap := h', toks := tk + 1 }) :
    wpAny (model prog w) A (pyNext (.ref e)) Q E s := by
  obtain ⟨hp, g, d, tk₀, os⟩ := s
  have hT : Shared.TypeIs ⟨hp, g, d, tk₀, os⟩ (.ref e) "enumerate" := ⟨_, he, rfl⟩
  unfold pyNext
  refine wpAny_bind (wpAny_attempt (wpAny_callSpecial?_slot (name := Str.ofString "__next__") hT PySem.F.slot_enumerate_next
    (wpAny_call_entry PySem.F.slot_enumerate_next hT PySem.F.entry_enumerate_next ?_ (PySem.F.args_enumerate_next_1 _))))
  show wpAny _ _ (field (.ref e) 2 >>= _) _ _ _
  refine wpAny_bind (wpAny_field he rfl (x := .ref it) rfl ?_)
  refine wpAny_bind (D.item i _ _ _ hlt hst fun x h₁ tk hPx hit₁ hs₁ => ?_)
  replace hs₁ : Heap.SameBut it hp h₁ := hs₁
  have he₁ : EnumX h₁ e it c x0 a f := (hs₁.2 e hne).trans he
  show wpAny _ _ (field (.ref e) 3 >>= _) _ _ ⟨h₁, g, d, tk, os⟩
  refine wpAny_bind (wpAny_field he₁ rfl (x := rawInt c) rfl ?_)
  show wpAny _ _ (field (.ref e) 4 >>= _) _ _ ⟨h₁, g, d, tk, os⟩
  refine wpAny_bind (wpAny_field he₁ rfl (x := .none) rfl ?_)
  show wpAny _ _ (mkInt c >>= _) _ _ ⟨h₁, g, d, tk, os⟩
  refine wpAny_bind (wpAny_mkInt ?_)
  show wpAny _ _ (setField (.ref e) 3 (rawInt (c + 1)) >>= _) _ _ ⟨h₁, g, d, tk + 1, os⟩
  refine wpAny_bind (wpAny_setField_rec he₁ (by simp) fun h₂ he₂ hs₂ => ?_)
  replace hs₂ : Heap.SameBut e h₁ h₂ := hs₂
  replace he₂ : EnumX h₂ e it (c + 1) x0 a f := he₂
  show wpAny _ _ (setField (.ref e) 4 .none >>= _) _ _ ⟨h₂, g, d, tk + 1, os⟩
  refine wpAny_bind (wpAny_setField_rec he₂ (by simp) fun h₃ he₃ hs₃ => ?_)
  replace hs₃ : Heap.SameBut e h₂ h₃ := hs₃
  replace he₃ : EnumX h₃ e it (c + 1) x0 a f := he₃
  show wpAny _ _ (newTuple [.int c tk, x] >>= _) _ _ ⟨h₃, g, d, tk + 1, os⟩
  refine wpAny_bind (wpAny_newTuple ?_)
  have he₄ : EnumX (h₃.push { cls := .type "tuple", data := .seq #[.int c tk, x] }) e it (c + 1) x0 a f := Heap.get?_push_of_some _ he₃
  generalize hh₄ : h₃.push { cls := .type "tuple", data := .seq #[.int c tk, x] } = h₄ at he₄
  have hsz : h₃.objs.size = hp.objs.size := by rw [hs₃.1, hs₂.1, hs₁.1]
  have hel : e < hp.objs.size := Heap.lt_size he
  have ht₄ : h₄.get? hp.objs.size = some { cls := .type "tuple", data := .seq #[.int c tk, x] } := by rw [← hh₄, ← hsz]; exact Heap.get?_push_size _ rfl
  have hz₄ : h₄.objs.size = hp.objs.size + 1 := by rw [← hh₄, Heap.size_push, hsz]
  have hk₄ : ∀ b o, b ≠ e → b ≠ it → hp.get? b = some o → h₄.get? b = some o := fun b o hbe hbi hb => by
    rw [← hh₄]; exact Heap.get?_push_of_some _ (hs₃.extBut b o hbe (hs₂.extBut b o hbe (hs₁.extBut b o hbi hb)))
  have hit₄ : St (i + 1) h₄ := D.frame _ _ _ hit₁ fun b hb o y => by
    have hbe : b ≠ e := fun q => hef (q ▸ hb)
    rw [← hh₄]; exact Heap.get?_push_of_some _ (hs₃.extBut b o hbe (hs₂.extBut b o hbe y))
  have ha₄ : h₄.get? a = some oa := hk₄ a oa hae hai ha
  show wpAny _ _ (Builtin.SmallTypes.ownedTupleIsFree (.ref e) >>= _) _ _ ⟨h₄, g, d, tk + 1, os⟩
  rw [hsz]
  clear hh₄ he₃ hs₃ he₂ hs₂ he₁ hs₁ hit₁ hsz h₃ h₂ h₁
  refine wpAny_bind ?_
  unfold Builtin.SmallTypes.ownedTupleIsFree
  refine wpAny_bind (wpAny_field he₄ rfl (x := rawInt a) rfl ?_)
  show wpAny _ _ (loadIfAlive ((a : Int).toNat) >>= _) _ _ _
  rw [Int.toNat_natCast]
  refine wpAny_bind (kdx_alive ha₄ ?_)
  simp only [Option.isNone_some, Bool.false_eq_true, if_false]
  refine wpAny_bind (wpAny_field he₄ rfl (x := .bool f) rfl ?_)
  have fin : ∀ h₅ : Heap, EnumX h₅ e it (c + 1) x0 a true → Heap.SameBut e h₄ h₅ → Q (some (.ref hp.objs.size)) ⟨h₅, g, d, tk + 1, os⟩ := fun h₅ he₅ hs₅ =>
    hQ x h₅ tk hPx he₅ (D.frame _ _ _ hit₄ fun b hb o y => hs₅.extBut b o (fun q => hef (q ▸ hb)) y) (by exact hs₅.extBut _ _ (Nat.ne_of_gt hel) ht₄) (by show h₅.objs.size = hp.objs.size + 1; rw [hs₅.1, hz₄])
      fun b o hbe hbi hb => hs₅.extBut b o hbe (hk₄ b o hbe hbi hb)
  cases f with
  | true =>
    rw [if_neg (show ¬ ((Value.bool true != Value.bool true) = true) from Bool.false_ne_true)]
    refine wpAny_pure ?_
    simp only [Bool.false_eq_true, if_false]
    exact wpAny_pure ⟨_, rfl, wpAny_pure (fin h₄ he₄ (Heap.SameBut.refl _ _))⟩
  | false =>
    rw [if_pos (show (Value.bool false != Value.bool true) = true from rfl)]
    refine wpAny_bind (wpAny_setField_rec he₄ (by simp) fun h₅ he₅ hs₅ => ?_)
    replace hs₅ : Heap.SameBut e h₄ h₅ := hs₅
    replace he₅ : EnumX h₅ e it (c + 1) x0 a true := he₅
    refine wpAny_pure ?_
    simp only [Bool.false_eq_true, if_false]
    exact wpAny_pure ⟨_, rfl, wpAny_pure (fin h₅ he₅ hs₅)⟩
/-- its end -/
theorem next_over {e it : Addr} {fp : List Addr} {n : Nat} {P : Nat → Value → Prop} {St : Nat → Heap → Prop} {o : Obj} {vs : Array Value} {Q : Option Value → Shared → Prop}
    (D : Draws prog w A.in1 it fp n P St) (he : s.heap.get? e = some o) (hc : o.cls = .type "enumerate") (hd : o.data = .fields vs) (h2 : vs[2]? = some (.ref it)) (hst : St n s.heap)
    (hQ : ∀ h', Heap.ExtBut it s.heap h' → Q none { s with heap := h' }) : wpAny (model prog w) A (pyNext (.ref e)) Q E s := by
  have hT : s.TypeIs (.ref e) "enumerate" := ⟨_, he, hc⟩
  unfold pyNext
  refine wpAny_bind (wpAny_attempt (wpAny_callSpecial?_slot (name := Str.ofString "__next__") hT PySem.F.slot_enumerate_next
    (wpAny_call_entry PySem.F.slot_enumerate_next hT PySem.F.entry_enumerate_next ?_ (PySem.F.args_enumerate_next_1 _))))
  show wpAny _ _ (field (.ref e) 2 >>= _) _ _ _
  refine wpAny_bind (wpAny_field he hd (x := .ref it) h2 ?_)
  refine wpAny_bind (D.done _ _ _ hst fun h' x he' hx' => ?_)
  obtain ⟨o, ho, hc⟩ := hx'
  refine wpAny_bind (wpAny_isInstance (T := "StopIteration") (b := true) ⟨o, ho, hc⟩ isSubtype_stop ?_)
  exact wpAny_pure (hQ _ he')
end
/-- the iterator e between two turns -/
def EnSt (h : Heap) (e it S : Addr) (c : Int) : Prop := (∃ old, IsEnum h e it c old) ∨ ∃ x a f oa, EnumX h e it c x a f ∧ h.get? a = some oa ∧ a ≠ e ∧ a ≠ it ∧ a ≠ S
theorem EnSt.at_ {h : Heap} {e it S : Addr} {c : Int} (x : EnSt h e it S c) : ∃ o vs, h.get? e = some o ∧ o.cls = .type "enumerate" ∧ o.data = .fields vs ∧ vs[2]? = some (.ref it) := by
  rcases x with ⟨old, h1⟩ | ⟨x, a, f, oa, h1, _⟩
  · exact ⟨_, _, h1, rfl, rfl, rfl⟩
  · exact ⟨_, _, h1, rfl, rfl, rfl⟩
theorem EnSt.keep {h h' : Heap} {e it S : Addr} {c : Int} (x : EnSt h e it S c) (hS : S ≠ e) (k : ∀ b o, b ≠ S → h.get? b = some o → h'.get? b = some o) : EnSt h' e it S c := by
  rcases x with ⟨old, h1⟩ | ⟨x, a, f, oa, h1, h2, h3, h4, h5⟩
  · exact .inl ⟨old, k e _ hS.symm h1⟩
  · exact .inr ⟨x, a, f, oa, k e _ hS.symm h1, k a _ h5 h2, h3, h4, h5⟩
section
variable {prog : Program} {w : World} {A : Around} {E : Value → Shared → Prop} {s : Shared}
theorem next_any {e it S : Addr} {fp : List Addr} {n i : Nat} {c : Int} {P : Nat → Value → Prop} {St : Nat → Heap → Prop} {Q : Option Value → Shared → Prop}
    (D : Draws prog w A.in1 it fp n P St) (he : EnSt s.heap e it S c) (hS : S < s.heap.objs.size) (hil : it < s.heap.objs.size) (hst : St i s.heap) (hlt : i < n) (hne : e ≠ it) (hef : e ∉ fp)
    (hQ : ∀ x h' tk, P i x → EnSt h' e it S (c + 1) → St (i + 1) h' → h'.get? s.heap.objs.size = some { cls := .type "tuple", data := .seq #[.int c tk, x] } → h'.objs.size = s.heap.objs.size + 1 →
      (∀ b o, b ≠ e → b ≠ it → s.heap.get? b = some o → h'.get? b = some o) → Q (some (.ref s.heap.objs.size)) { s with heap := h', toks := tk + 1 }) :
    wpAny (model prog w) A (pyNext (.ref e)) Q E s := by
  rcases he with ⟨old, h1⟩ | ⟨x, a, f, oa, h1, h2, h3, h4, h5⟩
  · have hel : e < s.heap.objs.size := Heap.lt_size h1
    refine wpAny_pyNext_enum_itemC D h1 hst hlt hne hef fun x h' tk hP ho hs' hT hsz hk => hQ x h' tk hP (.inr ⟨x, _, false, _, ho, hT, Nat.ne_of_gt hel, Nat.ne_of_gt hil, Nat.ne_of_gt hS⟩) hs' hT hsz hk
  · refine next_held D h1 h2 h3 h4 hst hlt hne hef fun x' h' tk hP ho hs' hT hsz hk => hQ x' h' tk hP (.inr ⟨x, a, true, oa, ho, hk a oa h3 h4 h2, h3, h4, h5⟩) hs' hT hsz hk
/-- the pairs stand at as, in order, above lo -/
structure PrG (k0 : Int) (items : Array Value) (lo : Addr) (h : Heap) (as : List Addr) : Prop where
  rise : as.Pairwise (· < ·)
  above : ∀ a ∈ as, lo < a
  pairs : ∀ (j : Nat) (a : Addr), as[j]? = some a → ∃ tk x, items[j]? = some x ∧ h.get? a = some { cls := .type "tuple", data := .seq #[.int (k0 + j) tk, x] }
theorem PrG.there {k0 : Int} {items : Array Value} {lo : Addr} {h : Heap} {as : List Addr} (g : PrG k0 items lo h as) {a : Addr} (ha : a ∈ as) : a < h.objs.size := by
  obtain ⟨j, hj⟩ := List.mem_iff_getElem?.mp ha
  obtain ⟨_, _, _, e⟩ := g.pairs j a hj
  exact Heap.lt_size e
theorem loop_pairs {S e it l : Addr} {k0 : Int} {items : Array Value} {R : Result → Shared → Prop} (hh : A.handled = none) (hSe : e < S) (hie : it < e) (hlt0 : l < it) (hn : items.size ≤ sizeLine) (res : Value) {h₁ : Heap}
    (hR : ∀ h' tk acc c as, (∀ b o, b ≠ S → b ≠ e → b ≠ it → h₁.get? b = some o → h'.get? b = some o) → h'.get? S = some { cls := .type "list", dict := none, data := .seq acc c, slots := #[] } → as.length = items.size → PrG k0 items S h' as →
      acc.toList = as.map Value.ref → R (.ok (.ret res)) { s with heap := h', toks := tk }) :
    ∀ (k i : Nat) (h : Heap) (tk c : Nat) (acc : Array Value) (as : List Addr), items.size - i = k → i ≤ items.size → EnSt h e it S (k0 + i) → h.IsListIter it l i → h.IsList l items → (∀ b o, b ≠ S → b ≠ e → b ≠ it → h₁.get? b = some o → h.get? b = some o) →
      h.get? S = some { cls := .type "list", dict := none, data := .seq acc c, slots := #[] } → acc.toList = as.map Value.ref → as.length = i → PrG k0 items S h as → S < h.objs.size →
      codeAny (model prog w) A (.builtin "list.extend.loop" ⟨[.ref S, .ref e, res], []⟩) R { s with heap := h, toks := tk } := by
  have heS : S ≠ e := Nat.ne_of_gt hSe
  have hiS : S ≠ it := Nat.ne_of_gt (Nat.lt_trans hie hSe)
  have hlS : l ≠ S := Nat.ne_of_lt (Nat.lt_trans hlt0 (Nat.lt_trans hie hSe))
  have hle : l ≠ e := Nat.ne_of_lt (Nat.lt_trans hlt0 hie)
  have hli : l ≠ it := Nat.ne_of_lt hlt0
  have hei : e ≠ it := Nat.ne_of_gt hie
  have hef : e ∉ [it, l] := by simp [hei, hle.symm]
  have D := Draws.list (prog := prog) (w := w) (A := A.in1.in1) hh it l hli items
  intro k
  induction k with
  | zero =>
    intro i h tk c acc as hk hi hst hI hL hkeep hS hacc hal hG hIs
    have hin : i = items.size := by omega
    refine codeAny_builtin PySem.F.entry_extend_loop ?_
    rw [Around.under_plainId PySem.F.plain_extend_loop _]
    show wpAny _ A.in1 (pyNext (.ref e) >>= _) _ _ _
    obtain ⟨o, vs, ho, hc, hd, h2⟩ := hst.at_
    refine wpAny_bind (next_over (s := { s with heap := h, toks := tk }) (A := A.in1) D ho hc hd h2 (by rw [← hin]; exact ⟨hI, hL⟩) fun h' he => ?_)
    refine wpAny_pure (hR h' tk acc c as (fun b o h1 h2 h3 e => he b o h3 (hkeep b o h1 h2 h3 e)) (he S _ hiS hS) (by omega) ⟨hG.rise, hG.above, fun j a hj => ?_⟩ hacc)
    obtain ⟨t, x, hx, e3⟩ := hG.pairs j a hj
    have hb := hG.above a (List.mem_of_getElem? hj)
    exact ⟨t, x, hx, he a _ (Nat.ne_of_gt (Nat.lt_trans (Nat.lt_trans hie hSe) hb)) e3⟩
  | succ k ih =>
    intro i h tk c acc as hk hi hst hI hL hkeep hS hacc hal hG hIs
    have hlt : i < items.size := by omega
    have hsz : acc.size = i := by rw [← Array.length_toList, hacc, List.length_map, hal]
    have hil : it < h.objs.size := by
      obtain ⟨o, ho, _⟩ := hI
      exact Heap.lt_size ho
    refine codeAny_builtin PySem.F.entry_extend_loop ?_
    rw [Around.under_plainId PySem.F.plain_extend_loop _]
    show wpAny _ A.in1 (pyNext (.ref e) >>= _) _ _ _
    refine wpAny_bind (next_any (s := { s with heap := h, toks := tk }) (A := A.in1) D hst hIs hil ⟨hI, hL⟩ hlt hei hef fun x h' tk' hPx hst' hs' ht hz hkp => ?_)
    dsimp only at ht hz hkp ⊢
    have hS' := hkp S _ heS hiS hS
    have up : ∀ b o, b ≠ S → h'.get? b = some o → (h'.update S (Obj.mapSeq (·.push (Value.ref h.objs.size)))).get? b = some o := fun b o hb e => (Heap.get?_update_other _ _ (Ne.symm hb)).trans e
    show wpAny _ A.in1 (updateSeq S (·.push (Value.ref h.objs.size)) >>= _) _ _ _
    refine wpAny_bind ?_
    have ec : k0 + (i : Int) + 1 = k0 + ((i + 1 : Nat) : Int) := by omega
    rw [ec] at hst'
    refine wpAny_updateSeq hS' rfl (wpAny_pure ⟨plainId_quiet PySem.F.plain_extend_loop _, ih (i + 1) _ (tk' + 1) _ (acc.push (Value.ref h.objs.size)) (as ++ [h.objs.size]) (by omega) hlt (hst'.keep heS up)
      (hs'.1.at fun o e => up it o hiS.symm e) (hs'.2.at fun o e => up l o hlS e)
      (fun b o h1 h2 h3 e => up b o h1 (hkp b o h2 h3 (hkeep b o h1 h2 h3 e))) (Heap.get?_update_self _ hS' rfl) (by rw [Array.toList_push, hacc, List.map_append]; rfl) (by rw [List.length_append, hal]; rfl) ⟨?_, ?_, ?_⟩ ?_⟩) (by rw [hsz]; omega) (by show (acc.push (Value.ref h.objs.size)).size ≤ sizeLine + 1; rw [Array.size_push, hsz]; omega)
    · refine List.pairwise_append.mpr ⟨hG.rise, List.pairwise_singleton _ _, fun a ha b hb => ?_⟩
      rw [List.mem_singleton.mp hb]
      exact hG.there ha
    · intro a ha
      rcases List.mem_append.mp ha with ha | ha
      · exact hG.above a ha
      · rw [List.mem_singleton.mp ha]; exact hIs
    · intro j b hj
      rcases Nat.lt_trichotomy j as.length with h1 | h1 | h1
      · rw [List.getElem?_append_left h1] at hj
        obtain ⟨t, y, hy, e3⟩ := hG.pairs j b hj
        have hb := hG.above b (List.mem_of_getElem? hj)
        exact ⟨t, y, hy, up b _ (Nat.ne_of_gt hb) (hkp b _ (Nat.ne_of_gt (Nat.lt_trans hSe hb)) (Nat.ne_of_gt (Nat.lt_trans (Nat.lt_trans hie hSe) hb)) e3)⟩
      · subst h1
        have hb : h.objs.size = b := by simpa using hj
        subst hb
        subst hal
        exact ⟨_, x, hPx, up _ _ (Nat.ne_of_gt hIs) ht⟩
      · have hnone : (as ++ [h.objs.size])[j]? = none := List.getElem?_eq_none (by rw [List.length_append, List.length_singleton]; omega)
        rw [hnone] at hj; cases hj
    · have e : (h'.update S (Obj.mapSeq (·.push (Value.ref h.objs.size)))).get? h.objs.size = _ := up _ _ (Nat.ne_of_gt hIs) ht
      exact Nat.lt_trans hIs (Heap.lt_size e)
end
theorem en_no_len : typeLookup (.type "enumerate") "__len__" = pure none := am_miss_of_fast (by decide +kernel)
theorem en_no_hint : typeLookup (.type "enumerate") "__length_hint__" = pure none := am_miss_of_fast (by decide +kernel)
section
variable {prog : Program} {w : World} {A : Around} {E : Value → Shared → Prop} {s : Shared}
theorem hint_en {e : Addr} {Q : Bool → Shared → Prop} (hT : s.TypeIs (.ref e) "enumerate") (h : Q true s) : wpAny (model prog w) A (Builtin.List.listLengthHint (.ref e)) Q E s := by
  unfold Builtin.List.listLengthHint
  refine wpAny_bind (wpAny_specialOf hT en_no_len ?_)
  show wpAny _ _ (specialOf (Value.ref e) (Str.ofString "__length_hint__") >>= _) _ _ _
  refine wpAny_bind (wpAny_specialOf hT en_no_hint ?_)
  exact wpAny_pure h
theorem extend_en {S e it l : Addr} {k0 : Int} {items : Array Value} {R : Result → Shared → Prop} (hh : A.handled = none) (hSe : e < S) (hie : it < e) (hlt0 : l < it) (hn : items.size ≤ sizeLine) (res : Value) (c₀ : Nat)
    (he : IsEnum s.heap e it k0 .none) (hI : s.heap.IsListIter it l 0) (hL : s.heap.IsList l items) (hS : s.heap.get? S = some { cls := .type "list", data := .seq #[] c₀ })
    (hR : ∀ h' tk acc c as, (∀ b o, b ≠ S → b ≠ e → b ≠ it → s.heap.get? b = some o → h'.get? b = some o) → h'.get? S = some { cls := .type "list", dict := none, data := .seq acc c, slots := #[] } → as.length = items.size → PrG k0 items S h' as →
      acc.toList = as.map Value.ref → R (.ok (.ret res)) { s with heap := h', toks := tk }) :
    wpAny (model prog w) A.in1 (Builtin.List.listExtendWith (.ref S) (.ref e) res)
      (fun fin s' => match fin with | .done f => R (.ok f) s' | .again c' => c'.quiet = true ∧ codeAny (model prog w) A c' R s') (fun e s' => R (.error e) s') s := by
  have hT : s.TypeIs (.ref e) "enumerate" := ⟨_, he, rfl⟩
  have hSl := Heap.lt_size hS
  have hiS : S ≠ it := Nat.ne_of_gt (Nat.lt_trans hie hSe)
  have hlS : S ≠ l := Nat.ne_of_gt (Nat.lt_trans hlt0 (Nat.lt_trans hie hSe))
  have e0 : k0 = k0 + ((0 : Nat) : Int) := by omega
  have key : ∀ (h : Heap) (c₁ tk : Nat), (∀ b o, b ≠ S → s.heap.get? b = some o → h.get? b = some o) → h.get? S = some { cls := .type "list", data := .seq #[] c₁ } →
      codeAny (model prog w) A (.builtin "list.extend.loop" ⟨[.ref S, .ref e, res], []⟩) R { s with heap := h, toks := tk } := by
    intro h c₁ tk hk hS₁
    refine loop_pairs (s := s) (h₁ := s.heap) hh hSe hie hlt0 hn res hR items.size 0 h tk c₁ #[] [] (Nat.sub_zero _) (Nat.zero_le _) (.inl ⟨.none, by rw [← e0]; exact hk e _ (Nat.ne_of_lt hSe) he⟩)
      (hI.at fun o x => hk it o hiS.symm x) (hL.at fun o x => hk l o hlS.symm x) (fun b o h1 _ _ x => hk b o h1 x) hS₁ rfl rfl ⟨List.Pairwise.nil, (fun _ ha => nomatch ha), (fun j a hj => by simp at hj)⟩ (Heap.lt_size hS₁)
  unfold Builtin.List.listExtendWith
  refine wpAny_bind (wpAny_typeOf (T := "enumerate") hT ?_)
  have h1 : Builtin.List.listSameRef (.ref S) (.ref e) = false := by simp [Builtin.List.listSameRef, Nat.ne_of_gt hSe]
  have h2 : (Value.type "enumerate" == Value.type "list") = false := by decide
  have h3 : (Value.type "enumerate" == Value.type "tuple") = false := by decide
  simp only [h1, h2, h3, Bool.or_false, Bool.false_eq_true, if_false]
  refine wpAny_bind (wpAny_pyIter_enum he ?_)
  refine wpAny_bind (wpAny_holding (hint_en hT ?_))
  refine wpAny_ite_split (fun _ => ?_) (fun _ => wpAny_pure ⟨plainId_quiet PySem.F.plain_extend_loop _, key _ c₀ _ (fun b o _ e => e) hS⟩)
  refine wpAny_bind (wpAny_rule ?_)
  refine wpAny_bind ?_
  show wpAny _ _ (updateSeq S (·.push .none) >>= fun _ => updateSeq S (·.pop)) _ _ _
  refine wpAny_bind (wpAny_updateSeq hS rfl ?_)
  have hS₂ := Heap.get?_update_self (Obj.mapSeq (·.push Value.none)) hS rfl
  refine wpAny_updateSeq (hz := by seq_fits) hS₂ rfl ?_
  have hS₃ := Heap.get?_update_self (Obj.mapSeq (·.pop)) hS₂ rfl
  refine wpAny_pure ⟨plainId_quiet PySem.F.plain_extend_loop _, key _ _ _ (fun b o hb e => ?_) hS₃⟩
  exact (Heap.get?_update_other _ _ (Ne.symm hb)).trans ((Heap.get?_update_other _ _ (Ne.symm hb)).trans e)
theorem PrG.low {k0 : Int} {items : Array Value} {lo lo' : Addr} {h : Heap} {as : List Addr} (g : PrG k0 items lo h as) (hl : lo' ≤ lo) : PrG k0 items lo' h as := ⟨g.rise, fun a ha => Nat.lt_of_le_of_lt hl (g.above a ha), g.pairs⟩
theorem init_en {S e it l : Addr} {k0 : Int} {items : Array Value} {R : Result → Shared → Prop} (hh : A.handled = none) (hSe : e < S) (hie : it < e) (hlt0 : l < it) (hn : items.size ≤ sizeLine)
    (he : IsEnum s.heap e it k0 .none) (hI : s.heap.IsListIter it l 0) (hL : s.heap.IsList l items) (hS : s.heap.get? S = some { cls := .type "list", data := .seq #[] })
    (hR : ∀ h' tk acc c as, (∀ b o, b ≠ S → b ≠ e → b ≠ it → s.heap.get? b = some o → h'.get? b = some o) → h'.get? S = some { cls := .type "list", dict := none, data := .seq acc c, slots := #[] } → as.length = items.size → PrG k0 items S h' as →
      acc.toList = as.map Value.ref → R (.ok (.ret .none)) { s with heap := h', toks := tk }) :
    wpAny (model prog w) A.in1 (Builtin.«list.__init__» ⟨[.ref S, .ref e], []⟩)
      (fun fin s' => match fin with | .done f => R (.ok f) s' | .again c' => c'.quiet = true ∧ codeAny (model prog w) A c' R s') (fun e s' => R (.error e) s') s := by
  have hiS : it ≠ S := Nat.ne_of_lt (Nat.lt_trans hie hSe)
  have hlS : l ≠ S := Nat.ne_of_lt (Nat.lt_trans hlt0 (Nat.lt_trans hie hSe))
  show wpAny _ _ (do let old ← Builtin.List.listItems (.ref S); Builtin.List.listUpdate (.ref S) (fun _ => #[]); letGo old.toList.reverse; Builtin.List.listExtendWith (.ref S) (.ref e) .none) _ _ s
  refine wpAny_bind ?_
  unfold Builtin.List.listItems
  refine wpAny_bind (wpAny_seqItems hS rfl (wpAny_pure ?_))
  show wpAny _ _ (updateSeq S (fun _ => #[]) >>= fun _ => letGo (#[] : Array Value).toList.reverse >>= fun _ => Builtin.List.listExtendWith (.ref S) (.ref e) .none) _ _ s
  refine wpAny_bind (wpAny_updateSeq hS rfl ?_)
  have hS₂ := Heap.get?_update_self (Obj.mapSeq (fun _ => (#[] : Array Value))) hS rfl
  have oth : ∀ b o, b ≠ S → s.heap.get? b = some o → (s.heap.update S (Obj.mapSeq (fun _ => (#[] : Array Value)))).get? b = some o :=
    fun b o hb e => (Heap.get?_update_other _ _ (Ne.symm hb)).trans e
  refine wpAny_bind (wpAny_letGo ?_)
  refine extend_en hh hSe hie hlt0 hn .none _ (oth e _ (Nat.ne_of_lt hSe) he) (hI.at fun o x => oth it o hiS x) (hL.at fun o x => oth l o hlS x) hS₂ fun h' tk acc c as hk hS' hl hG hacc => ?_
  exact hR h' tk acc c as (fun b o h1 h2 h3 e => hk b o h1 h2 h3 (oth b o h1 e)) hS' hl hG hacc
theorem call_list_en {e it l : Addr} {k0 : Int} {items : Array Value} {Q : Value → Shared → Prop} (hh : A.handled = none) (hie : it < e) (hlt0 : l < it) (hn : items.size ≤ sizeLine)
    (he : IsEnum s.heap e it k0 .none) (hI : s.heap.IsListIter it l 0) (hL : s.heap.IsList l items)
    (hQ : ∀ h' tk acc c as, (∀ b o, b ≠ e → b ≠ it → s.heap.get? b = some o → h'.get? b = some o) → h'.get? s.heap.objs.size = some { cls := .type "list", dict := none, data := .seq acc c, slots := #[] } → as.length = items.size →
      PrG k0 items s.heap.objs.size h' as → acc.toList = as.map Value.ref → Q (.ref s.heap.objs.size) { s with heap := h', toks := tk }) :
    wpAny (model prog w) A (call (.type "list") [.ref e]) Q E s := by
  refine callType_codes (Q₁ := fun obj s₁ => obj = .ref s.heap.objs.size ∧ s₁ = { s with heap := s.heap.push { cls := .type "list", data := .seq #[] } }) PySem.F.called_list (PySem.F.typeCall_list_1 _) PySem.F.entry_list_init
    (code_list_new _ ⟨rfl, rfl⟩) fun obj s₁ h₁ => ?_
  obtain ⟨rfl, rfl⟩ := h₁
  have hS : (s.heap.push { cls := .type "list", data := .seq #[] }).get? s.heap.objs.size = some { cls := .type "list", data := .seq #[] } := Heap.get?_push_size _ rfl
  have hel : e < s.heap.objs.size := Heap.lt_size he
  refine ⟨⟨_, hS, rfl⟩, PySem.F.args_list_init_2 _ _, init_en (A := A.in1) hh hel hie hlt0 hn (Heap.get?_push_of_some _ he) (hI.at fun o x => Heap.get?_push_of_some _ x) (hL.at fun o x => Heap.get?_push_of_some _ x) hS (fun h' tk acc c as hk hS' hl hG hacc => ?_)⟩
  exact ⟨rfl, hQ h' tk acc c as (fun b o h2 h3 e => hk b o (Nat.ne_of_lt (Heap.lt_size e)) h2 h3 (Heap.get?_push_of_some _ e)) hS' hl hG hacc⟩
end
/-! ### over the layer -/
/-- the pairs tracked at their addresses -/
def putP : Hp → List Addr → List V → Int → Hp
  | H, a :: as, x :: xs, k => putP (upd H a (.tup [.int k, x])) as xs (k + 1)
  | H, _, _, _ => H
theorem putP_off {b : Addr} : ∀ (as : List Addr) (xs : List V) (H : Hp) (k : Int), b ∉ as → putP H as xs k b = H b
  | [], _, _, _, _ => rfl
  | _ :: _, [], _, _, _ => rfl
  | a :: as, x :: xs, H, k, h => by
    show putP (upd H a (.tup [.int k, x])) as xs (k + 1) b = H b
    rw [putP_off as xs _ _ (fun z => h (List.mem_cons_of_mem _ z)), upd_ne (fun z => h (by rw [z]; exact List.mem_cons_self))]
theorem putP_at : ∀ (as : List Addr) (xs : List V) (H : Hp) (k : Int), as.Nodup → as.length = xs.length → ∀ (j : Nat) (a : Addr), as[j]? = some a → ∃ x, xs[j]? = some x ∧ putP H as xs k a = some (.tup [.int (k + j), x])
  | [], _, _, _, _, _, j, a, h => by simp at h
  | _ :: _, [], _, _, _, h, _, _, _ => by cases h
  | a :: as, x :: xs, H, k, hn, hl, 0, b, h => by
    have e : a = b := Option.some.inj h
    subst e
    refine ⟨x, rfl, ?_⟩
    show putP (upd H a (.tup [.int k, x])) as xs (k + 1) a = _
    rw [putP_off as xs _ _ (List.nodup_cons.mp hn).1, upd_same]
    have e1 : k + ((0 : Nat) : Int) = k := by omega
    rw [e1]
  | a :: as, x :: xs, H, k, hn, hl, j + 1, b, h => by
    obtain ⟨y, h1, h2⟩ := putP_at as xs (upd H a (.tup [.int k, x])) (k + 1) (List.nodup_cons.mp hn).2 (Nat.succ.inj hl) j b h
    refine ⟨y, h1, ?_⟩
    have e1 : k + ((j + 1 : Nat) : Int) = k + 1 + (j : Int) := by omega
    rw [e1]
    exact h2
theorem refs_vals : ∀ as : List Addr, Vals (as.map V.ref) (as.map Value.ref)
  | [] => .nil
  | _ :: as => .cons rfl (refs_vals as)
/-- what list(enumerate(xs, start=k)) gives: a new list at p of the new pairs at ts -/
def rEnumL (K : PySem.W.Frag) : V → V → Hp → VK → Prop := fun x y H Q => ∃ (l : Addr) (xs : List V) (k0 : Int), x = .ref l ∧ y = .int k0 ∧ SqL K H l xs ∧ -(2 ^ 63) ≤ k0 ∧ k0 < 2 ^ 63 ∧
  ∀ (H' : Hp) (p : Addr) (ts : List Addr), Same H H' → H p = none → (∀ t ∈ ts, H t = none) → p ∉ ts → ts.Nodup → ts.length = xs.length → H' p = some (.lst (ts.map V.ref)) →
    (∀ (j : Nat) (t : Addr), ts[j]? = some t → ∃ v, xs[j]? = some v ∧ H' t = some (.tup [.int (k0 + j), v])) → Q (.ref p) H'
section
variable {X : Cx} {pins : List (Addr × Obj)} {σ : L2.St} {H : Hp} {s : Shared}
theorem pairs_laid {N : Addr} {h' : Heap} {tk : Nat} {xs : List V} {its : List Value} {k0 : Int} {acc : Array Value} {c : Nat} {as : List Addr} (I : Inv X pins σ H s) (hN : s.heap.objs.size ≤ N) (hz : xs.length ≤ sizeLine) (kv : Vals xs its)
    (hk : ∀ b o, s.heap.get? b = some o → h'.get? b = some o) (hS : h'.get? N = some { cls := .type "list", dict := none, data := .seq acc c, slots := #[] }) (hl : as.length = its.length) (hG : PrG k0 its.toArray N h' as) (hacc : acc.toList = as.map Value.ref) :
    ∃ H' : Hp, Same H H' ∧ H N = none ∧ (∀ t ∈ as, H t = none) ∧ N ∉ as ∧ as.Nodup ∧ H' N = some (.lst (as.map V.ref)) ∧ (∀ (j : Nat) (t : Addr), as[j]? = some t → ∃ v, xs[j]? = some v ∧ H' t = some (.tup [.int (k0 + j), v])) ∧ Inv X pins σ H' { s with heap := h', toks := tk } := by
  have lk : xs.length = its.length := kv.length
  have hSn : N ∉ as := fun z => Nat.lt_irrefl _ (hG.above _ z)
  have nd : as.Nodup := List.Pairwise.imp (fun {a b} (h : a < b) => Nat.ne_of_lt h) hG.rise
  have new : ∀ t ∈ as, H t = none := fun t ht => I.hok.fresh (Nat.le_trans hN (Nat.le_of_lt (hG.above t ht)))
  have newS : H N = none := I.hok.fresh hN
  have atP := putP_at as xs (upd H N (.lst (as.map V.ref))) k0 nd (by omega)
  have off : ∀ b, b ∉ as → b ≠ N → putP (upd H N (.lst (as.map V.ref))) as xs k0 b = H b := fun b h1 h2 => by rw [putP_off as xs _ _ h1, upd_ne h2]
  have low : ∀ b o, s.heap.get? b = some o → b ∉ as ∧ b ≠ N := fun b o e => ⟨fun z => absurd (Heap.lt_size e) (Nat.not_lt.mpr (Nat.le_trans hN (Nat.le_of_lt (hG.above b z)))), Nat.ne_of_lt (Nat.lt_of_lt_of_le (Heap.lt_size e) hN)⟩
  have kp : ∀ b u, H b = some u → (putP (upd H N (.lst (as.map V.ref))) as xs k0) b = some u := fun b u e => by
    rw [off b (fun z => by rw [new b z] at e; cases e) (fun z => by rw [z, newS] at e; cases e)]
    exact e
  have eS : putP (upd H N (.lst (as.map V.ref))) as xs k0 N = some (.lst (as.map V.ref)) := by rw [putP_off as xs _ _ hSn, upd_same]
  refine ⟨putP (upd H N (.lst (as.map V.ref))) as xs k0, kp, newS, new, hSn, nd, eS, atP, ?_⟩
  refine I.call' (ch := []) rfl ⟨fun b o q _ _ _ => hk b o q, fun b o q _ _ _ => ⟨o.slots, hk b o q⟩, fun b o q n _ => ?_, fun b o q _ => ⟨o, hk b o q⟩, fun b xs q => kp b _ q, fun b o u q => kp b _ q, fun b ps q => ⟨#[], by rw [kp b _ q]; simp⟩⟩ (fun b u q => ?_) I.bare fun b z => by simp at z
  · obtain ⟨z1, z2⟩ := low b o q
    rw [off b z1 z2]
    exact n
  · by_cases hb : b ∈ as
    · obtain ⟨j, hj⟩ := List.mem_iff_getElem?.mp hb
      obtain ⟨x, e1, e3⟩ := atP j b hj
      rw [e3] at q
      cases q
      obtain ⟨t, y, f1, f2⟩ := hG.pairs j b hj
      have f3 : its[j]? = some y := by rw [← f1]; simp
      obtain ⟨u, f4, rk0⟩ := Vals.get kv e1
      have rk : RelV x y := by
        rw [f3] at f4
        rw [Option.some.inj f4]
        exact rk0
      exact ⟨by show 2 ≤ sizeLine; decide, [.int (k0 + j) t, y], .cons ⟨t, rfl⟩ (.cons rk .nil), ⟨_, f2, rfl, _, rfl⟩⟩
    · by_cases hb2 : b = N
      · rw [hb2] at q ⊢
        rw [eS] at q
        cases q
        refine ⟨by rw [List.length_map]; omega, acc.toList, c, by rw [hacc]; exact refs_vals as, ?_⟩
        rw [Array.toArray_toList]
        exact hS
      · rw [off b hb hb2] at q
        exact (I.hok b u q).stay (fun d v _ y => hk d v y) (fun d y => kp d _ y) fun d xs y => kp d _ y
/-- a call of a built-in class with keywords -/
theorem callWith_tyKw {M : Model} {A : Around} {E : Value → Shared → Prop} {env : Env} {pos : Pos} {T : String} {e : Expr} {rest : List Expr} {kws : List Keyword} {Q : Value → Shared → Prop}
    (h : wpAny M A (spliced (backTo pos (starEach (e :: rest) env))) (fun vs s₁ => wpAny M A (evalAll ((backToKw pos (keywordEach kws env)).map (·.2)))
      (fun kvs s₂ => wpAny M A (call (.type T) vs (((backToKw pos (keywordEach kws env)).filterMap (·.1)).zip kvs)) Q E s₂) E s₁) E s)
    (he : backTo pos (starEach (e :: rest) env) = (false, eval e env) :: backTo pos (starEach rest env) := by rfl)
    (hplain : (backTo pos (starEach (e :: rest) env)).any (·.1) = false := by rfl)
    (hall : (backToKw pos (keywordEach kws env)).all (·.1.isSome) = true := by rfl)
    (hkw : (backToKw pos (keywordEach kws env)).any (·.1.isNone) = false := by rfl) :
    wpAny M A (callWith pos (.type T) [] (backTo pos (starEach (e :: rest) env)) (backToKw pos (keywordEach kws env))) Q E s := by
  unfold callWith
  refine wpAny_bind (wpAny_holding (wpAny_mono (Q := fun a s₁ => wpAny M A (call (.type T) ([] ++ a.pos) a.kw) Q E s₁) ?_ (fun a s₁ h₁ => wpAny_bind (wpAny_standAt ?_)) fun _ _ x => x))
  · rw [he] at h ⊢
    exact evalArgs_kwB hall h
  · simp only [hplain, hkw, Bool.or_false]
    refine wpAny_bind (wpAny_pure ?_)
    exact wpAny_bind (wpAny_mono h₁ (fun r s₂ hr => wpAny_bind (wpAny_holding (wpAny_point (wpAny_pure hr)))) fun _ _ x => x)
/-- list(enumerate(e, start=k)) -/
def tEnumL (K : PySem.W.Frag) (te tk : TE) : TE := fun σ H Q => te σ H fun x H1 => tk σ H1 fun y H2 => rEnumL K x y H2 Q
end
section
variable {X : Cx} {e k : Expr} {te tk : TE} {p p2 kp pos pos2 : Pos}
theorem pe_listEnum (hc : X.calm = true) (he : PE X e te) (hk : PE X k tk) (hg : Gl X "list") (hm : X.mg "list" = none) (hg2 : Gl X "enumerate") (hm2 : X.mg "enumerate" = none)
    (hs : starEach [.Call (.Name "enumerate" p2) [e] [⟨some "start", k, kp⟩] pos2] X.env = (false, eval (.Call (.Name "enumerate" p2) [e] [⟨some "start", k, kp⟩] pos2) X.env) :: starEach [] X.env := by rfl)
    (hse : starEach [e] X.env = (false, eval e X.env) :: starEach [] X.env := by rfl) :
    PE X (.Call (.Name "list" p) [.Call (.Name "enumerate" p2) [e] [⟨some "start", k, kp⟩] pos2] [] pos) (tEnumL X.K te tk) := by
  refine ⟨fun pins s σ H Q I hq => ?_⟩
  refine wpAny_Call_Name_kw (ld_blt I hg hm (by decide +kernel : bootBuiltins "list" = some (.type "list")) ?_)
  refine PyProof.Rows.callWith_type1 ?_ hs rfl
  rw [hs]
  show wpAny _ _ (spliced ((false, eval (.Call (.Name "enumerate" p2) [e] [⟨some "start", k, kp⟩] pos2) X.env) :: backTo pos (starEach [] X.env))) _ _ s
  refine Calls.spliced_cons ?_
  refine wpAny_Call_Name_kw (ld_blt I hg2 hm2 (by decide +kernel : bootBuiltins "enumerate" = some (.type "enumerate")) ?_)
  have hkw : PK X [⟨some "start", k, kp⟩] (tCons tk tNil) := pk_cons hk pk_nil
  have hs2 : backTo pos2 (starEach [e] X.env) = (false, eval e X.env) :: backTo pos2 (starEach [] X.env) := by
    rw [hse]
    rfl
  refine callWith_tyKw ?_ hs2 (by rw [hs2]; rfl)
  rw [hs2]
  refine Calls.spliced_cons (thn (he.run pins s σ H _ I hq) fun u s1 ⟨x, H1, I1, rx, q1⟩ => ?_)
  refine Calls.spliced_nil ?_
  refine thn (hkw.run pos2 pins s1 σ H1 (fun zs H2 => match zs with | [y] => rEnumL X.K x y H2 Q | _ => False) I1 q1) fun ws s2 ⟨zs, H2, I2, rz, q2⟩ => ?_
  cases rz with
  | nil => exact False.elim q2
  | cons r1 rz =>
    cases rz with
    | cons _ _ => exact False.elim q2
    | nil =>
      obtain ⟨l, xs, k0, ex, ey, hl, hk0, hk1, q⟩ := (show rEnumL X.K x _ H2 Q from q2)
      subst ex
      subst ey
      obtain rfl : u = Value.ref l := rx
      obtain ⟨t, rfl⟩ := (show ∃ t, _ = Value.int k0 t from r1)
      obtain ⟨its, kv, pl, hz⟩ := I2.list hl
      have lk : xs.length = its.length := kv.length
      have hl0 := pl.isList
      show wpAny _ _ (call (.type "enumerate") [.ref l] [(Str.ofString "start", .int k0 t)]) _ _ s2
      refine enum_begins_start (begins_list l its.toArray) hl0 hk0 hk1 fun h' he' hi' hz' hkp => ?_
      refine Calls.spliced_nil ?_
      have hll : l < s2.heap.objs.size := by
        obtain ⟨o, ho, _⟩ := hl0
        exact Heap.lt_size ho
      refine call_list_en (s := { s2 with heap := h' }) (I2.ok.hd hc) (Nat.lt_succ_self _) hll (by rw [List.size_toArray]; omega) he' ⟨_, hi', rfl, rfl⟩ (hl0.at fun o x => hkp l o x) fun h2 tk acc c as k2 hS hla hG hacc => ?_
      have old : ∀ b o, s2.heap.get? b = some o → h2.get? b = some o := fun b o e => k2 b o (Nat.ne_of_lt (Nat.lt_succ_of_lt (Heap.lt_size e))) (Nat.ne_of_lt (Heap.lt_size e)) (hkp b o e)
      obtain ⟨H', c1, c2, c3, c4, c5, c6, c7, J⟩ := pairs_laid (tk := tk) I2 (by show s2.heap.objs.size ≤ h'.objs.size; rw [hz']; omega) hz kv old hS (by rw [List.size_toArray] at hla; exact hla) hG hacc
      exact ⟨.ref _, H', J, rfl, q H' _ as c1 c2 c3 c4 c5 (by rw [List.size_toArray] at hla; omega) c6 c7⟩
end
end Fh

/-! The head's facts, with facts of one's own (a Bool of the written part) and defs found by a way of one's own (a property's getter). -/
namespace Fh
open PySem PySem.Spec PyProof.Rows L2 He
/-- one def: where it stands, its text, its defaults -/
structure Dx where
  ad : PySem.W.Frag → Addr
  name : Str
  qual : Str
  params : Arguments
  body : List Stmt
  scope : Scope
  dfl : List Dv := []
  kwd : List (Str × Dv) := []
def fnX (K : PySem.W.Frag) (a : Addr) : FnW := match K.lookup a with
  | some ⟨_, _, .func fd, _⟩ => some (fd.name, fd.qualname, fd.params, fd.body, fd.scope, fd.globals, fd.closure, fd.builtins)
  | _ => none
def Dx.val (d : Dx) : FnW := some (d.name, d.qual, d.params, .stmts d.body, d.scope, mainGlobals, [], builtinsNs)
def Dx.dvs (K : PySem.W.Frag) (d : Dx) : List V := d.dfl.map (Dv.v K)
def Dx.kws (K : PySem.W.Frag) (d : Dx) : List (Str × V) := d.kwd.map fun q => (q.1, q.2.v K)
def Dx.ok (K : PySem.W.Frag) (d : Dx) : Bool := PySem.W.keepIn K (.ref (d.ad K)) && (match K.lookup (d.ad K) with
  | some ⟨_, _, .func fd, _⟩ => PySem.W.codeIn K fd.code d.qual && (dflB K fd.defaults (d.dvs K) && kwdB K fd.kwdefaults (d.kws K))
  | _ => false)
theorem Dx.funD {K : PySem.W.Frag} {d : Dx} (e : fnX K (d.ad K) = d.val) (c : d.ok K = true) : ∃ fd, FunD K d.name d.qual d.params d.body d.scope (d.dvs K) (d.kws K) (d.ad K) fd := by
  obtain ⟨kp, c2⟩ := ba c
  unfold fnX at e
  cases q : K.lookup (d.ad K) with
  | none =>
    rw [q] at c2
    cases c2
  | some o =>
    obtain ⟨oc, od, dt, osl⟩ := o
    rw [q] at c2 e
    cases dt with
    | func fd =>
      obtain ⟨n1, n2, n3, n4, n5, n6, n7, n8, n9, n10, n11, n12, n13, n14, n15⟩ := fd
      have e2 : (some (n1, n2, n3, n4, n5, n6, n7, n15) : FnW) = some (d.name, d.qual, d.params, .stmts d.body, d.scope, mainGlobals, [], builtinsNs) := e
      simp only [Option.some.injEq, Prod.mk.injEq] at e2
      obtain ⟨h1, h2, h3, h4, h5, h6, h7, h8⟩ := e2
      subst h1 h2 h3 h4 h5 h6 h7 h8
      have c3 : (PySem.W.codeIn K n13 d.qual && (dflB K n8 (d.dvs K) && kwdB K n9 (d.kws K))) = true := c2
      obtain ⟨k1, k2⟩ := ba c3
      obtain ⟨k3, k4⟩ := ba k2
      exact ⟨_, ⟨oc, od, n8, n9, n10, n11, n12, n13, n14, osl, rfl, q, k1, dflB_ok k3, kwdB_ok k4⟩, kp⟩
    | _ => cases c2
def obsX (fa : List Fa) (ex : List (PySem.W.Frag → Bool)) (fn : List Dx) (K : PySem.W.Frag) : AlD := ((fa.all fun f => f.ok K) && ((ex.all fun f => f K) && fn.all fun d => d.ok K), fn.map fun d => fnX K (d.ad K))
def valX (fn : List Dx) : AlD := (true, fn.map Dx.val)
def SaysX (fa : List Fa) (ex : List (PySem.W.Frag → Bool)) (fn : List Dx) (K : PySem.W.Frag) : Prop := obsX fa ex fn K = valX fn
def obsXG (n : Nat) (fa : List Fa) (ex : List (PySem.W.Frag → Bool)) (fn : List Dx) (g : Addr → Option Obj) : AlD := obsX fa ex fn (frG g (asD g n))
def hookX (n : Nat) (fa : List Fa) (ex : List (PySem.W.Frag → Bool)) (fn : List Dx) : PySem.W.Hook where
  α := AlD
  obs := fun s => obsXG n fa ex fn s.heap.get?
  val := fun _ => valX fn
  says := fun _ h => ∃ K : PySem.W.Frag, K.In h ∧ SaysX fa ex fn K
  of := fun _ _ e => ⟨_, frG_in, e⟩
  keeps := fun _ _ _ ⟨K, hK, c⟩ k => ⟨K, PySem.W.Frag.In.keeps hK k, c⟩
theorem obsXG_eq {n : Nat} {fa : List Fa} {ex : List (PySem.W.Frag → Bool)} {fn : List Dx} {g : Addr → Option Obj} {s : Shared} (h : ∀ a, g a = s.heap.get? a) : obsXG n fa ex fn g = (hookX n fa ex fn).obs s := by
  have e : g = s.heap.get? := funext h
  rw [e] <;> rfl
section
variable {fa : List Fa} {ex : List (PySem.W.Frag → Bool)} {fn : List Dx} {K : PySem.W.Frag}
theorem SaysX.all (c : SaysX fa ex fn K) : ((fa.all fun f => f.ok K) && ((ex.all fun f => f K) && fn.all fun d => d.ok K)) = true := congrArg (fun z : AlD => z.1) c
theorem SaysX.fact (c : SaysX fa ex fn K) (i : Nat) {f : Fa} (h : fa[i]? = some f := by rfl) : f.ok K = true := List.all_eq_true.mp (ba c.all).1 f (List.mem_of_getElem? h)
theorem SaysX.ext (c : SaysX fa ex fn K) (i : Nat) {f : PySem.W.Frag → Bool} (h : ex[i]? = some f := by rfl) : f K = true := List.all_eq_true.mp (ba (ba c.all).2).1 f (List.mem_of_getElem? h)
theorem SaysX.def_ (c : SaysX fa ex fn K) (i : Nat) {d : Dx} (h : fn[i]? = some d := by rfl) : ∃ fd, FunD K d.name d.qual d.params d.body d.scope (d.dvs K) (d.kws K) (d.ad K) fd := by
  have e : fn.map (fun d => fnX K (d.ad K)) = fn.map Dx.val := congrArg (fun z : AlD => z.2) c
  have e2 : (fn.map fun d => fnX K (d.ad K))[i]? = (fn.map Dx.val)[i]? := by rw [e]
  rw [List.getElem?_map, List.getElem?_map, h] at e2
  exact Dx.funD (Option.some.inj e2) (List.all_eq_true.mp (ba (ba c.all).2).2 d (List.mem_of_getElem? h))
end
/-! ### a property of an own class -/
/-- its getter -/
def pgA (K : PySem.W.Frag) (C : Addr) (f : Str) : Addr := match PySem.W.recIn K (ma K C f) "property" with
  | some (.ref g :: _) => g
  | _ => 0
def propB (C f : Str) (K : PySem.W.Frag) : Bool := eqO (PySem.W.findIn K (.ref (ga K C)) f) (some (some (.ref (ma K (ga K C) f)))) &&
  (eqO (PySem.W.specialIn K (.ref (ma K (ga K C) f)) "__get__") (some (some (.builtin "property.__get__"))) && (decide (PySem.W.takesIn K (.ref (ma K (ga K C) f)) = some true) && (match PySem.W.recIn K (ma K (ga K C) f) "property" with
  | some (.ref _ :: _) => true
  | _ => false)))
theorem prop_ok {K : PySem.W.Frag} {C f : Str} (h : propB C f K = true) : PropOf K (ga K C) f (ma K (ga K C) f) (pgA K (ga K C) f) := by
  obtain ⟨h1, h⟩ := ba h
  obtain ⟨h2, h⟩ := ba h
  obtain ⟨h3, h4⟩ := ba h
  refine ⟨eqO_ok h1, eqO_ok h2, of_decide_eq_true h3, ?_⟩
  unfold pgA
  cases q : PySem.W.recIn K (ma K (ga K C) f) "property" with
  | none =>
    rw [q] at h4
    cases h4
  | some l =>
    rw [q] at h4
    cases l with
    | nil => cases h4
    | cons v r =>
      cases v with
      | ref g => exact ⟨r, rfl⟩
      | _ => cases h4
end Fh

/-! Data made of tuples: it stays as it is while lists and objects change. -/
namespace Fh
open PySem PySem.Spec PyProof.Rows L2
mutual
inductive TD (H : Hp) : V → PyData → Prop
  | non : TD H .non .none
  | bl (b : Bool) : TD H (.bl b) (.bool b)
  | int (i : Int) : TD H (.int i) (.int i)
  | str (x : Str) (ok : PyData.strOk x = true) : TD H (.str x) (.str x)
  | tup {a : Addr} {xs : List V} {ds : List PyData} : H a = some (.tup xs) → TDs H xs ds → TD H (.ref a) (.tuple ds)
inductive TDs (H : Hp) : List V → List PyData → Prop
  | nil : TDs H [] []
  | cons {v : V} {vs : List V} {d : PyData} {ds : List PyData} : TD H v d → TDs H vs ds → TDs H (v :: vs) (d :: ds)
end
/-- the tuples stand as they stood -/
def TSame (H H' : Hp) : Prop := ∀ b xs, H b = some (.tup xs) → H' b = some (.tup xs)
theorem TSame.refl (H : Hp) : TSame H H := fun _ _ h => h
theorem TSame.trans {H H1 H2 : Hp} (a : TSame H H1) (b : TSame H1 H2) : TSame H H2 := fun c o h => b c o (a c o h)
theorem TSame.of {H H' : Hp} (s : Same H H') : TSame H H' := fun b xs h => s b _ h
mutual
theorem TD.mono {H H' : Hp} (s : TSame H H') : ∀ {v : V} {d : PyData}, TD H v d → TD H' v d
  | _, _, .non => .non
  | _, _, .bl b => .bl b
  | _, _, .int i => .int i
  | _, _, .str x ok => .str x ok
  | _, _, .tup h hs => .tup (s _ _ h) (TDs.mono s hs)
theorem TDs.mono {H H' : Hp} (s : TSame H H') : ∀ {vs : List V} {ds : List PyData}, TDs H vs ds → TDs H' vs ds
  | _, _, .nil => .nil
  | _, _, .cons h hs => .cons (TD.mono s h) (TDs.mono s hs)
end
mutual
theorem TD.dp {K : PySem.W.Frag} {H : Hp} : ∀ {v : V} {d : PyData}, TD H v d → Dp K H v d
  | _, _, .non => .non
  | _, _, .bl b => .bl b
  | _, _, .int i => .int i
  | _, _, .str x _ => .str x
  | _, _, .tup h hs => .tup (SqT.of h) (TDs.dp hs)
theorem TDs.dp {K : PySem.W.Frag} {H : Hp} : ∀ {vs : List V} {ds : List PyData}, TDs H vs ds → DpAll K H vs ds
  | _, _, .nil => .nil
  | _, _, .cons h hs => .cons (TD.dp h) (TDs.dp hs)
end
mutual
theorem TD.lay {H : Hp} : ∀ {v : V} {d : PyData}, TD H v d → d.canLay0 = true
  | _, _, .non => rfl
  | _, _, .bl b => rfl
  | _, _, .int i => rfl
  | _, _, .str x ok => by simp only [PyData.canLay0]; exact ok
  | _, _, .tup _ hs => by rw [PyData.canLay0]; exact TDs.lay hs
theorem TDs.lay {H : Hp} : ∀ {vs : List V} {ds : List PyData}, TDs H vs ds → PyData.canLayAll0 ds = true
  | _, _, .nil => rfl
  | _, _, .cons h hs => by rw [PyData.canLayAll0, TD.lay h, TDs.lay hs]; rfl
end
/-- a tuple of data, at most n deep -/
def TupD (H : Hp) (n : Nat) (v : V) : Prop := ∃ (a : Addr) (xs : List V) (ds : List PyData), v = .ref a ∧ H a = some (.tup xs) ∧ TDs H xs ds ∧ (PyData.tuple ds).depth ≤ n
theorem TupD.mono {H H' : Hp} (s : TSame H H') {n : Nat} {v : V} (h : TupD H n v) : TupD H' n v := by
  obtain ⟨a, xs, ds, e, h1, h2, h3⟩ := h
  exact ⟨a, xs, ds, e, s _ _ h1, TDs.mono s h2, h3⟩
theorem shaped_of {d : PyData} (h1 : d.canLay0 = true) (h2 : d.depth ≤ 64) : SeqAt.shaped d = true := by
  unfold SeqAt.shaped
  rw [h1, decide_eq_true h2]
  rfl
theorem TupD.dat {K : PySem.W.Frag} {H : Hp} {n : Nat} {v : V} (h : TupD H n v) (hn : n ≤ 64) : ∃ d, Dp K H v d ∧ SeqAt.shaped d = true ∧ PyData.eqv d d = true := by
  obtain ⟨a, xs, ds, rfl, h1, h2, h3⟩ := h
  have td : TD H (.ref a) (.tuple ds) := .tup h1 h2
  exact ⟨_, td.dp, shaped_of td.lay (Nat.le_trans h3 hn), SeqAt.eqv_refl _ td.lay⟩
/-- a new tuple of data -/
theorem TupD.new {H : Hp} {n : Nat} {a : Addr} {xs : List V} {ds : List PyData} (ha : H a = none) (hs : TDs H xs ds) (hd : (PyData.tuple ds).depth ≤ n) : TupD (upd H a (.tup xs)) n (.ref a) :=
  ⟨a, xs, ds, rfl, upd_same, TDs.mono (fun b ys e => by rw [upd_ne (ne_of_none e ha)]; exact e) hs, hd⟩
theorem Same.new {H : Hp} {a : Addr} {o : HO} (ha : H a = none) : Same H (upd H a o) := fun b u e => by
  rw [upd_ne (ne_of_none e ha)]
  exact e
theorem Same.none' {H H' : Hp} (s : Same H H') {a : Addr} (h : H' a = none) : H a = none := s.free h
/-- addresses of objects, all different -/
structure Alive (H : Hp) (xs : List Addr) : Prop where
  nd : xs.Nodup
  at_ : ∀ b ∈ xs, ∃ o, H b = some o
theorem Alive.nil {H : Hp} : Alive H [] := ⟨List.nodup_nil, fun b h => by cases h⟩
theorem Alive.same {H H' : Hp} {xs : List Addr} (A : Alive H xs) (s : Same H H') : Alive H' xs := ⟨A.nd, fun b hb => by
  obtain ⟨o, e⟩ := A.at_ b hb
  exact ⟨o, s _ _ e⟩⟩
theorem Alive.cons {H H' : Hp} {xs : List Addr} {c : Addr} {o : HO} (A : Alive H xs) (hc : H c = none) (s : Same H H') (h : H' c = some o) : Alive H' (c :: xs) := by
  refine ⟨List.nodup_cons.mpr ⟨fun hm => ?_, A.nd⟩, fun b hb => ?_⟩
  · obtain ⟨u, e⟩ := A.at_ c hm
    rw [hc] at e
    cases e
  · rcases List.mem_cons.mp hb with e | hb
    · rw [e]
      exact ⟨o, h⟩
    · obtain ⟨u, e⟩ := A.at_ b hb
      exact ⟨u, s _ _ e⟩
theorem Alive.new {H : Hp} {xs : List Addr} {c : Addr} {o : HO} (A : Alive H xs) (hc : H c = none) : Alive (upd H c o) (c :: xs) := A.cons hc (Same.new hc) upd_same
/-- a list of two, by place -/
theorem two_at {α : Type} (f : Nat → α) {j : Nat} (hj : j < 2) : [f 0, f 1][j]? = some (f j) := by
  match j, hj with
  | 0, _ => rfl
  | 1, _ => rfl
end Fh

/-! Two sending ends of a channel keep their letters. -/
namespace K01
open PySem PySem.Spec PyProof.Rows L2 Fh
/-! ### the text by places -/
def top (i : Nat) : Stmt := PySem.Challenge.pw_farheap_k01_outgoing_keeps_its_letters.main.body.getD i (.Pass ⟨0, 0, 0, 0⟩)
abbrev s_Outgoing_init : Stmt := inClass (top 1) 0
abbrev s_Outgoing_put : Stmt := inClass (top 1) 1
abbrev s_Outgoing_due : Stmt := inClass (top 1) 2
abbrev s_Outgoing_acknowledge : Stmt := inClass (top 1) 3
abbrev s_Outgoing_put_count : Stmt := inClass (top 1) 4
abbrev s_Outgoing_acknowledged : Stmt := inClass (top 1) 5
abbrev s_law_is_integer : Stmt := top 3
abbrev s_law_number : Stmt := top 4
abbrev s_law_letter : Stmt := top 5
abbrev s_law_holds : Stmt := top 6
abbrev s_law_puts : Stmt := top 7
abbrev s_law_upto : Stmt := top 8
abbrev s_law : Stmt := top 9
theorem sc_Outgoing_init : FnScope ["self"] ["self"] (defScope s_Outgoing_init) := ⟨rfl, rfl, rfl, by decide +kernel, rfl, by decide +kernel, by decide +kernel⟩
theorem sc_Outgoing_put : FnScope ["self", "letter"] ["self", "letter"] (defScope s_Outgoing_put) := ⟨rfl, rfl, rfl, by decide +kernel, rfl, by decide +kernel, by decide +kernel⟩
theorem sc_Outgoing_due : FnScope ["self"] ["self"] (defScope s_Outgoing_due) := ⟨rfl, rfl, rfl, by decide +kernel, rfl, by decide +kernel, by decide +kernel⟩
theorem sc_Outgoing_acknowledge : FnScope ["self", "number", "reached"] ["self", "number"] (defScope s_Outgoing_acknowledge) := ⟨rfl, rfl, rfl, by decide +kernel, rfl, by decide +kernel, by decide +kernel⟩
theorem sc_Outgoing_put_count : FnScope ["self"] ["self"] (defScope s_Outgoing_put_count) := ⟨rfl, rfl, rfl, by decide +kernel, rfl, by decide +kernel, by decide +kernel⟩
theorem sc_Outgoing_acknowledged : FnScope ["self"] ["self"] (defScope s_Outgoing_acknowledged) := ⟨rfl, rfl, rfl, by decide +kernel, rfl, by decide +kernel, by decide +kernel⟩
theorem sc_law_is_integer : FnScope ["actual"] ["actual"] (defScope s_law_is_integer) := ⟨rfl, rfl, rfl, by decide +kernel, rfl, by decide +kernel, by decide +kernel⟩
theorem sc_law_number : FnScope ["cell", "k", "first", "second"] ["cell", "k"] (defScope s_law_number) := ⟨rfl, rfl, rfl, by decide +kernel, rfl, by decide +kernel, by decide +kernel⟩
theorem sc_law_letter : FnScope ["part", "kind", "first", "second"] ["part"] (defScope s_law_letter) := ⟨rfl, rfl, rfl, by decide +kernel, rfl, by decide +kernel, by decide +kernel⟩
theorem sc_law_holds : FnScope ["end", "letters", "done", "due", "k", "item"] ["end", "letters", "done"] (defScope s_law_holds) := ⟨rfl, rfl, rfl, by decide +kernel, rfl, by decide +kernel, by decide +kernel⟩
theorem sc_law_puts : FnScope ["end", "letters", "part", "letter", "count", "k", "number"] ["end", "letters", "part"] (defScope s_law_puts) := ⟨rfl, rfl, rfl, by decide +kernel, rfl, by decide +kernel, by decide +kernel⟩
theorem sc_law_upto : FnScope ["part", "done", "many", "choice", "rest"] ["part", "done", "many"] (defScope s_law_upto) := ⟨rfl, rfl, rfl, by decide +kernel, rfl, by decide +kernel, by decide +kernel⟩
theorem sc_law : FnScope ["script", "ends", "letters", "done", "k", "part", "at", "deed", "number", "spoilt"] ["script"] (defScope s_law) := ⟨rfl, rfl, rfl, by decide +kernel, rfl, by decide +kernel, by decide +kernel⟩
/-! ### what the top has written -/
/-- what the top has written -/
structure Txt (K : PySem.W.Frag) (mg : Str → Option Value) where
  mg_Outgoing : mg "Outgoing" = some (.ref (He.ga K "Outgoing"))
  cl_Outgoing : Cls K (He.ga K "Outgoing")
  n_Outgoing__letters : NoAttr K (He.ga K "Outgoing") "_letters"
  n_Outgoing__acknowledged : NoAttr K (He.ga K "Outgoing") "_acknowledged"
  mk_Outgoing : Mk K (He.ga K "Outgoing") (He.ma K (He.ga K "Outgoing") "__init__")
  m_Outgoing_put : Meth K (He.ga K "Outgoing") "put" (He.ma K (He.ga K "Outgoing") "put")
  m_Outgoing_due : Meth K (He.ga K "Outgoing") "due" (He.ma K (He.ga K "Outgoing") "due")
  m_Outgoing_acknowledge : Meth K (He.ga K "Outgoing") "acknowledge" (He.ma K (He.ga K "Outgoing") "acknowledge")
  g_law_is_integer : mg "_law_is_integer" = some (.ref (He.ga K "_law_is_integer"))
  g_law_number : mg "_law_number" = some (.ref (He.ga K "_law_number"))
  g_law_letter : mg "_law_letter" = some (.ref (He.ga K "_law_letter"))
  g_law_holds : mg "_law_holds" = some (.ref (He.ga K "_law_holds"))
  g_law_puts : mg "_law_puts" = some (.ref (He.ga K "_law_puts"))
  g_law_upto : mg "_law_upto" = some (.ref (He.ga K "_law_upto"))
  g_law : mg "law" = some (.ref (He.ga K "law"))
  z_list : mg "list" = none
  z_enumerate : mg "enumerate" = none
  z_min : mg "min" = none
  z_len : mg "len" = none
  z_property : mg "property" = none
  z_isinstance : mg "isinstance" = none
  z_int : mg "int" = none
  z_bool : mg "bool" = none
  z_range : mg "range" = none
  z_tuple : mg "tuple" = none
  z_max : mg "max" = none
  p_Outgoing_put_count : PropOf K (He.ga K "Outgoing") "put_count" (He.ma K (He.ga K "Outgoing") "put_count") (Fh.pgA K (He.ga K "Outgoing") "put_count")
  p_Outgoing_acknowledged : PropOf K (He.ga K "Outgoing") "acknowledged" (He.ma K (He.ga K "Outgoing") "acknowledged") (Fh.pgA K (He.ga K "Outgoing") "acknowledged")
  fd_Outgoing_init : FuncData
  F_Outgoing_init : FunD K "__init__" "Outgoing.__init__" (defArgs s_Outgoing_init) (defBody s_Outgoing_init) (defScope s_Outgoing_init) [] [] (He.ma K (He.ga K "Outgoing") "__init__") fd_Outgoing_init
  fd_Outgoing_put : FuncData
  F_Outgoing_put : FunD K "put" "Outgoing.put" (defArgs s_Outgoing_put) (defBody s_Outgoing_put) (defScope s_Outgoing_put) [] [] (He.ma K (He.ga K "Outgoing") "put") fd_Outgoing_put
  fd_Outgoing_due : FuncData
  F_Outgoing_due : FunD K "due" "Outgoing.due" (defArgs s_Outgoing_due) (defBody s_Outgoing_due) (defScope s_Outgoing_due) [] [] (He.ma K (He.ga K "Outgoing") "due") fd_Outgoing_due
  fd_Outgoing_acknowledge : FuncData
  F_Outgoing_acknowledge : FunD K "acknowledge" "Outgoing.acknowledge" (defArgs s_Outgoing_acknowledge) (defBody s_Outgoing_acknowledge) (defScope s_Outgoing_acknowledge) [] [] (He.ma K (He.ga K "Outgoing") "acknowledge") fd_Outgoing_acknowledge
  fd_Outgoing_put_count : FuncData
  F_Outgoing_put_count : FunD K "put_count" "Outgoing.put_count" (defArgs s_Outgoing_put_count) (defBody s_Outgoing_put_count) (defScope s_Outgoing_put_count) [] [] (Fh.pgA K (He.ga K "Outgoing") "put_count") fd_Outgoing_put_count
  fd_Outgoing_acknowledged : FuncData
  F_Outgoing_acknowledged : FunD K "acknowledged" "Outgoing.acknowledged" (defArgs s_Outgoing_acknowledged) (defBody s_Outgoing_acknowledged) (defScope s_Outgoing_acknowledged) [] [] (Fh.pgA K (He.ga K "Outgoing") "acknowledged") fd_Outgoing_acknowledged
  fd_law_is_integer : FuncData
  F_law_is_integer : FunD K "_law_is_integer" "_law_is_integer" (defArgs s_law_is_integer) (defBody s_law_is_integer) (defScope s_law_is_integer) [] [] (He.ga K "_law_is_integer") fd_law_is_integer
  fd_law_number : FuncData
  F_law_number : FunD K "_law_number" "_law_number" (defArgs s_law_number) (defBody s_law_number) (defScope s_law_number) [] [] (He.ga K "_law_number") fd_law_number
  fd_law_letter : FuncData
  F_law_letter : FunD K "_law_letter" "_law_letter" (defArgs s_law_letter) (defBody s_law_letter) (defScope s_law_letter) [] [] (He.ga K "_law_letter") fd_law_letter
  fd_law_holds : FuncData
  F_law_holds : FunD K "_law_holds" "_law_holds" (defArgs s_law_holds) (defBody s_law_holds) (defScope s_law_holds) [] [] (He.ga K "_law_holds") fd_law_holds
  fd_law_puts : FuncData
  F_law_puts : FunD K "_law_puts" "_law_puts" (defArgs s_law_puts) (defBody s_law_puts) (defScope s_law_puts) [] [] (He.ga K "_law_puts") fd_law_puts
  fd_law_upto : FuncData
  F_law_upto : FunD K "_law_upto" "_law_upto" (defArgs s_law_upto) (defBody s_law_upto) (defScope s_law_upto) [] [] (He.ga K "_law_upto") fd_law_upto
  fd_law : FuncData
  F_law : FunD K "law" "law" (defArgs s_law) (defBody s_law) (defScope s_law) [] [] (He.ga K "law") fd_law
section
variable {K : PySem.W.Frag} {mg : Str → Option Value}
theorem Txt.b_Outgoing_init (T : Txt K mg) : Binds K T.fd_Outgoing_init ["self"] [] := T.F_Outgoing_init.bindsN fun _ _ _ _ _ _ us hl => match us, hl with | [_], _ => rfl
theorem Txt.b_Outgoing_put (T : Txt K mg) : Binds K T.fd_Outgoing_put ["self", "letter"] [] := T.F_Outgoing_put.bindsN fun _ _ _ _ _ _ us hl => match us, hl with | [_, _], _ => rfl
theorem Txt.b_Outgoing_due (T : Txt K mg) : Binds K T.fd_Outgoing_due ["self"] [] := T.F_Outgoing_due.bindsN fun _ _ _ _ _ _ us hl => match us, hl with | [_], _ => rfl
theorem Txt.b_Outgoing_acknowledge (T : Txt K mg) : Binds K T.fd_Outgoing_acknowledge ["self", "number"] [] := T.F_Outgoing_acknowledge.bindsN fun _ _ _ _ _ _ us hl => match us, hl with | [_, _], _ => rfl
theorem Txt.b_Outgoing_put_count (T : Txt K mg) : Binds K T.fd_Outgoing_put_count ["self"] [] := T.F_Outgoing_put_count.bindsN fun _ _ _ _ _ _ us hl => match us, hl with | [_], _ => rfl
theorem Txt.b_Outgoing_acknowledged (T : Txt K mg) : Binds K T.fd_Outgoing_acknowledged ["self"] [] := T.F_Outgoing_acknowledged.bindsN fun _ _ _ _ _ _ us hl => match us, hl with | [_], _ => rfl
theorem Txt.b_law_is_integer (T : Txt K mg) : Binds K T.fd_law_is_integer ["actual"] [] := T.F_law_is_integer.bindsN fun _ _ _ _ _ _ us hl => match us, hl with | [_], _ => rfl
theorem Txt.b_law_number (T : Txt K mg) : Binds K T.fd_law_number ["cell", "k"] [] := T.F_law_number.bindsN fun _ _ _ _ _ _ us hl => match us, hl with | [_, _], _ => rfl
theorem Txt.b_law_letter (T : Txt K mg) : Binds K T.fd_law_letter ["part"] [] := T.F_law_letter.bindsN fun _ _ _ _ _ _ us hl => match us, hl with | [_], _ => rfl
theorem Txt.b_law_holds (T : Txt K mg) : Binds K T.fd_law_holds ["end", "letters", "done"] [] := T.F_law_holds.bindsN fun _ _ _ _ _ _ us hl => match us, hl with | [_, _, _], _ => rfl
theorem Txt.b_law_puts (T : Txt K mg) : Binds K T.fd_law_puts ["end", "letters", "part"] [] := T.F_law_puts.bindsN fun _ _ _ _ _ _ us hl => match us, hl with | [_, _, _], _ => rfl
theorem Txt.b_law_upto (T : Txt K mg) : Binds K T.fd_law_upto ["part", "done", "many"] [] := T.F_law_upto.bindsN fun _ _ _ _ _ _ us hl => match us, hl with | [_, _, _], _ => rfl
theorem Txt.b_law (T : Txt K mg) : Binds K T.fd_law ["script"] [] := T.F_law.bindsN fun _ _ _ _ _ _ us hl => match us, hl with | [_], _ => rfl
end
/-! ### the data -/
theorem la_ : ¬ (("_letters" : Str) = "_acknowledged") := by decide +kernel
def outf (l : Addr) (z : Int) : List (Str × V) := putF "_acknowledged" (.int z) (putF "_letters" (.ref l) [])
theorem outf_eq (l : Addr) (z : Int) : outf l z = ([("_letters", V.ref l), ("_acknowledged", V.int z)] : List (Str × V)) := by
  show (if ("_letters" : Str) = "_acknowledged" then [(("_letters" : Str), V.int z)] else (("_letters" : Str), V.ref l) :: putF "_acknowledged" (V.int z) []) = ([("_letters", V.ref l), ("_acknowledged", V.int z)] : List (Str × V))
  rw [if_neg la_]
  all_goals rfl
theorem outf_l (l : Addr) (z : Int) : (outf l z).lookup ("_letters" : Str) = some (.ref l) := by
  unfold outf
  rw [lookup_putF, if_neg la_, lookup_putF, if_pos rfl]
theorem outf_a (l : Addr) (z : Int) : (outf l z).lookup ("_acknowledged" : Str) = some (.int z) := by
  unfold outf
  rw [lookup_putF, if_pos rfl]
theorem outf_no (l : Addr) (z : Int) {m : Str} (h1 : ¬ m = "_acknowledged") (h2 : ¬ m = "_letters") : (outf l z).lookup m = none := by
  unfold outf
  rw [lookup_putF, if_neg h1, lookup_putF, if_neg h2]
  all_goals rfl
theorem outf_put (l : Addr) (z y : Int) : putF "_acknowledged" (.int y) (outf l z) = outf l y := by
  rw [outf_eq, outf_eq]
  show (if ("_letters" : Str) = "_acknowledged" then _ else (("_letters" : Str), V.ref l) :: (if ("_acknowledged" : Str) = "_acknowledged" then [(("_acknowledged" : Str), V.int y)] else _)) = ([("_letters", V.ref l), ("_acknowledged", V.int y)] : List (Str × V))
  rw [if_neg la_, if_pos rfl]
abbrev cO (K : PySem.W.Frag) : Addr := He.ga K "Outgoing"
/-- a sending end stands at p: its list at l holds the letters xs, k were acknowledged -/
structure OutAt (C : Addr) (H : Hp) (p l : Addr) (xs : List V) (k : Int) : Prop where
  ob : ∃ dx, H p = some (.ins C dx (outf l k))
  ls : H l = some (.lst xs)
theorem OutAt.same {C : Addr} {H H' : Hp} {p l : Addr} {xs : List V} {k : Int} (R : OutAt C H p l xs k) (s : Same H H') : OutAt C H' p l xs k := by
  obtain ⟨⟨dx, h⟩, h2⟩ := R
  exact ⟨⟨dx, s _ _ h⟩, s _ _ h2⟩
theorem OutAt.ne {C : Addr} {H : Hp} {p l : Addr} {xs : List V} {k : Int} (R : OutAt C H p l xs k) : p ≠ l := by
  obtain ⟨⟨dx, h⟩, h2⟩ := R
  exact ne_of h h2 (by intro q; cases q)
theorem at_map {α : Type} {f : α → V} {xs : List α} {i : Int} {j : Nat} {a : α} (e : i = (j : Int)) (h : xs[j]? = some a) : atI (xs.map f) i = some (f a) :=
  at_of e (by rw [List.getElem?_map, h]; all_goals rfl)
/-! ### the promises -/
def spInit (K : PySem.W.Frag) : Sp := fun vs H Q _ => ∃ (p dx : Addr), vs = [.ref p] ∧ H p = some (.ins (cO K) dx []) ∧ ∀ (l : Addr) (H' : Hp), OutAt (cO K) H' p l [] 0 → H l = none → (∀ b o, H b = some o → b ≠ p → H' b = some o) → Q .non H'
def spCount (K : PySem.W.Frag) : Sp := fun vs H Q _ => ∃ (p l : Addr) (xs : List V) (k : Int), vs = [.ref p] ∧ OutAt (cO K) H p l xs k ∧ Q (.int (k + (xs.length : Int))) H
def spAcked (K : PySem.W.Frag) : Sp := fun vs H Q _ => ∃ (p l : Addr) (xs : List V) (k : Int), vs = [.ref p] ∧ OutAt (cO K) H p l xs k ∧ Q (.int k) H
def spPut (K : PySem.W.Frag) : Sp := fun vs H Q _ => ∃ (p l : Addr) (xs : List V) (k : Int) (v : V), vs = [.ref p, v] ∧ OutAt (cO K) H p l xs k ∧ xs.length < sizeLine ∧ Q (.int (k + ((xs.length + 1 : Nat) : Int))) (upd H l (.lst (xs ++ [v])))
def spDue (K : PySem.W.Frag) : Sp := fun vs H Q _ => ∃ (p l : Addr) (xs : List V) (k : Int), vs = [.ref p] ∧ OutAt (cO K) H p l xs k ∧ 0 ≤ k ∧ k < 2 ^ 62 ∧
  ∀ (H' : Hp) (q : Addr) (ts : List Addr), Same H H' → H q = none → ts.length = xs.length → H' q = some (.lst (ts.map V.ref)) →
    (∀ (j : Nat) (t : Addr), ts[j]? = some t → ∃ v, xs[j]? = some v ∧ H' t = some (.tup [.int (k + 1 + j), v])) → Q (.ref q) H'
def spAck (K : PySem.W.Frag) : Sp := fun vs H Q _ => ∃ (p l : Addr) (xs : List V) (k n : Int), vs = [.ref p, .int n] ∧ OutAt (cO K) H p l xs k ∧ n ≤ k + (xs.length : Int) ∧
  ∀ H' : Hp, OutAt (cO K) H' p l (xs.drop (n - k).toNat) (if n > k then n else k) → (∀ b o, H b = some o → b ≠ p → b ≠ l → H' b = some o) → Q .non H'
def spIsInt : Sp := fun vs H Q _ => ∃ z : Int, vs = [.int z] ∧ Q (.bl true) H
def spNumber : Sp := fun vs H Q _ => ∃ z k : Int, vs = [.int z, .int k] ∧ ∀ r : Int, Q (.int r) H
def spLetter : Sp := fun vs H Q _ => ∃ z : Int, vs = [.int z] ∧ ∀ (a : Addr) (H' : Hp), Same H H' → TupD H' 5 (.ref a) → Q (.ref a) H'
def spUpto : Sp := fun vs H Q _ => ∃ z d m : Int, vs = [.int z, .int d, .int m] ∧ 0 ≤ d ∧ d ≤ m ∧ ∀ r : Int, r ≤ m → Q (.int r) H
def spHolds (K : PySem.W.Frag) : Sp := fun vs H Q _ => ∃ (p l a : Addr) (L : List V) (d : Nat), vs = [.ref p, .ref a, .int (d : Int)] ∧ OutAt (cO K) H p l (L.drop d) d ∧ H a = some (.lst L) ∧ d ≤ L.length ∧ L.length ≤ 100000 ∧ (∀ v ∈ L, TupD H 5 v) ∧
  ∀ H' : Hp, Same H H' → Q (.bl true) H'
def spPuts (K : PySem.W.Frag) : Sp := fun vs H Q _ => ∃ (p l a : Addr) (L : List V) (d : Nat) (part : Int), vs = [.ref p, .ref a, .int part] ∧ OutAt (cO K) H p l (L.drop d) d ∧ H a = some (.lst L) ∧ a ≠ l ∧ d ≤ L.length ∧ L.length ≤ 50000 ∧ (∀ v ∈ L, TupD H 5 v) ∧
  ∀ (L' : List V) (H' : Hp), d ≤ L'.length → L'.length ≤ L.length + 301 → OutAt (cO K) H' p l (L'.drop d) d → H' a = some (.lst L') → (∀ v ∈ L', TupD H' 5 v) → (∀ b o, H b = some o → b ≠ a → b ≠ l → H' b = some o) → Q (.bl true) H'
def spLaw (K : PySem.W.Frag) : Sp := fun vs H Q _ => ∃ (a : Addr) (ns : List Int), vs = [.ref a] ∧ SqL K H a (ns.map V.int) ∧ ns.length ≤ 63 ∧ ∀ H', Q (.bl true) H'
section
variable {P : Program} {w : World} {K : PySem.W.Frag} {mg : Str → Option Value} {base : Heap}
theorem ok_Outgoing_init (T : Txt K mg) : FnOk P w K mg base CX0 1 (He.ma K (He.ga K "Outgoing") "__init__") T.fd_Outgoing_init ["self"] (spInit K) := by
  refine T.F_Outgoing_init.ok sc_Outgoing_init (fun vs H Q E h => ?_) (fun cdv A outer s H vs Q E hr h => ?_)
  · obtain ⟨p, dx, rfl, _⟩ := h
    rfl
  · obtain ⟨p, dx, rfl, hp, k⟩ := h
    refine ⟨_, PSs.nox (pss_cons (ps_fld (pv 0) (pe_lst pa_nil) rfl)
    (pss_one (ps_fld (pv 0) pe_int rfl))), ?_⟩
    refine ⟨Nat.zero_le _, fun l hl => ?_⟩
    have npl : p ≠ l := ne_of_none hp hl
    refine ⟨_, rfl, p, _, dx, [], rfl, (by rw [upd_ne npl]; exact hp), T.cl_Outgoing, T.n_Outgoing__letters, (by show 0 < 1000; decide), _, rfl, p, _, dx, _, rfl, upd_same, T.cl_Outgoing, T.n_Outgoing__acknowledged, (by show 1 < 1000; decide), ?_⟩
    refine k l _ ⟨⟨dx, upd_same⟩, by rw [upd_ne npl.symm, upd_ne npl.symm, upd_same]⟩ hl fun b o e hb => ?_
    rw [upd_ne hb, upd_ne hb, upd_ne (ne_of_none e hl)]
    exact e
theorem ok_Outgoing_put_count (T : Txt K mg) : FnOk P w K mg base CX0 1 (Fh.pgA K (He.ga K "Outgoing") "put_count") T.fd_Outgoing_put_count ["self"] (spCount K) := by
  refine T.F_Outgoing_put_count.ok sc_Outgoing_put_count (fun vs H Q E h => ?_) (fun cdv A outer s H vs Q E hr h => ?_)
  · obtain ⟨p, l, xs, k, rfl, _⟩ := h
    rfl
  · obtain ⟨p, l, xs, k, rfl, ⟨⟨dx, h1⟩, h2⟩, q⟩ := h
    refine ⟨_, PSs.nox (pss_one (ps_ret (pe_op op_add (pe_fld (pv 0) rfl) (pe_callB call_len_seq (by rfl) T.z_len (by decide +kernel) (pa_cons (pe_fld (pv 0) rfl) pa_nil))))), ?_⟩
    exact ⟨_, rfl, p, _, dx, _, _, rfl, h1, T.cl_Outgoing, T.n_Outgoing__acknowledged, outf_a _ _, _, rfl, p, _, dx, _, _, rfl, h1, T.cl_Outgoing, T.n_Outgoing__letters, outf_l _ _, l, _, rfl, .inl (SqL.of h2), _, _, rfl, rfl, q⟩
theorem ok_Outgoing_acknowledged (T : Txt K mg) : FnOk P w K mg base CX0 1 (Fh.pgA K (He.ga K "Outgoing") "acknowledged") T.fd_Outgoing_acknowledged ["self"] (spAcked K) := by
  refine T.F_Outgoing_acknowledged.ok sc_Outgoing_acknowledged (fun vs H Q E h => ?_) (fun cdv A outer s H vs Q E hr h => ?_)
  · obtain ⟨p, l, xs, k, rfl, _⟩ := h
    rfl
  · obtain ⟨p, l, xs, k, rfl, ⟨⟨dx, h1⟩, h2⟩, q⟩ := h
    refine ⟨_, PSs.nox (pss_one (ps_ret (pe_fld (pv 0) rfl))), ?_⟩
    exact ⟨_, rfl, p, _, dx, _, _, rfl, h1, T.cl_Outgoing, T.n_Outgoing__acknowledged, outf_a _ _, q⟩
theorem ok_Outgoing_put (T : Txt K mg) : FnOk P w K mg base CX0 3 (He.ma K (He.ga K "Outgoing") "put") T.fd_Outgoing_put ["self", "letter"] (spPut K) := by
  refine T.F_Outgoing_put.ok sc_Outgoing_put (fun vs H Q E h => ?_) (fun cdv A outer s H vs Q E hr h => ?_)
  · obtain ⟨p, l, xs, k, v, rfl, _⟩ := h
    rfl
  · obtain ⟨p, l, xs, k, v, rfl, ⟨⟨dx, h1⟩, h2⟩, hz, q⟩ := h
    refine ⟨_, PSs.nox (pss_cons (ps_expr (pe_bm PySem.F.plainAttrs_list PySem.F.slot_list_append PySem.F.type_list_append mt_append (pe_fld (pv 0) rfl) (pa_cons (pv 1) pa_nil)))
    (pss_one (ps_ret (pe_prop (pv 0) T.cl_Outgoing T.p_Outgoing_put_count (ok_Outgoing_put_count T) (hr.mono (by decide)) T.b_Outgoing_put_count .nil pass0 rfl)))), ?_⟩
    have npl : p ≠ l := ne_of h1 h2 (by intro q; cases q)
    refine ⟨_, rfl, p, _, dx, _, _, rfl, h1, T.cl_Outgoing, T.n_Outgoing__letters, outf_l _ _, .inl ⟨rfl, _, SqL.of h2⟩, _, rfl, l, _, _, rfl, rfl, h2, hz, ?_⟩
    have h1' : (upd H l (.lst (xs ++ [v]))) p = some (.ins (cO K) dx (outf l k)) := by rw [upd_ne npl]; exact h1
    refine ⟨_, rfl, p, dx, _, rfl, h1', p, l, _, k, rfl, ⟨⟨dx, h1'⟩, upd_same⟩, ?_⟩
    rw [List.length_append, List.length_singleton]
    exact q
theorem ok_Outgoing_due (T : Txt K mg) : FnOk P w K mg base CX0 1 (He.ma K (He.ga K "Outgoing") "due") T.fd_Outgoing_due ["self"] (spDue K) := by
  refine T.F_Outgoing_due.ok sc_Outgoing_due (fun vs H Q E h => ?_) (fun cdv A outer s H vs Q E hr h => ?_)
  · obtain ⟨p, l, xs, k, rfl, _⟩ := h
    rfl
  · obtain ⟨p, l, xs, k, rfl, ⟨⟨dx, h1⟩, h2⟩, k0, k1, q⟩ := h
    refine ⟨_, PSs.nox (pss_one (ps_ret (Fh.pe_listEnum rfl (pe_fld (pv 0) rfl) (pe_op op_add (pe_fld (pv 0) rfl) pe_int) (by rfl) T.z_list (by rfl) T.z_enumerate))), ?_⟩
    refine ⟨_, rfl, p, _, dx, _, _, rfl, h1, T.cl_Outgoing, T.n_Outgoing__letters, outf_l _ _, _, rfl, p, _, dx, _, _, rfl, h1, T.cl_Outgoing, T.n_Outgoing__acknowledged, outf_a _ _, _, _, rfl, rfl, l, xs, k + 1, rfl, rfl, SqL.of h2, by omega, by omega, fun H' p' ts s1 n1 _ _ _ hl hp hts => ?_⟩
    exact q H' p' ts s1 n1 hl hp hts
theorem ok_Outgoing_acknowledge (T : Txt K mg) : FnOk P w K mg base CX0 3 (He.ma K (He.ga K "Outgoing") "acknowledge") T.fd_Outgoing_acknowledge ["self", "number"] (spAck K) := by
  refine T.F_Outgoing_acknowledge.ok sc_Outgoing_acknowledge (fun vs H Q E h => ?_) (fun cdv A outer s H vs Q E hr h => ?_)
  · obtain ⟨p, l, xs, k, n, rfl, _⟩ := h
    rfl
  · obtain ⟨p, l, xs, k, n, rfl, ⟨⟨dx, h1⟩, h2⟩, hn, q⟩ := h
    refine ⟨_, PSs.nox (pss_cons (ps_set (i := 2) sc_Outgoing_acknowledge.nd rfl (Or.inl rfl) (pe_callB (call_min2 rfl) (by rfl) T.z_min (by decide +kernel) (pa_cons (pv 1) (pa_cons (pe_prop (pv 0) T.cl_Outgoing T.p_Outgoing_put_count (ok_Outgoing_put_count T) (hr.mono (by decide)) T.b_Outgoing_put_count .nil pass0 rfl) pa_nil))))
    (pss_one (ps_if (pt_cmpR op_gt (pv 2) (pe_fld (pv 0) rfl) (nomark _))
      (pss_cons (Fh.ps_delTo (pe_fld (pv 0) rfl) (pe_op op_sub (pv 2) (pe_fld (pv 0) rfl)))
      (pss_one (ps_fld (pv 0) (pv 2) rfl)))
      pss_nil))), ?_⟩
    have npl : p ≠ l := ne_of h1 h2 (by intro q; cases q)
    refine ⟨_, rfl, _, rfl, p, dx, _, rfl, h1, p, l, xs, k, rfl, ⟨⟨dx, h1⟩, h2⟩, n, k + (xs.length : Int), rfl, ?_⟩
    rw [if_neg (by omega)]
    refine ⟨_, rfl, _, rfl, p, _, dx, _, _, rfl, h1, T.cl_Outgoing, T.n_Outgoing__acknowledged, outf_a _ _, _, _, rfl, rfl, _, rfl, ?_⟩
    by_cases c : k < n
    · rw [decide_eq_true c]
      refine iteT ?_
      refine ⟨_, rfl, p, _, dx, _, _, rfl, h1, T.cl_Outgoing, T.n_Outgoing__letters, outf_l _ _, _, rfl, _, rfl, p, _, dx, _, _, rfl, h1, T.cl_Outgoing, T.n_Outgoing__acknowledged, outf_a _ _, _, _, rfl, rfl, l, xs, (n - k).toNat, rfl, (by show V.int (n - k) = _; congr 1; omega), h2, by omega, ?_⟩
      refine ⟨_, rfl, _, rfl, p, _, dx, _, rfl, (by rw [upd_ne npl]; exact h1), T.cl_Outgoing, T.n_Outgoing__acknowledged, (by rw [outf_eq]; show 2 < 1000; decide), ?_⟩
      refine q _ ⟨⟨dx, ?_⟩, by rw [upd_ne npl.symm, upd_same]⟩ fun b o e hb hl => by rw [upd_ne hb, upd_ne hl]; exact e
      rw [if_pos (show n > k from c)]
      exact Eq.trans upd_same (congrArg (fun q => some (HO.ins (cO K) dx q)) (outf_put l k n))
    · rw [decide_eq_false c]
      refine iteF ?_
      have e0 : (n - k).toNat = 0 := by omega
      rw [e0, if_neg (show ¬ n > k from c), List.drop_zero] at q
      exact q H ⟨⟨dx, h1⟩, h2⟩ fun b o e _ _ => e
theorem ok_law_is_integer (T : Txt K mg) : FnOk P w K mg base CX0 1 (He.ga K "_law_is_integer") T.fd_law_is_integer ["actual"] spIsInt := by
  refine T.F_law_is_integer.ok sc_law_is_integer (fun vs H Q E h => ?_) (fun cdv A outer s H vs Q E hr h => ?_)
  · obtain ⟨z, rfl, _⟩ := h
    rfl
  · obtain ⟨z, rfl, k⟩ := h
    refine ⟨_, PSs.nox (pss_one (ps_ret (pe_and (pe_callB call_isi (by rfl) T.z_isinstance (by decide +kernel) (pa_cons (pv 0) (pa_cons (pe_bltn (v := .ty "int") (by rfl) T.z_int (by decide +kernel) rfl) pa_nil))) (pe_one (pe_not (pe_callB call_isi (by rfl) T.z_isinstance (by decide +kernel) (pa_cons (pv 0) (pa_cons (pe_bltn (v := .ty "bool") (by rfl) T.z_bool (by decide +kernel) rfl) pa_nil)))))))), ?_⟩
    refine ⟨_, rfl, _, _, _, _, true, rfl, .ty _, .base (.int _), kit_ty (by decide +kernel), _, rfl, iteT ?_⟩
    exact ⟨_, rfl, _, _, _, _, false, rfl, .ty _, .base (.int _), kit_ty (by decide +kernel), _, rfl, k⟩
theorem ok_law_number (T : Txt K mg) : FnOk P w K mg base CX0 1 (He.ga K "_law_number") T.fd_law_number ["cell", "k"] spNumber := by
  refine T.F_law_number.ok sc_law_number (fun vs H Q E h => ?_) (fun cdv A outer s H vs Q E hr h => ?_)
  · obtain ⟨z, j, rfl, _⟩ := h
    rfl
  · obtain ⟨z, j, rfl, k⟩ := h
    refine ⟨_, PSs.nox (pss_cons (ps_if (pt_cmpR op_ge (pv 0) (pe_op op_pow pe_int pe_int) (nomark _))
      (pss_one (ps_ret (pe_op op_sub (pv 0) (pe_op op_pow pe_int pe_int))))
      pss_nil)
    (pss_cons (ps_set (i := 2) sc_law_number.nd rfl (Or.inl rfl) (pe_op op_mod (pe_callTy call_int1 (by rfl) T.z_int (by decide +kernel) (pa_cons (pe_op op_add (pe_op op_add (pe_op op_mul (pv 0) pe_int) (pe_op op_mul (pv 1) pe_int)) pe_int) pa_nil)) pe_int))
    (pss_cons (ps_set (i := 3) sc_law_number.nd rfl (Or.inl rfl) (pe_op op_mod (pe_callTy call_int1 (by rfl) T.z_int (by decide +kernel) (pa_cons (pe_op op_add (pe_op op_mul (pv 2) (pe_op op_add (pe_op op_add (pe_op op_fdiv (pv 2) pe_int) (pv 1)) pe_int)) pe_int) pa_nil)) pe_int))
    (pss_one (ps_ret (pe_op op_add (pv 2) (pe_op op_mul (pv 3) pe_int))))))), ?_⟩
    refine ⟨_, rfl, _, _, rfl, rfl, ⟨by decide, by decide, by decide⟩, _, _, rfl, rfl, _, rfl, ?_⟩
    refine ite2 (fun _ => ?_) (fun _ => ?_)
    · refine ⟨_, rfl, _, _, rfl, rfl, ⟨by decide, by decide, by decide⟩, _, _, rfl, rfl, ?_⟩
      exact k _
    · refine ⟨_, rfl, _, _, rfl, rfl, .inr ⟨by decide, by decide⟩, _, rfl, _, _, rfl, rfl, .inr ⟨by decide, by decide⟩, _, _, rfl, rfl, _, _, rfl, rfl, .inl ⟨_, rfl, _, _, rfl, rfl, (by show (0 : Int) < 2147483647; decide), ?_⟩⟩
      refine ⟨_, rfl, _, rfl, _, _, rfl, rfl, ⟨by decide, by decide⟩, _, rfl, _, _, rfl, rfl, _, _, rfl, rfl, _, _, rfl, rfl, (.inl ⟨by omega, by omega⟩), _, _, rfl, rfl, .inl ⟨_, rfl, _, _, rfl, rfl, (by show (0 : Int) < 2147483629; decide), ?_⟩⟩
      refine ⟨_, rfl, _, rfl, _, _, rfl, rfl, .inr ⟨by decide, by decide⟩, _, _, rfl, rfl, ?_⟩
      exact k _
theorem ok_law_letter (T : Txt K mg) : FnOk P w K mg base CX0 1 (He.ga K "_law_letter") T.fd_law_letter ["part"] spLetter := by
  refine T.F_law_letter.ok sc_law_letter (fun vs H Q E h => ?_) (fun cdv A outer s H vs Q E hr h => ?_)
  · obtain ⟨z, rfl, _⟩ := h
    rfl
  · obtain ⟨z, rfl, k⟩ := h
    refine ⟨_, PSs.nox (pss_cons (ps_set (i := 1) sc_law_letter.nd rfl (Or.inl rfl) (pe_op op_mod (pe_callTy call_int1 (by rfl) T.z_int (by decide +kernel) (pa_cons (pv 0) pa_nil)) pe_int))
    (pss_cons (ps_set (i := 2) sc_law_letter.nd rfl (Or.inl rfl) (pe_op op_mod (pe_callTy call_int1 (by rfl) T.z_int (by decide +kernel) (pa_cons (pe_op op_fdiv (pv 0) pe_int) pa_nil)) (pe_op op_pow pe_int pe_int)))
    (pss_cons (ps_set (i := 3) sc_law_letter.nd rfl (Or.inl rfl) (pe_op op_mod (pe_callTy call_int1 (by rfl) T.z_int (by decide +kernel) (pa_cons (pe_op op_fdiv (pv 0) pe_int) pa_nil)) pe_int))
    (pss_cons (ps_if (pt_cmpR op_eq (pv 1) pe_int (nomark _))
      (pss_one (ps_ret (pe_tup (pa_cons pe_str (pa_cons (pv 2) (pa_cons (pe_tup (pa_cons (pe_op op_mod (pe_op op_fdiv (pv 3) pe_int) pe_int) (pa_cons (pv 3) pa_nil))) (pa_cons pe_non pa_nil)))))))
      pss_nil)
    (pss_cons (ps_if (pt_cmpR op_eq (pv 1) pe_int (nomark _))
      (pss_one (ps_ret (pe_tup (pa_cons pe_str (pa_cons (pv 2) (pa_cons (pe_tup (pa_cons (pe_op op_mod (pe_op op_fdiv (pv 3) pe_int) pe_int) (pa_cons (pv 2) pa_nil))) (pa_cons (pv 3) pa_nil)))))))
      pss_nil)
    (pss_cons (ps_if (pt_cmpR op_eq (pv 1) pe_int (nomark _))
      (pss_one (ps_ret (pe_tup (pa_cons pe_str (pa_cons (pv 2) (pa_cons (pe_op op_mod (pe_op op_fdiv (pv 3) pe_int) pe_int) pa_nil))))))
      pss_nil)
    (pss_cons (ps_if (pt_cmpR op_eq (pv 1) pe_int (nomark _))
      (pss_one (ps_ret (pe_tup (pa_cons pe_str (pa_cons (pv 3) (pa_cons (pv 2) (pa_cons (pv 3) pa_nil)))))))
      pss_nil)
    (pss_cons (ps_if (pt_cmpR op_eq (pv 1) pe_int (nomark _))
      (pss_one (ps_ret (pe_tup (pa_cons pe_str (pa_cons (pv 2) (pa_cons (pv 3) pa_nil))))))
      pss_nil)
    (pss_one (ps_ret (pe_tup (pa_cons pe_str (pa_cons (pv 2) pa_nil))))))))))))), ?_⟩
    refine ⟨_, rfl, .inl ⟨_, rfl, _, _, rfl, rfl, (by show (0 : Int) < 6; decide), ?_⟩⟩
    refine ⟨_, rfl, _, _, rfl, rfl, ⟨by decide, by decide⟩, .inl ⟨_, rfl, _, _, rfl, rfl, ⟨by decide, by decide, by decide⟩, _, _, rfl, rfl, (by show (0 : Int) < 10 ^ Int.toNat 20; decide +kernel), ?_⟩⟩
    refine ⟨_, rfl, _, _, rfl, rfl, ⟨by decide, by decide⟩, .inl ⟨_, rfl, _, _, rfl, rfl, (by show (0 : Int) < 1000; decide), ?_⟩⟩
    refine ⟨_, rfl, rfl, _, rfl, ?_⟩
    refine ite2 (fun _ => ?_) (fun _ => ?_)
    · skip
      refine ⟨_, rfl, _, rfl, _, _, rfl, rfl, ⟨by decide, by decide⟩, _, _, rfl, rfl, (by show (0 : Int) < 8; decide), _, rfl, (by show 2 ≤ sizeLine; decide), fun t ht => ?_⟩
      refine ⟨(by show 4 ≤ sizeLine; decide), fun u hu => ?_⟩
      refine k u _ ((Same.new ht).trans (Same.new hu)) (TupD.new hu (.cons (.str _ (by decide +kernel)) (.cons (.int _) (.cons (.tup upd_same (.cons (.int _) (.cons (.int _) .nil))) (.cons .non .nil)))) (by simp [PyData.depth, PyData.depthAll]))
    refine ⟨_, rfl, rfl, _, rfl, ?_⟩
    refine ite2 (fun _ => ?_) (fun _ => ?_)
    · skip
      refine ⟨_, rfl, _, rfl, _, _, rfl, rfl, ⟨by decide, by decide⟩, _, _, rfl, rfl, (by show (0 : Int) < 8; decide), _, rfl, (by show 2 ≤ sizeLine; decide), fun t ht => ?_⟩
      refine ⟨_, rfl, (by show 4 ≤ sizeLine; decide), fun u hu => ?_⟩
      refine k u _ ((Same.new ht).trans (Same.new hu)) (TupD.new hu (.cons (.str _ (by decide +kernel)) (.cons (.int _) (.cons (.tup upd_same (.cons (.int _) (.cons (.int _) .nil))) (.cons (.int _) .nil)))) (by simp [PyData.depth, PyData.depthAll]))
    refine ⟨_, rfl, rfl, _, rfl, ?_⟩
    refine ite2 (fun _ => ?_) (fun _ => ?_)
    · skip
      refine ⟨_, rfl, _, rfl, _, _, rfl, rfl, ⟨by decide, by decide⟩, _, _, rfl, rfl, (by show (0 : Int) < 8; decide), (by show 3 ≤ sizeLine; decide), fun u hu => ?_⟩
      exact k u _ (Same.new hu) (TupD.new hu (.cons (.str _ (by decide +kernel)) (.cons (.int _) (.cons (.int _) .nil))) (by simp [PyData.depth, PyData.depthAll]))
    refine ⟨_, rfl, rfl, _, rfl, ?_⟩
    refine ite2 (fun _ => ?_) (fun _ => ?_)
    · skip
      refine ⟨_, rfl, _, rfl, _, rfl, (by show 4 ≤ sizeLine; decide), fun u hu => ?_⟩
      exact k u _ (Same.new hu) (TupD.new hu (.cons (.str _ (by decide +kernel)) (.cons (.int _) (.cons (.int _) (.cons (.int _) .nil)))) (by simp [PyData.depth, PyData.depthAll]))
    refine ⟨_, rfl, rfl, _, rfl, ?_⟩
    refine ite2 (fun _ => ?_) (fun _ => ?_)
    · skip
      refine ⟨_, rfl, _, rfl, (by show 3 ≤ sizeLine; decide), fun u hu => ?_⟩
      exact k u _ (Same.new hu) (TupD.new hu (.cons (.str _ (by decide +kernel)) (.cons (.int _) (.cons (.int _) .nil))) (by simp [PyData.depth, PyData.depthAll]))
    · skip
      refine ⟨_, rfl, (by show 2 ≤ sizeLine; decide), fun u hu => ?_⟩
      exact k u _ (Same.new hu) (TupD.new hu (.cons (.str _ (by decide +kernel)) (.cons (.int _) .nil)) (by simp [PyData.depth, PyData.depthAll]))
theorem ok_law_upto (T : Txt K mg) : FnOk P w K mg base CX0 1 (He.ga K "_law_upto") T.fd_law_upto ["part", "done", "many"] spUpto := by
  refine T.F_law_upto.ok sc_law_upto (fun vs H Q E h => ?_) (fun cdv A outer s H vs Q E hr h => ?_)
  · obtain ⟨z, d, n, rfl, _⟩ := h
    rfl
  · obtain ⟨z, d, n, rfl, d0, dm, k⟩ := h
    refine ⟨_, PSs.nox (pss_cons (ps_set (i := 3) sc_law_upto.nd rfl (Or.inl rfl) (pe_op op_mod (pe_callTy call_int1 (by rfl) T.z_int (by decide +kernel) (pa_cons (pv 0) pa_nil)) pe_int))
    (pss_cons (ps_set (i := 4) sc_law_upto.nd rfl (Or.inl rfl) (pe_callTy call_int1 (by rfl) T.z_int (by decide +kernel) (pa_cons (pe_op op_fdiv (pv 0) pe_int) pa_nil)))
    (pss_cons (ps_if (pt_cmpR op_eq (pv 3) pe_int (nomark _))
      (pss_one (ps_ret (pe_op op_sub (pe_un un_neg pe_int) (pe_op op_mod (pv 4) (pe_op op_pow pe_int pe_int)))))
      pss_nil)
    (pss_cons (ps_if (pt_cmpR op_eq (pv 3) pe_int (nomark _))
      (pss_one (ps_ret (pe_op op_mod (pv 4) (pe_op op_add (pv 1) pe_int))))
      pss_nil)
    (pss_one (ps_ret (pe_op op_mod (pv 4) (pe_op op_add (pv 2) pe_int)))))))), ?_⟩
    refine ⟨_, rfl, .inl ⟨_, rfl, _, _, rfl, rfl, (by show (0 : Int) < 4; decide), ?_⟩⟩
    refine ⟨_, rfl, _, _, rfl, rfl, ⟨by decide, by decide⟩, .inl ⟨_, rfl, ?_⟩⟩
    refine ⟨_, rfl, rfl, _, rfl, ?_⟩
    refine ite2 (fun _ => ?_) (fun _ => ?_)
    · refine ⟨_, rfl, _, rfl, _, _, rfl, rfl, ⟨by decide, by decide, by decide⟩, _, _, rfl, rfl, (by show (0 : Int) < 10 ^ Int.toNat 20; decide +kernel), _, _, rfl, rfl, ?_⟩
      refine k _ ?_
      have h1 : 0 ≤ z / 4 % (10 ^ Int.toNat 20) := Int.emod_nonneg _ (by decide +kernel)
      show -1 - z / 4 % (10 ^ Int.toNat 20) ≤ n
      omega
    refine ⟨_, rfl, rfl, _, rfl, ?_⟩
    refine ite2 (fun _ => ?_) (fun _ => ?_)
    · refine ⟨_, rfl, _, rfl, _, _, rfl, rfl, _, _, rfl, rfl, (by show (0 : Int) < d + 1; omega), ?_⟩
      refine k _ ?_
      have h1 : z / 4 % (d + 1) < d + 1 := Int.emod_lt_of_pos _ (by omega)
      show z / 4 % (d + 1) ≤ n
      omega
    · refine ⟨_, rfl, _, rfl, _, _, rfl, rfl, _, _, rfl, rfl, (by show (0 : Int) < n + 1; omega), ?_⟩
      refine k _ ?_
      have h1 : z / 4 % (n + 1) < n + 1 := Int.emod_lt_of_pos _ (by omega)
      show z / 4 % (n + 1) ≤ n
      omega
theorem ok_law_holds (T : Txt K mg) : FnOk P w K mg base CX0 4 (He.ga K "_law_holds") T.fd_law_holds ["end", "letters", "done"] (spHolds K) := by
  refine T.F_law_holds.ok sc_law_holds (fun vs H Q E h => ?_) (fun cdv A outer s H vs Q E hr h => ?_)
  · obtain ⟨p, l, a, L, d, rfl, _⟩ := h
    rfl
  · obtain ⟨p, l, a, L, d, rfl, R, hL, hd, hz, hT, k⟩ := h
    refine ⟨_, PSs.nox (pss_cons (ps_if (PW.pt (pw_or (pt_not (pt_val (pe_call (ok_law_is_integer T) (hr.mono (by decide)) (by rfl) T.g_law_is_integer T.F_law_is_integer.kp T.b_law_is_integer .nil pass0 (pa_cons (pe_prop (pv 0) T.cl_Outgoing T.p_Outgoing_put_count (ok_Outgoing_put_count T) (hr.mono (by decide)) T.b_Outgoing_put_count .nil pass0 rfl) pa_nil)))) (pw_or1 (pt_cmpR op_ne (pe_prop (pv 0) T.cl_Outgoing T.p_Outgoing_put_count (ok_Outgoing_put_count T) (hr.mono (by decide)) T.b_Outgoing_put_count .nil pass0 rfl) (pe_callB call_len_seq (by rfl) T.z_len (by decide +kernel) (pa_cons (pv 1) pa_nil)) (nomark _)))))
      (pss_one (ps_ret pe_bl))
      pss_nil)
    (pss_cons (ps_if (PW.pt (pw_or (pt_not (pt_val (pe_call (ok_law_is_integer T) (hr.mono (by decide)) (by rfl) T.g_law_is_integer T.F_law_is_integer.kp T.b_law_is_integer .nil pass0 (pa_cons (pe_prop (pv 0) T.cl_Outgoing T.p_Outgoing_acknowledged (ok_Outgoing_acknowledged T) (hr.mono (by decide)) T.b_Outgoing_acknowledged .nil pass0 rfl) pa_nil)))) (pw_or1 (pt_cmpR op_ne (pe_prop (pv 0) T.cl_Outgoing T.p_Outgoing_acknowledged (ok_Outgoing_acknowledged T) (hr.mono (by decide)) T.b_Outgoing_acknowledged .nil pass0 rfl) (pv 2) (nomark _)))))
      (pss_one (ps_ret pe_bl))
      pss_nil)
    (pss_cons (ps_set (i := 3) sc_law_holds.nd rfl (Or.inl rfl) (pe_meth0 (pv 0) T.cl_Outgoing T.m_Outgoing_due (ok_Outgoing_due T) (hr.mono (by decide)) T.b_Outgoing_due .nil pass0))
    (pss_cons (ps_if (PW.pt (pw_or (pt_not (pt_val (pe_callB call_isi (by rfl) T.z_isinstance (by decide +kernel) (pa_cons (pv 3) (pa_cons (pe_bltn (v := .ty "list") (by rfl) T.z_list (by decide +kernel) rfl) pa_nil))))) (pw_or1 (pt_cmpR op_ne (pe_callB call_len_seq (by rfl) T.z_len (by decide +kernel) (pa_cons (pv 3) pa_nil)) (pe_op op_sub (pe_callB call_len_seq (by rfl) T.z_len (by decide +kernel) (pa_cons (pv 1) pa_nil)) (pv 2)) (nomark _)))))
      (pss_one (ps_ret pe_bl))
      pss_nil)
    (pss_cons (ps_for PassesOwn.never rfl (pi_range1 (by rfl) T.z_range (pa_cons (pe_op op_sub (pe_callB call_len_seq (by rfl) T.z_len (by decide +kernel) (pa_cons (pv 1) pa_nil)) (pv 2)) pa_nil)) (pg_name (i := 4) sc_law_holds.nd rfl (Or.inl rfl))
      (pss_cons (ps_set (i := 5) sc_law_holds.nd rfl (Or.inl rfl) (pe_ix ix_list (pv 3) (pv 4) (fun _ _ => rfl)))
      (pss_cons (ps_if (PW.pt (pw_or (pt_not (pt_val (pe_callB call_isi (by rfl) T.z_isinstance (by decide +kernel) (pa_cons (pv 5) (pa_cons (pe_bltn (v := .ty "tuple") (by rfl) T.z_tuple (by decide +kernel) rfl) pa_nil))))) (pw_or (pt_cmpR op_ne (pe_callB call_len_seq (by rfl) T.z_len (by decide +kernel) (pa_cons (pv 5) pa_nil)) pe_int (nomark _)) (pw_or1 (pt_not (pt_val (pe_call (ok_law_is_integer T) (hr.mono (by decide)) (by rfl) T.g_law_is_integer T.F_law_is_integer.kp T.b_law_is_integer .nil pass0 (pa_cons (pe_ix ix_tup (pv 5) pe_int (fun _ _ => rfl)) pa_nil))))))))
        (pss_one (ps_ret pe_bl))
        pss_nil)
      (pss_one (ps_if (PW.pt (pw_or (pt_cmpR op_ne (pe_ix ix_tup (pv 5) pe_int (fun _ _ => rfl)) (pe_op op_add (pe_op op_add (pv 2) (pv 4)) pe_int) (nomark _)) (pw_or (pt_not (pt_val (pe_callB call_isi (by rfl) T.z_isinstance (by decide +kernel) (pa_cons (pe_ix ix_tup (pv 5) pe_int (fun _ _ => rfl)) (pa_cons (pe_bltn (v := .ty "tuple") (by rfl) T.z_tuple (by decide +kernel) rfl) pa_nil))))) (pw_or1 (pt_cmpR (op_neD hr.units) (pe_ix ix_tup (pv 5) pe_int (fun _ _ => rfl)) (pe_ix ix_list (pv 1) (pe_op op_add (pv 2) (pv 4)) (fun _ _ => rfl)) (nomark _))))))
        (pss_one (ps_ret pe_bl))
        pss_nil)))))
    (pss_one (ps_ret pe_bl))))))), ?_⟩
    obtain ⟨⟨dx, h1⟩, h2⟩ := id R
    have ed : ((L.drop d).length : Int) = (L.length : Int) - (d : Int) := by rw [List.length_drop]; omega
    refine ⟨_, rfl, p, dx, _, rfl, h1, p, l, _, (d : Int), rfl, R, _, rfl, _, rfl, iteF ?_⟩
    refine ⟨_, rfl, p, dx, _, rfl, h1, p, l, _, (d : Int), rfl, R, _, rfl, a, _, rfl, .inl (SqL.of hL), rfl, _, rfl, iteNS (by congr 1; omega) ?_⟩
    refine ⟨_, rfl, p, dx, _, rfl, h1, p, l, _, (d : Int), rfl, R, _, rfl, _, rfl, iteF ?_⟩
    refine ⟨_, rfl, p, dx, _, rfl, h1, p, l, _, (d : Int), rfl, R, _, rfl, rfl, _, rfl, iteNS rfl ?_⟩
    -- due = end.due()
    refine ⟨_, rfl, p, dx, _, rfl, h1, outf_no _ _ (by decide +kernel) (by decide +kernel), p, l, _, (d : Int), rfl, R, by omega, by omega, fun H1 q ts s1 nq hts hq ht => ?_⟩
    have lts : ts.length = L.length - d := by rw [hts, List.length_drop]
    refine ⟨_, rfl, _, _, _, _, true, rfl, .ty _, .base (.lst hq), kit_ty (by decide +kernel), _, rfl, iteF ?_⟩
    refine ⟨_, rfl, q, _, rfl, .inl (SqL.of hq), _, rfl, a, _, rfl, .inl (SqL.of (s1 _ _ hL)), _, rfl, _, _, rfl, rfl, rfl, _, rfl, iteNS (by rw [List.length_map]; congr 1; omega) ?_⟩
    -- for k in range(len(letters) - done)
    refine ⟨_, rfl, a, _, rfl, .inl (SqL.of (s1 _ _ hL)), _, rfl, _, _, rfl, rfl, _, rfl, by omega, by omega, ?_⟩
    refine for_range (lo := 0) (n := ((L.length : Int) - (d : Int)).toNat) (fun i σ H2 => ∃ (v4 v5 : Option V), σ = [some (.ref p), some (.ref a), some (.int (d : Int)), some (.ref q), v4, v5] ∧ H2 = H1) ⟨none, none, rfl, rfl⟩ ?_ ?_
    · rintro i σ H2 hi ⟨v4, v5, rfl, rfl⟩
      have hi' : i < ts.length := by omega
      obtain ⟨t, et⟩ : ∃ t, ts[i]? = some t := ⟨ts[i], List.getElem?_eq_getElem hi'⟩
      obtain ⟨v, ev, htt⟩ := ht i t et
      rw [List.getElem?_drop] at ev
      obtain ⟨b, ys, ds, rfl, hb, hds, hdep⟩ := (hT v (List.mem_of_getElem? ev)).mono (TSame.of s1)
      refine ⟨_, rfl, _, rfl, q, _, _, V.ref t, rfl, rfl, SqL.of hq, at_map (j := i) (by omega) et, ?_⟩
      refine ⟨_, rfl, _, _, _, _, true, rfl, .ty _, .base (.tup htt), kit_ty (by decide +kernel), _, rfl, iteF ?_⟩
      refine ⟨_, rfl, t, _, rfl, .inr (SqT.of htt), rfl, _, rfl, iteNS rfl ?_⟩
      refine ⟨_, rfl, t, _, _, _, rfl, rfl, SqT.of htt, atI_nat (j := 0) rfl, _, rfl, _, rfl, iteF ?_⟩
      refine ⟨_, rfl, t, _, _, _, rfl, rfl, SqT.of htt, atI_nat (j := 0) rfl, _, rfl, _, rfl, _, _, rfl, rfl, _, _, rfl, rfl, rfl, _, rfl, iteNS (by congr 1; omega) ?_⟩
      refine ⟨_, rfl, t, _, _, _, rfl, rfl, SqT.of htt, atI_nat (j := 1) rfl, _, _, _, _, true, rfl, .ty _, .base (.tup hb), kit_ty (by decide +kernel), _, rfl, iteF ?_⟩
      have td : TD H2 (.ref b) (.tuple ds) := .tup hb hds
      have sh := shaped_of td.lay (Nat.le_trans hdep (by decide))
      refine ⟨_, rfl, t, _, _, _, rfl, rfl, SqT.of htt, atI_nat (j := 1) rfl, _, rfl, _, rfl, _, rfl, _, _, rfl, rfl, a, _, _, V.ref b, rfl, rfl, SqL.of (s1 _ _ hL), at_of (j := d + i) (by omega) ev, _, _, td.dp, td.dp, sh, sh, _, rfl, ?_⟩
      rw [SeqAt.eqv_refl _ td.lay]
      refine iteF ?_
      exact ⟨_, _, rfl, rfl⟩
    · rintro σ H2 ⟨v4, v5, rfl, rfl⟩
      exact k _ s1
/-- a sending end and the law's own list of its letters, while letters are put -/
structure PutAt (C : Addr) (H0 H : Hp) (p l a : Addr) (L : List V) (d : Nat) : Prop where
  out : OutAt C H p l (L.drop d) d
  ls : H a = some (.lst L)
  dt : ∀ v ∈ L, TupD H 5 v
  kp : ∀ b o, H0 b = some o → b ≠ a → b ≠ l → H b = some o
theorem PutAt.same {C : Addr} {H0 H H' : Hp} {p l a : Addr} {L : List V} {d : Nat} (R : PutAt C H0 H p l a L d) (s : Same H H') : PutAt C H0 H' p l a L d :=
  ⟨R.out.same s, s _ _ R.ls, fun v hv => (R.dt v hv).mono (TSame.of s), fun b o e h1 h2 => s _ _ (R.kp b o e h1 h2)⟩
theorem PutAt.step {C : Addr} {H0 H : Hp} {p l a : Addr} {L : List V} {d : Nat} {v : V} (R : PutAt C H0 H p l a L d) (nal : a ≠ l) (hd : d ≤ L.length) (hv : TupD H 5 v) :
    PutAt C H0 (upd (upd H l (.lst (L.drop d ++ [v]))) a (.lst (L ++ [v]))) p l a (L ++ [v]) d := by
  obtain ⟨⟨⟨dx, h1⟩, h2⟩, h3, h4, h5⟩ := R
  have npl : p ≠ l := ne_of h1 h2 (by intro q; cases q)
  have npa : p ≠ a := ne_of h1 h3 (by intro q; cases q)
  have ts : TSame H (upd (upd H l (.lst (L.drop d ++ [v]))) a (.lst (L ++ [v]))) := fun b xs e => by
    rw [upd_ne (ne_of e h3 (by intro q; cases q)), upd_ne (ne_of e h2 (by intro q; cases q))]
    exact e
  refine ⟨⟨⟨dx, by rw [upd_ne npa, upd_ne npl]; exact h1⟩, ?_⟩, upd_same, fun u hu => ?_, fun b o e ha hl => by rw [upd_ne ha, upd_ne hl]; exact h5 b o e ha hl⟩
  · rw [upd_ne nal.symm, upd_same, List.drop_append_of_le_length hd]
  · rcases List.mem_append.mp hu with h | h
    · exact (h4 u h).mono ts
    · rw [List.mem_singleton.mp h]
      exact hv.mono ts
theorem ok_law_puts (T : Txt K mg) : FnOk P w K mg base CX0 4 (He.ga K "_law_puts") T.fd_law_puts ["end", "letters", "part"] (spPuts K) := by
  refine T.F_law_puts.ok sc_law_puts (fun vs H Q E h => ?_) (fun cdv A outer s H vs Q E hr h => ?_)
  · obtain ⟨p, l, a, L, d, part, rfl, _⟩ := h
    rfl
  · obtain ⟨p, l, a, L, d, part, rfl, R, hL, nal, hd, hz, hT, k⟩ := h
    refine ⟨_, PSs.nox (pss_cons (ps_set (i := 3) sc_law_puts.nd rfl (Or.inl rfl) (pe_call (ok_law_letter T) (hr.mono (by decide)) (by rfl) T.g_law_letter T.F_law_letter.kp T.b_law_letter .nil pass0 (pa_cons (pe_op op_fdiv (pv 2) pe_int) pa_nil)))
    (pss_cons (ps_set (i := 4) sc_law_puts.nd rfl (Or.inl rfl) (pe_op op_add pe_int (pe_op op_mod (pe_callTy call_int1 (by rfl) T.z_int (by decide +kernel) (pa_cons (pv 2) pa_nil)) pe_int)))
    (C8.pss_cut (ps_if (PW.pt (pw_and (pt_cmpR op_eq (pe_op op_mod (pe_callTy call_int1 (by rfl) T.z_int (by decide +kernel) (pa_cons (pe_op op_fdiv (pv 2) pe_int) pa_nil)) pe_int) pe_int (nomark _)) (pw_and1 (pt_cmpR op_lt (pe_callB call_len_seq (by rfl) T.z_len (by decide +kernel) (pa_cons (pv 1) pa_nil)) pe_int (nomark _)))))
      (pss_one (ps_set (i := 4) sc_law_puts.nd rfl (Or.inl rfl) (pe_op op_mod (pe_callTy call_int1 (by rfl) T.z_int (by decide +kernel) (pa_cons (pe_op op_fdiv (pv 2) pe_int) pa_nil)) pe_int)))
      pss_nil)
    (pss_cons (ps_for PassesOwn.never rfl (pi_range1 (by rfl) T.z_range (pa_cons (pv 4) pa_nil)) (pg_name (i := 5) sc_law_puts.nd rfl (Or.inl rfl))
      (pss_cons (ps_set (i := 6) sc_law_puts.nd rfl (Or.inl rfl) (pe_meth (pv 0) T.cl_Outgoing T.m_Outgoing_put (ok_Outgoing_put T) (hr.mono (by decide)) T.b_Outgoing_put .nil pass0 (pa_cons (pv 3) pa_nil)))
      (pss_cons (ps_expr (pe_bm PySem.F.plainAttrs_list PySem.F.slot_list_append PySem.F.type_list_append mt_append (pv 1) (pa_cons (pv 3) pa_nil)))
      (pss_cons (ps_if (PW.pt (pw_or (pt_not (pt_val (pe_call (ok_law_is_integer T) (hr.mono (by decide)) (by rfl) T.g_law_is_integer T.F_law_is_integer.kp T.b_law_is_integer .nil pass0 (pa_cons (pv 6) pa_nil)))) (pw_or1 (pt_cmpR op_ne (pv 6) (pe_callB call_len_seq (by rfl) T.z_len (by decide +kernel) (pa_cons (pv 1) pa_nil)) (nomark _)))))
        (pss_one (ps_ret pe_bl))
        pss_nil)
      (pss_one (ps_if (pt_cmpR op_eq (pe_op op_mod (pe_callTy call_int1 (by rfl) T.z_int (by decide +kernel) (pa_cons (pe_op op_fdiv (pv 2) pe_int) pa_nil)) pe_int) pe_int (nomark _))
        (pss_one (ps_set (i := 3) sc_law_puts.nd rfl (Or.inl rfl) (pe_call (ok_law_letter T) (hr.mono (by decide)) (by rfl) T.g_law_letter T.F_law_letter.kp T.b_law_letter .nil pass0 (pa_cons (pe_op op_fdiv (pv 2) (pe_op op_add pe_int (pv 5))) pa_nil))))
        pss_nil))))))
    (pss_one (ps_ret pe_bl)))))), ?_⟩
    have P0 : PutAt (cO K) H H p l a L d := ⟨R, hL, hT, fun b o e _ _ => e⟩
    -- letter = _law_letter(part // 6)
    refine ⟨_, rfl, _, _, rfl, rfl, ⟨by decide, by decide⟩, _, rfl, fun b H1 s1 hb => ?_⟩
    refine ⟨_, rfl, .inl ⟨_, rfl, _, _, rfl, rfl, (by show (0 : Int) < 3; decide), _, _, rfl, rfl, ?_⟩⟩
    refine ⟨fun σ H' => ∃ count : Int, 0 ≤ count ∧ count ≤ 300 ∧ σ = [some (.ref p), some (.ref a), some (.int part), some (.ref b), some (.int count), none, none] ∧ H' = H1, ?_, ?_⟩
    · have c0 : 0 ≤ part % 3 := Int.emod_nonneg _ (by decide)
      have c1 : part % 3 < 3 := Int.emod_lt_of_pos _ (by decide)
      refine ⟨_, rfl, _, _, rfl, rfl, ⟨by decide, by decide⟩, .inl ⟨_, rfl, _, _, rfl, rfl, (by show (0 : Int) < 128; decide), rfl, _, rfl, ?_⟩⟩
      refine ite2 (fun _ => ?_) (fun _ => iteF ?_)
      · refine ⟨_, rfl, a, _, rfl, .inl (SqL.of (s1 _ _ hL)), _, _, rfl, rfl, _, rfl, ?_⟩
        refine ite2 (fun _ => ?_) (fun _ => ?_)
        · refine ⟨_, rfl, _, _, rfl, rfl, ⟨by decide, by decide⟩, .inl ⟨_, rfl, _, _, rfl, rfl, (by show (0 : Int) < 301; decide), ?_⟩⟩
          exact ⟨_, Int.emod_nonneg _ (by decide), Int.le_of_lt_add_one (Int.emod_lt_of_pos _ (by decide)), rfl, rfl⟩
        · exact ⟨1 + part % 3, by omega, by omega, rfl, rfl⟩
      · exact ⟨1 + part % 3, by omega, by omega, rfl, rfl⟩
    rintro σ H' ⟨count, c0, c1, rfl, rfl⟩
    -- for k in range(count)
    refine ⟨_, rfl, _, rfl, by omega, by omega, ?_⟩
    refine for_range (lo := 0) (n := count.toNat) (fun i σ H2 => ∃ (L' : List V) (b : Addr) (v5 v6 : Option V), σ = [some (.ref p), some (.ref a), some (.int part), some (.ref b), some (.int count), v5, v6] ∧ PutAt (cO K) H H2 p l a L' d ∧ TupD H2 5 (.ref b) ∧ L'.length = L.length + i)
      ⟨L, b, none, none, rfl, P0.same s1, hb, rfl⟩ ?_ ?_
    · rintro i σ H2 hi ⟨L', b, v5, v6, rfl, R2, hb2, hl2⟩
      have hd2 : d ≤ L'.length := by omega
      obtain ⟨⟨dx, h1⟩, h2⟩ := id R2.out
      have hsz : (100000 : Nat) < sizeLine := by decide
      have hlen : (L'.drop d).length = L'.length - d := List.length_drop ..
      refine ⟨_, rfl, p, dx, _, rfl, h1, outf_no _ _ (by decide +kernel) (by decide +kernel), _, rfl, p, l, _, (d : Int), V.ref b, rfl, R2.out, by omega, ?_⟩
      have ha' : (upd H2 l (.lst (L'.drop d ++ [V.ref b]))) a = some (.lst L') := by rw [upd_ne nal]; exact R2.ls
      refine ⟨_, rfl, .inl ⟨rfl, _, SqL.of ha'⟩, _, rfl, a, _, _, rfl, rfl, ha', by omega, ?_⟩
      have R3 := R2.step nal hd2 hb2
      have hb3 : TupD (upd (upd H2 l (.lst (L'.drop d ++ [V.ref b]))) a (.lst (L' ++ [V.ref b]))) 5 (.ref b) := R3.dt _ (List.mem_append.mpr (.inr (List.mem_singleton.mpr rfl)))
      have hl3 : (L' ++ [V.ref b]).length = L.length + (i + 1) := by rw [List.length_append, List.length_singleton, hl2]; omega
      revert R3 hb3
      generalize (upd (upd H2 l (.lst (L'.drop d ++ [V.ref b]))) a (.lst (L' ++ [V.ref b]))) = H3
      intro R3 hb3
      refine ⟨_, rfl, _, rfl, _, rfl, iteF ?_⟩
      refine ⟨_, rfl, _, rfl, a, _, rfl, .inl (SqL.of R3.ls), rfl, _, rfl, iteNS (by congr 1; omega) ?_⟩
      refine ⟨_, rfl, _, _, rfl, rfl, ⟨by decide, by decide⟩, .inl ⟨_, rfl, _, _, rfl, rfl, (by show (0 : Int) < 2; decide), rfl, _, rfl, ?_⟩⟩
      refine ite2 (fun _ => ?_) (fun _ => ?_)
      · refine ⟨_, rfl, _, rfl, _, _, rfl, rfl, _, _, rfl, rfl, ⟨by show (0 : Int) < 7 + (0 + (i : Int)); omega, by show (7 + (0 + (i : Int)) : Int) < 1073741824; omega⟩, _, rfl, fun b2 H4 s4 hb4 => ?_⟩
        exact ⟨_, b2, _, _, rfl, R3.same s4, hb4, hl3⟩
      · exact ⟨_, b, _, _, rfl, R3, hb3, hl3⟩
    · rintro σ H2 ⟨L', b, v5, v6, rfl, R2, hb2, hl2⟩
      exact k L' H2 (by omega) (by omega) R2.out R2.ls R2.dt R2.kp
/-- what belongs to one end -/
structure EndAt (C : Addr) (H : Hp) (p l a : Addr) (L : List V) (d : Nat) : Prop where
  out : OutAt C H p l (L.drop d) d
  ls : H a = some (.lst L)
  le : d ≤ L.length
  dt : ∀ v ∈ L, TupD H 5 v
theorem EndAt.keep {C : Addr} {H H' : Hp} {p l a : Addr} {L : List V} {d : Nat} (R : EndAt C H p l a L d) (k1 : ∀ o, H p = some o → H' p = some o) (k2 : ∀ o, H l = some o → H' l = some o) (k3 : ∀ o, H a = some o → H' a = some o) (ts : TSame H H') : EndAt C H' p l a L d := by
  obtain ⟨⟨⟨dx, h1⟩, h2⟩, h3, h4, h5⟩ := R
  exact ⟨⟨⟨dx, k1 _ h1⟩, k2 _ h2⟩, k3 _ h3, h4, fun v hv => (h5 v hv).mono ts⟩
/-- the law's state: its three lists, the two ends -/
structure Tw (C : Addr) (H0 H : Hp) (le ll ld : Addr) (p l a : Nat → Addr) (L : Nat → List V) (d : Nat → Nat) : Prop where
  h1 : H le = some (.lst [.ref (p 0), .ref (p 1)])
  h2 : H ll = some (.lst [.ref (a 0), .ref (a 1)])
  h3 : H ld = some (.lst [.int (d 0), .int (d 1)])
  en : ∀ j, j < 2 → EndAt C H (p j) (l j) (a j) (L j) (d j)
  sm : Same H0 H
/-- what never changes: the addresses differ, and none of them stood at the beginning -/
structure Sep (H0 : Hp) (le ll ld : Addr) (p l a : Nat → Addr) : Prop where
  nd : [ld, ll, a 1, a 0, le, p 1, l 1, p 0, l 0].Nodup
  fr : ∀ b ∈ [ld, ll, a 1, a 0, le, p 1, l 1, p 0, l 0], H0 b = none
def put2 {α : Type} (f : Nat → α) (j : Nat) (x : α) : Nat → α := fun i => if i = j then x else f i
theorem put2_same {α : Type} (f : Nat → α) (j : Nat) (x : α) : put2 f j x j = x := if_pos rfl
theorem put2_ne {α : Type} (f : Nat → α) {i j : Nat} (x : α) (h : i ≠ j) : put2 f j x i = f i := if_neg h
theorem put2_set {f : Nat → Nat} {j : Nat} (hj : j < 2) (x : Nat) : ([V.int (f 0), V.int (f 1)] : List V).set j (V.int x) = [V.int ((put2 f j x 0 : Nat) : Int), V.int ((put2 f j x 1 : Nat) : Int)] := by
  match j, hj with
  | 0, _ => rfl
  | 1, _ => rfl
section
variable {C : Addr} {H0 H H' : Hp} {le ll ld : Addr} {p l a : Nat → Addr} {L : Nat → List V} {d : Nat → Nat}
theorem Sep.ix (S : Sep H0 le ll ld p l a) {i j : Nat} {x y : Addr} (hi : [ld, ll, a 1, a 0, le, p 1, l 1, p 0, l 0][i]? = some x) (hj : [ld, ll, a 1, a 0, le, p 1, l 1, p 0, l 0][j]? = some y) (h : i ≠ j) : x ≠ y := fun e => h (nd_ix S.nd hi (by rw [e]; exact hj))
theorem Sep.ia (S : Sep H0 le ll ld p l a) {j : Nat} (hj : j < 2) : [ld, ll, a 1, a 0, le, p 1, l 1, p 0, l 0][3 - j]? = some (a j) := by
  match j, hj with
  | 0, _ => rfl
  | 1, _ => rfl
theorem Sep.il (S : Sep H0 le ll ld p l a) {j : Nat} (hj : j < 2) : [ld, ll, a 1, a 0, le, p 1, l 1, p 0, l 0][8 - 2 * j]? = some (l j) := by
  match j, hj with
  | 0, _ => rfl
  | 1, _ => rfl
theorem Sep.ip (S : Sep H0 le ll ld p l a) {j : Nat} (hj : j < 2) : [ld, ll, a 1, a 0, le, p 1, l 1, p 0, l 0][7 - 2 * j]? = some (p j) := by
  match j, hj with
  | 0, _ => rfl
  | 1, _ => rfl
theorem Tw.same (R : Tw C H0 H le ll ld p l a L d) (s : Same H H') : Tw C H0 H' le ll ld p l a L d :=
  ⟨s _ _ R.h1, s _ _ R.h2, s _ _ R.h3, fun j hj => (R.en j hj).keep (fun o e => s _ _ e) (fun o e => s _ _ e) (fun o e => s _ _ e) (TSame.of s), R.sm.trans s⟩
/-- letters were put at the end j -/
theorem Tw.puts (R : Tw C H0 H le ll ld p l a L d) (S : Sep H0 le ll ld p l a) {j : Nat} (hj : j < 2) {L' : List V} (h1 : d j ≤ L'.length) (h2 : OutAt C H' (p j) (l j) (L'.drop (d j)) (d j)) (h3 : H' (a j) = some (.lst L')) (h4 : ∀ v ∈ L', TupD H' 5 v)
    (kp : ∀ b o, H b = some o → b ≠ a j → b ≠ l j → H' b = some o) : Tw C H0 H' le ll ld p l a (put2 L j L') d := by
  obtain ⟨dx, ho⟩ := (R.en j hj).out.ob
  have hl := (R.en j hj).out.ls
  have ha := (R.en j hj).ls
  refine ⟨kp _ _ R.h1 (S.ix (i := 4) rfl (S.ia hj) (by omega)) (S.ix (i := 4) rfl (S.il hj) (by omega)), kp _ _ R.h2 (S.ix (i := 1) rfl (S.ia hj) (by omega)) (S.ix (i := 1) rfl (S.il hj) (by omega)),
    kp _ _ R.h3 (S.ix (i := 0) rfl (S.ia hj) (by omega)) (S.ix (i := 0) rfl (S.il hj) (by omega)), fun i hi => ?_, fun b o e => ?_⟩
  · by_cases e : i = j
    · subst e
      rw [put2_same]
      exact ⟨h2, h3, h1, h4⟩
    · rw [put2_ne _ _ e]
      refine (R.en i hi).keep (fun o x => kp _ _ x (S.ix (S.ip hi) (S.ia hj) (by omega)) (S.ix (S.ip hi) (S.il hj) (by omega))) (fun o x => kp _ _ x (S.ix (S.il hi) (S.ia hj) (by omega)) (S.ix (S.il hi) (S.il hj) (by omega)))
        (fun o x => kp _ _ x (S.ix (S.ia hi) (S.ia hj) (by omega)) (S.ix (S.ia hi) (S.il hj) (by omega))) fun b xs x => kp _ _ x (ne_of x ha (by intro q; cases q)) (ne_of x hl (by intro q; cases q))
  · have fa := S.fr (a j) (List.mem_of_getElem? (S.ia hj))
    have fl := S.fr (l j) (List.mem_of_getElem? (S.il hj))
    exact kp _ _ (R.sm _ _ e) (ne_of_none e fa) (ne_of_none e fl)
/-- letters were acknowledged at the end j; its place in the list of numbers is set behind -/
theorem Tw.acks (R : Tw C H0 H le ll ld p l a L d) (S : Sep H0 le ll ld p l a) {j : Nat} (hj : j < 2) {n : Nat} (h1 : n ≤ (L j).length) (h2 : OutAt C H' (p j) (l j) ((L j).drop n) n)
    (kp : ∀ b o, H b = some o → b ≠ p j → b ≠ l j → H' b = some o) : H' ld = some (.lst [.int (d 0), .int (d 1)]) ∧ Tw C H0 (upd H' ld (.lst [.int (((put2 d j n 0 : Nat) : Int)), .int (((put2 d j n 1 : Nat) : Int))])) le ll ld p l a L (put2 d j n) := by
  obtain ⟨dx, ho⟩ := (R.en j hj).out.ob
  have hl := (R.en j hj).out.ls
  have kd : ∀ b o, H b = some o → b ≠ p j → b ≠ l j → b ≠ ld → (upd H' ld (.lst [.int (((put2 d j n 0 : Nat) : Int)), .int (((put2 d j n 1 : Nat) : Int))])) b = some o := fun b o e x y z => by rw [upd_ne z]; exact kp b o e x y
  have ts : TSame H (upd H' ld (.lst [.int (((put2 d j n 0 : Nat) : Int)), .int (((put2 d j n 1 : Nat) : Int))])) := fun b xs x => kd _ _ x (ne_of x ho (by intro q; cases q)) (ne_of x hl (by intro q; cases q)) (ne_of x R.h3 (by intro q; cases q))
  have npd : p j ≠ ld := S.ix (S.ip hj) (j := 0) rfl (by omega)
  have nld : l j ≠ ld := S.ix (S.il hj) (j := 0) rfl (by omega)
  have nad : a j ≠ ld := S.ix (S.ia hj) (j := 0) rfl (by omega)
  refine ⟨kp _ _ R.h3 (S.ix (i := 0) rfl (S.ip hj) (by omega)) (S.ix (i := 0) rfl (S.il hj) (by omega)), kd _ _ R.h1 (S.ix (i := 4) rfl (S.ip hj) (by omega)) (S.ix (i := 4) rfl (S.il hj) (by omega)) (S.ix (i := 4) (j := 0) rfl rfl (by omega)),
    kd _ _ R.h2 (S.ix (i := 1) rfl (S.ip hj) (by omega)) (S.ix (i := 1) rfl (S.il hj) (by omega)) (S.ix (i := 1) (j := 0) rfl rfl (by omega)), upd_same, fun i hi => ?_, fun b o e => ?_⟩
  · by_cases e : i = j
    · subst e
      rw [put2_same]
      obtain ⟨⟨dy, g1⟩, g2⟩ := h2
      exact ⟨⟨⟨dy, by rw [upd_ne npd]; exact g1⟩, by rw [upd_ne nld]; exact g2⟩, kd _ _ (R.en i hi).ls (S.ix (S.ia hi) (S.ip hi) (by omega)) (S.ix (S.ia hi) (S.il hi) (by omega)) nad, h1, fun v hv => ((R.en i hi).dt v hv).mono ts⟩
    · rw [put2_ne _ _ e]
      refine (R.en i hi).keep (fun o x => kd _ _ x (S.ix (S.ip hi) (S.ip hj) (by omega)) (S.ix (S.ip hi) (S.il hj) (by omega)) (S.ix (S.ip hi) (j := 0) rfl (by omega)))
        (fun o x => kd _ _ x (S.ix (S.il hi) (S.ip hj) (by omega)) (S.ix (S.il hi) (S.il hj) (by omega)) (S.ix (S.il hi) (j := 0) rfl (by omega)))
        (fun o x => kd _ _ x (S.ix (S.ia hi) (S.ip hj) (by omega)) (S.ix (S.ia hi) (S.il hj) (by omega)) (S.ix (S.ia hi) (j := 0) rfl (by omega))) ts
  · exact kd _ _ (R.sm _ _ e) (ne_of_none e (S.fr _ (List.mem_of_getElem? (S.ip hj)))) (ne_of_none e (S.fr _ (List.mem_of_getElem? (S.il hj)))) (ne_of_none e (S.fr ld (by simp)))
end
theorem ok_law (T : Txt K mg) : FnOk P w K mg base CX0 5 (He.ga K "law") T.fd_law ["script"] (spLaw K) := by
  refine T.F_law.ok sc_law (fun vs H Q E h => ?_) (fun cdv A outer s H vs Q E hr h => ?_)
  · obtain ⟨a0, ns, rfl, _⟩ := h
    rfl
  · obtain ⟨a0, ns, rfl, hS, hlen, k⟩ := h
    refine ⟨_, PSs.nox (pss_cons (ps_set (i := 1) sc_law.nd rfl (Or.inl rfl) (pe_lst (pa_cons (pe_make0 T.mk_Outgoing (ok_Outgoing_init T) (hr.mono (by decide)) (by rfl) T.mg_Outgoing T.b_Outgoing_init .nil pass0) (pa_cons (pe_make0 T.mk_Outgoing (ok_Outgoing_init T) (hr.mono (by decide)) (by rfl) T.mg_Outgoing T.b_Outgoing_init .nil pass0) pa_nil))))
    (pss_cons (ps_set (i := 2) sc_law.nd rfl (Or.inl rfl) (pe_lst (pa_cons (pe_lst pa_nil) (pa_cons (pe_lst pa_nil) pa_nil))))
    (pss_cons (ps_set (i := 3) sc_law.nd rfl (Or.inl rfl) (pe_lst (pa_cons pe_int (pa_cons pe_int pa_nil))))
    (pss_cons (ps_for PassesOwn.never rfl (pi_range1 (by rfl) T.z_range (pa_cons (pe_callB call_len_seq (by rfl) T.z_len (by decide +kernel) (pa_cons (pv 0) pa_nil)) pa_nil)) (pg_name (i := 4) sc_law.nd rfl (Or.inl rfl))
      (pss_cons (ps_set (i := 5) sc_law.nd rfl (Or.inl rfl) (pe_call (ok_law_number T) (hr.mono (by decide)) (by rfl) T.g_law_number T.F_law_number.kp T.b_law_number .nil pass0 (pa_cons (pe_ix ix_list (pv 0) (pv 4) (fun _ _ => rfl)) (pa_cons (pv 4) pa_nil))))
      (pss_cons (ps_set (i := 6) sc_law.nd rfl (Or.inl rfl) (pe_op op_mod (pe_callTy call_int1 (by rfl) T.z_int (by decide +kernel) (pa_cons (pv 5) pa_nil)) pe_int))
      (pss_cons (ps_set (i := 7) sc_law.nd rfl (Or.inl rfl) (pe_op op_mod (pe_callTy call_int1 (by rfl) T.z_int (by decide +kernel) (pa_cons (pe_op op_fdiv (pv 5) pe_int) pa_nil)) pe_int))
      (pss_cons (ps_set (i := 5) sc_law.nd rfl (Or.inl rfl) (pe_op op_fdiv (pv 5) pe_int))
      (C8.pss_cut (ps_if (pt_cmpR op_lt (pv 7) pe_int (nomark _))
        (pss_one (ps_if (pt_not (pt_val (pe_call (ok_law_puts T) (hr.mono (by decide)) (by rfl) T.g_law_puts T.F_law_puts.kp T.b_law_puts .nil pass0 (pa_cons (pe_ix ix_list (pv 1) (pv 6) (fun _ _ => rfl)) (pa_cons (pe_ix ix_list (pv 2) (pv 6) (fun _ _ => rfl)) (pa_cons (pv 5) pa_nil))))))
          (pss_one (ps_ret pe_bl))
          pss_nil))
        (pss_cons (ps_set (i := 8) sc_law.nd rfl (Or.inl rfl) (pe_call (ok_law_upto T) (hr.mono (by decide)) (by rfl) T.g_law_upto T.F_law_upto.kp T.b_law_upto .nil pass0 (pa_cons (pv 5) (pa_cons (pe_ix ix_list (pv 3) (pv 6) (fun _ _ => rfl)) (pa_cons (pe_callB call_len_seq (by rfl) T.z_len (by decide +kernel) (pa_cons (pe_ix ix_list (pv 2) (pv 6) (fun _ _ => rfl)) pa_nil)) pa_nil)))))
        (pss_cons (ps_expr (pe_meth (pe_ix ix_list (pv 1) (pv 6) (fun _ _ => rfl)) T.cl_Outgoing T.m_Outgoing_acknowledge (ok_Outgoing_acknowledge T) (hr.mono (by decide)) T.b_Outgoing_acknowledge .nil pass0 (pa_cons (pv 8) pa_nil)))
        (pss_one (ps_asg (pe_callB (call_max2 rfl) (by rfl) T.z_max (by decide +kernel) (pa_cons (pe_ix ix_list (pv 3) (pv 6) (fun _ _ => rfl)) (pa_cons (pv 8) pa_nil))) (pg_sub (pv 3) (pv 6) set_list))))))
      (pss_cons (ps_if (pt_not (pt_val (pe_call (ok_law_holds T) (hr.mono (by decide)) (by rfl) T.g_law_holds T.F_law_holds.kp T.b_law_holds .nil pass0 (pa_cons (pe_ix ix_list (pv 1) (pv 6) (fun _ _ => rfl)) (pa_cons (pe_ix ix_list (pv 2) (pv 6) (fun _ _ => rfl)) (pa_cons (pe_ix ix_list (pv 3) (pv 6) (fun _ _ => rfl)) pa_nil))))))
        (pss_one (ps_ret pe_bl))
        pss_nil)
      (C8.pss_cut (ps_if (pt_cmpR op_eq (pe_op op_mod (pv 4) pe_int) pe_int (nomark _))
        (pss_cons (ps_set (i := 9) sc_law.nd rfl (Or.inl rfl) (pe_meth0 (pe_ix ix_list (pv 1) (pv 6) (fun _ _ => rfl)) T.cl_Outgoing T.m_Outgoing_due (ok_Outgoing_due T) (hr.mono (by decide)) T.b_Outgoing_due .nil pass0))
        (pss_cons (ps_expr (pe_bm0 PySem.F.plainAttrs_list PySem.F.slot_list_reverse PySem.F.type_list_reverse mt_reverse (pv 9)))
        (pss_cons (ps_expr (pe_bm PySem.F.plainAttrs_list PySem.F.slot_list_append PySem.F.type_list_append mt_append (pv 9) (pa_cons (pe_tup (pa_cons pe_int (pa_cons (pe_tup pa_nil) pa_nil))) pa_nil)))
        (pss_one (ps_if (pt_not (pt_val (pe_call (ok_law_holds T) (hr.mono (by decide)) (by rfl) T.g_law_holds T.F_law_holds.kp T.b_law_holds .nil pass0 (pa_cons (pe_ix ix_list (pv 1) (pv 6) (fun _ _ => rfl)) (pa_cons (pe_ix ix_list (pv 2) (pv 6) (fun _ _ => rfl)) (pa_cons (pe_ix ix_list (pv 3) (pv 6) (fun _ _ => rfl)) pa_nil))))))
          (pss_one (ps_ret pe_bl))
          pss_nil)))))
        pss_nil)
      (pss_one (ps_if (PW.pt (pw_and (pt_cmpR op_eq (pe_op op_mod (pv 4) pe_int) pe_int (nomark _)) (pw_and1 (pt_not (pt_val (pe_call (ok_law_holds T) (hr.mono (by decide)) (by rfl) T.g_law_holds T.F_law_holds.kp T.b_law_holds .nil pass0 (pa_cons (pe_ix ix_list (pv 1) (pe_op op_sub pe_int (pv 6)) (fun _ _ => rfl)) (pa_cons (pe_ix ix_list (pv 2) (pe_op op_sub pe_int (pv 6)) (fun _ _ => rfl)) (pa_cons (pe_ix ix_list (pv 3) (pe_op op_sub pe_int (pv 6)) (fun _ _ => rfl)) pa_nil)))))))))
        (pss_one (ps_ret pe_bl))
        pss_nil))))))))))
    (pss_one (ps_ret (pe_and (pe_call (ok_law_holds T) (hr.mono (by decide)) (by rfl) T.g_law_holds T.F_law_holds.kp T.b_law_holds .nil pass0 (pa_cons (pe_ix ix_list (pv 1) pe_int (fun _ _ => rfl)) (pa_cons (pe_ix ix_list (pv 2) pe_int (fun _ _ => rfl)) (pa_cons (pe_ix ix_list (pv 3) pe_int (fun _ _ => rfl)) pa_nil)))) (pe_one (pe_call (ok_law_holds T) (hr.mono (by decide)) (by rfl) T.g_law_holds T.F_law_holds.kp T.b_law_holds .nil pass0 (pa_cons (pe_ix ix_list (pv 1) pe_int (fun _ _ => rfl)) (pa_cons (pe_ix ix_list (pv 2) pe_int (fun _ _ => rfl)) (pa_cons (pe_ix ix_list (pv 3) pe_int (fun _ _ => rfl)) pa_nil)))))))))))), ?_⟩
    -- ends = [Outgoing(), Outgoing()]
    intro x0 d0 nx0 nd0 e0
    refine ⟨x0, d0, rfl, upd_same, fun l0 H1 R0 fl0 k1 => ⟨rfl, ?_⟩⟩
    intro x1 d1 nx1 nd1 e1
    refine ⟨x1, d1, rfl, upd_same, fun l1 H2 R1 fl1 k2 => ⟨rfl, ?_⟩⟩
    have s1 : Same H H1 := Same.made nx0 nd0 k1
    have s2 : Same H1 H2 := Same.made nx1 nd1 k2
    obtain ⟨⟨y0, I0⟩, J0⟩ := id R0
    obtain ⟨⟨y1, I1⟩, J1⟩ := id R1
    have f0 : H l0 = Option.none := (Same.trans (Same.new (o := .own x0) nd0) (Same.new (o := .ins (cO K) d0 []) (by rw [upd_ne e0.symm]; exact nx0))).free fl0
    have f1 : H1 l1 = Option.none := (Same.trans (Same.new (o := .own x1) nd1) (Same.new (o := .ins (cO K) d1 []) (by rw [upd_ne e1.symm]; exact nx1))).free fl1
    have A1 : Alive H1 [x0, l0] := (Alive.nil.cons (H := H) f0 s1 J0).nd |> fun _ => by
      refine ⟨List.nodup_cons.mpr ⟨by simp only [List.mem_singleton]; exact ne_of I0 J0 (by intro q; cases q), by simp⟩, fun b hb => ?_⟩
      simp only [List.mem_cons, List.not_mem_nil, or_false] at hb
      rcases hb with rfl | rfl
      · exact ⟨_, I0⟩
      · exact ⟨_, J0⟩
    have A2 : Alive H2 [x1, l1, x0, l0] := by
      have B := A1.cons f1 s2 J1
      refine ⟨List.nodup_cons.mpr ⟨fun hm => ?_, B.nd⟩, fun b hb => ?_⟩
      · rcases List.mem_cons.mp hm with e | hm
        · exact ne_of I1 J1 (by intro q; cases q) e
        · obtain ⟨o, e⟩ := A1.at_ x1 hm
          rw [nx1] at e
          cases e
      · rcases List.mem_cons.mp hb with e | hb
        · rw [e]; exact ⟨_, I1⟩
        · exact B.at_ b hb
    refine ⟨(by show 2 ≤ sizeLine; decide), fun le hle => ?_⟩
    refine ⟨Nat.zero_le _, fun a1 ha1 => ?_⟩
    refine ⟨Nat.zero_le _, fun a2 ha2 => ?_⟩
    refine ⟨(by show 2 ≤ sizeLine; decide), fun ll hll => ?_⟩
    refine ⟨(by show 2 ≤ sizeLine; decide), fun ld hld => ?_⟩
    have t1 := Same.new (o := .lst [.ref x0, .ref x1]) hle
    have t2 := Same.new (o := .lst []) ha1
    have t3 := Same.new (o := .lst []) ha2
    have t4 := Same.new (o := .lst [.ref a1, .ref a2]) hll
    have t5 := Same.new (o := .lst [.int 0, .int 0]) hld
    have A7 := ((((A2.new (o := .lst [.ref x0, .ref x1]) hle).new (o := .lst []) ha1).new (o := .lst []) ha2).new (o := .lst [.ref a1, .ref a2]) hll).new (o := .lst [.int 0, .int 0]) hld
    have sH := ((s1.trans s2).trans t1).trans ((t2.trans t3).trans (t4.trans t5))
    have q1 : (upd H2 le (.lst [.ref x0, .ref x1])) le = some (.lst [.ref x0, .ref x1]) := upd_same
    have q2 : (upd (upd H2 le (.lst [.ref x0, .ref x1])) a1 (.lst [])) a1 = some (.lst []) := upd_same
    have q3 : (upd (upd (upd H2 le (.lst [.ref x0, .ref x1])) a1 (.lst [])) a2 (.lst [])) a2 = some (.lst []) := upd_same
    have q4 : (upd (upd (upd (upd H2 le (.lst [.ref x0, .ref x1])) a1 (.lst [])) a2 (.lst [])) ll (.lst [.ref a1, .ref a2])) ll = some (.lst [.ref a1, .ref a2]) := upd_same
    have S : Sep H le ll ld (fun i => if i = 0 then x0 else x1) (fun i => if i = 0 then l0 else l1) (fun i => if i = 0 then a1 else a2) := by
      constructor
      · have n := A7.nd
        exact n
      · intro b hb
        have hb' : b ∈ [ld, ll, a2, a1, le, x1, l1, x0, l0] := hb
        simp only [List.mem_cons, List.not_mem_nil, or_false] at hb'
        rcases hb' with rfl | rfl | rfl | rfl | rfl | rfl | rfl | rfl | rfl
        · exact (((s1.trans s2).trans t1).trans ((t2.trans t3).trans t4)).free hld
        · exact (((s1.trans s2).trans t1).trans (t2.trans t3)).free hll
        · exact (((s1.trans s2).trans t1).trans t2).free ha2
        · exact ((s1.trans s2).trans t1).free ha1
        · exact (s1.trans s2).free hle
        · exact s1.free nx1
        · exact s1.free f1
        · exact nx0
        · exact f0
    have R : Tw (cO K) H (upd (upd (upd (upd (upd H2 le (.lst [.ref x0, .ref x1])) a1 (.lst [])) a2 (.lst [])) ll (.lst [.ref a1, .ref a2])) ld (.lst [.int 0, .int 0])) le ll ld (fun i => if i = 0 then x0 else x1) (fun i => if i = 0 then l0 else l1) (fun i => if i = 0 then a1 else a2) (fun _ => []) (fun _ => 0) := by
      have u2 := ((t2.trans t3).trans (t4.trans t5))
      refine ⟨u2 _ _ q1, t5 _ _ q4, upd_same, fun j hj => ?_, sH⟩
      match j, hj with
      | 0, _ => exact ⟨((R0.same s2).same t1).same u2, (t3.trans (t4.trans t5)) _ _ q2, Nat.le_refl _, fun v hv => by cases hv⟩
      | 1, _ => exact ⟨(R1.same t1).same u2, (t4.trans t5) _ _ q3, Nat.le_refl _, fun v hv => by cases hv⟩
    revert R S
    generalize (upd (upd (upd (upd (upd H2 le (.lst [.ref x0, .ref x1])) a1 (.lst [])) a2 (.lst [])) ll (.lst [.ref a1, .ref a2])) ld (.lst [.int 0, .int 0])) = H3
    generalize (fun i => if i = 0 then x0 else x1 : Nat → Addr) = p
    generalize (fun i => if i = 0 then l0 else l1 : Nat → Addr) = l
    generalize (fun i => if i = 0 then a1 else a2 : Nat → Addr) = a
    intro S R
    -- for k in range(len(script))
    have el : (ns.map V.int).length = ns.length := List.length_map ..
    refine ⟨_, rfl, a0, _, rfl, .inl (R.sm.seq hS), ?_⟩
    refine ⟨_, rfl, by rw [el]; omega, by rw [el]; omega, ?_⟩
    refine for_range (lo := 0) (n := ((ns.map V.int).length : Int).toNat) (fun i σ H5 => ∃ (L : Nat → List V) (d : Nat → Nat) (v4 v5 v6 v7 v8 v9 : Option V), σ = [some (.ref a0), some (.ref le), some (.ref ll), some (.ref ld), v4, v5, v6, v7, v8, v9] ∧ Tw (cO K) H H5 le ll ld p l a L d ∧ ∀ j, j < 2 → (L j).length ≤ 301 * i)
      ⟨_, _, none, none, none, none, none, none, rfl, R, fun j _ => Nat.zero_le _⟩ ?_ ?_
    · rintro i σ H5 hi ⟨L, d, v4, v5, v6, v7, v8, v9, rfl, R, hb⟩
      have hil : i < ns.length := by rw [el] at hi; omega
      obtain ⟨c, hc⟩ : ∃ c, ns[i]? = some c := ⟨ns[i], List.getElem?_eq_getElem hil⟩
      refine ⟨_, rfl, _, rfl, a0, _, _, _, rfl, rfl, R.sm.seq hS, at_map (j := i) (by omega) hc, _, rfl, _, _, rfl, fun part => ?_⟩
      refine ⟨_, rfl, .inl ⟨_, rfl, _, _, rfl, rfl, (by show (0 : Int) < 2; decide), ?_⟩⟩
      obtain ⟨j, hj, ej⟩ : ∃ j : Nat, j < 2 ∧ part % 2 = (j : Int) := ⟨(part % 2).toNat, by omega, by omega⟩
      show gName 6 (.int (part % 2)) _ _ _
      rw [ej]
      refine ⟨_, rfl, _, _, rfl, rfl, ⟨by decide, by decide⟩, .inl ⟨_, rfl, _, _, rfl, rfl, (by show (0 : Int) < 5; decide), ?_⟩⟩
      refine ⟨_, rfl, _, _, rfl, rfl, ⟨by decide, by decide⟩, ?_⟩
      refine ⟨fun σ H' => ∃ (L' : Nat → List V) (d' : Nat → Nat) (w8 : Option V), σ = [some (.ref a0), some (.ref le), some (.ref ll), some (.ref ld), some (.int (0 + i)), some (.int (part / 10)), some (.int j), some (.int (part / 2 % 5)), w8, v9] ∧ Tw (cO K) H H' le ll ld p l a L' d' ∧ ∀ j, j < 2 → (L' j).length ≤ 301 * (i + 1), ?_, ?_⟩
      · obtain ⟨dx, ho⟩ := (R.en j hj).out.ob
        have hbj := hb j hj
        have hsub : ((L j).drop (d j)).length = (L j).length - d j := List.length_drop ..
        have hdl := (R.en j hj).le
        refine ⟨_, rfl, _, _, rfl, rfl, _, rfl, ?_⟩
        refine ite2 (fun _ => ?_) (fun _ => ?_)
        · refine ⟨_, rfl, _, rfl, le, _, _, _, rfl, rfl, SqL.of R.h1, at_of (j := j) rfl (two_at (fun i => V.ref (p i)) hj), _, rfl, _, rfl, ll, _, _, _, rfl, rfl, SqL.of R.h2, at_of (j := j) rfl (two_at (fun i => V.ref (a i)) hj), _, rfl, p j, l j, a j, L j, d j, _, rfl, (R.en j hj).out, (R.en j hj).ls, S.ix (S.ia hj) (S.il hj) (by omega), hdl, by omega, (R.en j hj).dt, fun L' H6 c1 c2 c3 c4 c5 c6 => ?_⟩
          refine ⟨_, rfl, iteF ?_⟩
          refine ⟨put2 L j L', d, _, rfl, R.puts S hj c1 c3 c4 c5 c6, fun j' hj' => ?_⟩
          by_cases e : j' = j
          · subst e
            rw [put2_same]
            omega
          · rw [put2_ne _ _ e]
            have := hb j' hj'
            omega
        · refine ⟨_, rfl, _, rfl, _, rfl, ld, _, _, _, rfl, rfl, SqL.of R.h3, at_of (j := j) rfl (two_at (fun i => V.int (d i)) hj), _, rfl, _, rfl, ll, _, _, _, rfl, rfl, SqL.of R.h2, at_of (j := j) rfl (two_at (fun i => V.ref (a i)) hj), a j, _, rfl, .inl (SqL.of (R.en j hj).ls), _, _, _, rfl, Int.natCast_nonneg _, by omega, fun r hr => ?_⟩
          refine ⟨_, rfl, _, rfl, le, _, _, _, rfl, rfl, SqL.of R.h1, at_of (j := j) rfl (two_at (fun i => V.ref (p i)) hj), p j, dx, _, rfl, ho, outf_no _ _ (by decide +kernel) (by decide +kernel), _, rfl, p j, l j, _, (d j : Int), r, rfl, (R.en j hj).out, by omega, fun H6 c1 c2 => ?_⟩
          obtain ⟨n, en, hn, hd2⟩ : ∃ n : Nat, (if r > (d j : Int) then r else (d j : Int)) = (n : Int) ∧ n ≤ (L j).length ∧ ((L j).drop (d j)).drop (r - (d j : Int)).toNat = (L j).drop n := by
            by_cases e : r > (d j : Int)
            · refine ⟨r.toNat, by rw [if_pos e]; omega, by omega, ?_⟩
              rw [List.drop_drop]
              congr 1
              omega
            · refine ⟨d j, by rw [if_neg e], hdl, ?_⟩
              rw [List.drop_drop]
              congr 1
              omega
          rw [en, hd2] at c1
          obtain ⟨hld6, R6⟩ := R.acks S hj hn c1 c2
          refine ⟨_, rfl, _, rfl, ld, _, _, _, rfl, rfl, SqL.of hld6, at_of (j := j) rfl (two_at (fun i => V.int (d i)) hj), _, rfl, _, _, rfl, _, rfl, _, rfl, ld, _, _, j, rfl, rfl, hld6, ?_, ?_⟩
          · unfold ixN
            rw [if_pos (by omega), if_pos (by show (j : Int) < 2; omega)]
            simp
          · show ∃ (L' : Nat → List V) (d' : Nat → Nat) (w8 : Option V), _ ∧ Tw (cO K) H (upd H6 ld (.lst (([V.int (d 0), V.int (d 1)] : List V).set j (V.int (if r > (d j : Int) then r else (d j : Int)))))) le ll ld p l a L' d' ∧ _
            rw [en, put2_set hj]
            exact ⟨L, put2 d j n, _, rfl, R6, fun j' hj' => Nat.le_trans (hb j' hj') (by omega)⟩
      clear hb R v8
      rintro σ H6 ⟨L, d, v8, rfl, R, hb⟩
      have dlt : ∀ j, j < 2 → d j < 2 ^ 62 := fun j hj => by
        have h1 := (R.en j hj).le
        have h2 := hb j hj
        omega
      have lz : ∀ j, j < 2 → (L j).length ≤ 100000 := fun j hj => by
        have h2 := hb j hj
        omega
      -- if not _law_holds(ends[at], letters[at], done[at])
      refine ⟨_, rfl, _, rfl, le, _, _, _, rfl, rfl, SqL.of R.h1, at_of (j := j) rfl (two_at (fun i => V.ref (p i)) hj), _, rfl, _, rfl, ll, _, _, _, rfl, rfl, SqL.of R.h2, at_of (j := j) rfl (two_at (fun i => V.ref (a i)) hj), _, rfl, _, rfl, ld, _, _, _, rfl, rfl, SqL.of R.h3, at_of (j := j) rfl (two_at (fun i => V.int (d i)) hj), p (j), l (j), a (j), L (j), d (j), rfl, (R.en _ hj).out, (R.en _ hj).ls, (R.en _ hj).le, lz _ hj, (R.en _ hj).dt, fun H7 s7 => ?_⟩
      refine ⟨_, rfl, iteF ?_⟩
      have R7 := R.same s7
      clear R
      refine ⟨fun σ H' => ∃ w9 : Option V, σ = [some (.ref a0), some (.ref le), some (.ref ll), some (.ref ld), some (.int (0 + i)), some (.int (part / 10)), some (.int j), some (.int (part / 2 % 5)), v8, w9] ∧ Tw (cO K) H H' le ll ld p l a L d, ?_, ?_⟩
      · refine ⟨_, rfl, _, _, rfl, rfl, (by show (0 : Int) < 4; decide), rfl, _, rfl, ?_⟩
        refine ite2 (fun _ => ?_) (fun _ => ?_)
        · obtain ⟨dx, ho⟩ := (R7.en j hj).out.ob
          refine ⟨_, rfl, _, rfl, le, _, _, _, rfl, rfl, SqL.of R7.h1, at_of (j := j) rfl (two_at (fun i => V.ref (p i)) hj), p j, dx, _, rfl, ho, outf_no _ _ (by decide +kernel) (by decide +kernel), p j, l j, _, (d j : Int), rfl, (R7.en j hj).out, Int.natCast_nonneg _, (by have := dlt j hj; omega), fun H8 q ts s8 nq hts hq htt => ?_⟩
          refine ⟨_, rfl, .inl ⟨rfl, _, SqL.of hq⟩, q, _, rfl, rfl, hq, ?_⟩
          refine ⟨_, rfl, .inl ⟨rfl, _, SqL.of upd_same⟩, Nat.zero_le _, fun t1 ht1 => ?_⟩
          refine ⟨(by show 2 ≤ sizeLine; decide), fun t2 ht2 => ?_⟩
          have n1 : q ≠ t1 := ne_of_none (upd_same (H := H8)) ht1
          have n2 : q ≠ t2 := ne_of_none (o := .lst (ts.map V.ref).reverse) (by rw [upd_ne n1, upd_same]) ht2
          have hz : (ts.map V.ref).reverse.length < sizeLine := by
            rw [List.length_reverse, List.length_map, hts, List.length_drop]
            have h1 := lz j hj
            have h2 : (100000 : Nat) < sizeLine := by decide
            omega
          refine ⟨q, _, _, rfl, rfl, (by rw [upd_ne n2, upd_ne n1, upd_same]), hz, ?_⟩
          have sq : ∀ (G : Hp) (o : HO), Same H7 G → Same H7 (upd G q o) := fun G o g b u e => by
            rw [upd_ne (ne_of_none e nq)]
            exact g b u e
          have R8 := R7.same (sq _ (.lst ((ts.map V.ref).reverse ++ [V.ref t2])) (((sq _ (.lst (ts.map V.ref).reverse) s8).trans (Same.new (o := .tup []) ht1)).trans (Same.new (o := .tup [.int 0, .ref t1]) ht2)))
          refine ⟨_, rfl, _, rfl, le, _, _, _, rfl, rfl, SqL.of R8.h1, at_of (j := j) rfl (two_at (fun i => V.ref (p i)) hj), _, rfl, _, rfl, ll, _, _, _, rfl, rfl, SqL.of R8.h2, at_of (j := j) rfl (two_at (fun i => V.ref (a i)) hj), _, rfl, _, rfl, ld, _, _, _, rfl, rfl, SqL.of R8.h3, at_of (j := j) rfl (two_at (fun i => V.int (d i)) hj), p (j), l (j), a (j), L (j), d (j), rfl, (R8.en _ hj).out, (R8.en _ hj).ls, (R8.en _ hj).le, lz _ hj, (R8.en _ hj).dt, fun H9 s9 => ?_⟩
          refine ⟨_, rfl, iteF ?_⟩
          exact ⟨_, rfl, R8.same s9⟩
        · exact ⟨_, rfl, R7⟩
      clear R7
      rintro σ H8 ⟨v9, rfl, R⟩
      -- if k % 4 == 1 and not _law_holds(ends[1 - at], ..)
      refine ⟨_, rfl, _, _, rfl, rfl, (by show (0 : Int) < 4; decide), rfl, _, rfl, ?_⟩
      have hj2 : 1 - j < 2 := by omega
      have ej2 : (1 : Int) - (j : Int) = ((1 - j : Nat) : Int) := by omega
      refine ite2 (fun _ => ?_) (fun _ => iteF ?_)
      · refine ⟨_, rfl, _, rfl, _, _, rfl, rfl, le, _, _, _, rfl, rfl, SqL.of R.h1, at_of (j := 1 - j) ej2 (two_at (fun i => V.ref (p i)) hj2), _, rfl, _, rfl, _, _, rfl, rfl, ll, _, _, _, rfl, rfl, SqL.of R.h2, at_of (j := 1 - j) ej2 (two_at (fun i => V.ref (a i)) hj2), _, rfl, _, rfl, _, _, rfl, rfl, ld, _, _, _, rfl, rfl, SqL.of R.h3, at_of (j := 1 - j) ej2 (two_at (fun i => V.int (d i)) hj2), p (1 - j), l (1 - j), a (1 - j), L (1 - j), d (1 - j), rfl, (R.en _ hj2).out, (R.en _ hj2).ls, (R.en _ hj2).le, lz _ hj2, (R.en _ hj2).dt, fun H9 s9 => ?_⟩
        refine ⟨_, rfl, iteF ?_⟩
        exact ⟨L, d, _, _, _, _, _, _, rfl, R.same s9, hb⟩
      · exact ⟨L, d, _, _, _, _, _, _, rfl, R, hb⟩
    · rintro σ H5 ⟨L, d, v4, v5, v6, v7, v8, v9, rfl, R, hb⟩
      have lz : ∀ j, j < 2 → (L j).length ≤ 100000 := fun j hj => by
        have h2 := hb j hj
        rw [el] at h2
        omega
      refine ⟨_, rfl, le, _, _, _, rfl, rfl, SqL.of R.h1, at_of (j := 0) rfl (two_at (fun i => V.ref (p i)) (by decide)), _, rfl, ll, _, _, _, rfl, rfl, SqL.of R.h2, at_of (j := 0) rfl (two_at (fun i => V.ref (a i)) (by decide)), _, rfl, ld, _, _, _, rfl, rfl, SqL.of R.h3, at_of (j := 0) rfl (two_at (fun i => V.int (d i)) (by decide)), p (0), l (0), a (0), L (0), d (0), rfl, (R.en _ (by decide)).out, (R.en _ (by decide)).ls, (R.en _ (by decide)).le, lz _ (by decide), (R.en _ (by decide)).dt, fun H6 s6 => ?_⟩
      refine ⟨_, rfl, iteT ?_⟩
      have R6 := R.same s6
      refine ⟨_, rfl, le, _, _, _, rfl, rfl, SqL.of R6.h1, at_of (j := 1) rfl (two_at (fun i => V.ref (p i)) (by decide)), _, rfl, ll, _, _, _, rfl, rfl, SqL.of R6.h2, at_of (j := 1) rfl (two_at (fun i => V.ref (a i)) (by decide)), _, rfl, ld, _, _, _, rfl, rfl, SqL.of R6.h3, at_of (j := 1) rfl (two_at (fun i => V.int (d i)) (by decide)), p (1), l (1), a (1), L (1), d (1), rfl, (R6.en _ (by decide)).out, (R6.en _ (by decide)).ls, (R6.en _ (by decide)).le, lz _ (by decide), (R6.en _ (by decide)).dt, fun H7 s7 => ?_⟩
      exact k _

end
/-! ### the head -/
def d_Outgoing_init : Fh.Dx := ⟨fun K => (He.ma K (He.ga K "Outgoing") "__init__"), "__init__", "Outgoing.__init__", defArgs s_Outgoing_init, defBody s_Outgoing_init, defScope s_Outgoing_init, [], []⟩
def d_Outgoing_put : Fh.Dx := ⟨fun K => (He.ma K (He.ga K "Outgoing") "put"), "put", "Outgoing.put", defArgs s_Outgoing_put, defBody s_Outgoing_put, defScope s_Outgoing_put, [], []⟩
def d_Outgoing_due : Fh.Dx := ⟨fun K => (He.ma K (He.ga K "Outgoing") "due"), "due", "Outgoing.due", defArgs s_Outgoing_due, defBody s_Outgoing_due, defScope s_Outgoing_due, [], []⟩
def d_Outgoing_acknowledge : Fh.Dx := ⟨fun K => (He.ma K (He.ga K "Outgoing") "acknowledge"), "acknowledge", "Outgoing.acknowledge", defArgs s_Outgoing_acknowledge, defBody s_Outgoing_acknowledge, defScope s_Outgoing_acknowledge, [], []⟩
def d_Outgoing_put_count : Fh.Dx := ⟨fun K => (Fh.pgA K (He.ga K "Outgoing") "put_count"), "put_count", "Outgoing.put_count", defArgs s_Outgoing_put_count, defBody s_Outgoing_put_count, defScope s_Outgoing_put_count, [], []⟩
def d_Outgoing_acknowledged : Fh.Dx := ⟨fun K => (Fh.pgA K (He.ga K "Outgoing") "acknowledged"), "acknowledged", "Outgoing.acknowledged", defArgs s_Outgoing_acknowledged, defBody s_Outgoing_acknowledged, defScope s_Outgoing_acknowledged, [], []⟩
def d_law_is_integer : Fh.Dx := ⟨fun K => (He.ga K "_law_is_integer"), "_law_is_integer", "_law_is_integer", defArgs s_law_is_integer, defBody s_law_is_integer, defScope s_law_is_integer, [], []⟩
def d_law_number : Fh.Dx := ⟨fun K => (He.ga K "_law_number"), "_law_number", "_law_number", defArgs s_law_number, defBody s_law_number, defScope s_law_number, [], []⟩
def d_law_letter : Fh.Dx := ⟨fun K => (He.ga K "_law_letter"), "_law_letter", "_law_letter", defArgs s_law_letter, defBody s_law_letter, defScope s_law_letter, [], []⟩
def d_law_holds : Fh.Dx := ⟨fun K => (He.ga K "_law_holds"), "_law_holds", "_law_holds", defArgs s_law_holds, defBody s_law_holds, defScope s_law_holds, [], []⟩
def d_law_puts : Fh.Dx := ⟨fun K => (He.ga K "_law_puts"), "_law_puts", "_law_puts", defArgs s_law_puts, defBody s_law_puts, defScope s_law_puts, [], []⟩
def d_law_upto : Fh.Dx := ⟨fun K => (He.ga K "_law_upto"), "_law_upto", "_law_upto", defArgs s_law_upto, defBody s_law_upto, defScope s_law_upto, [], []⟩
def d_law : Fh.Dx := ⟨fun K => (He.ga K "law"), "law", "law", defArgs s_law, defBody s_law, defScope s_law, [], []⟩
def fn : List Fh.Dx := [d_Outgoing_init, d_Outgoing_put, d_Outgoing_due, d_Outgoing_acknowledge, d_Outgoing_put_count, d_Outgoing_acknowledged, d_law_is_integer, d_law_number, d_law_letter, d_law_holds, d_law_puts, d_law_upto, d_law]
def ex : List (PySem.W.Frag → Bool) := [Fh.propB "Outgoing" "put_count", Fh.propB "Outgoing" "acknowledged"]
def fa : List He.Fa := [.glo "Outgoing", .cls "Outgoing", .noat "Outgoing" "_letters", .noat "Outgoing" "_acknowledged", .mkr "Outgoing", .meth "Outgoing" "put", .meth "Outgoing" "due", .meth "Outgoing" "acknowledge", .glo "_law_is_integer", .glo "_law_number", .glo "_law_letter", .glo "_law_holds", .glo "_law_puts", .glo "_law_upto", .glo "law", .free "list", .free "enumerate", .free "min", .free "len", .free "property", .free "isinstance", .free "int", .free "bool", .free "range", .free "tuple", .free "max"]
abbrev R : PySem.W.OpenRow := PySem.W.OpenLaw.row PySem.Challenge.rw_farheap_k01_outgoing_keeps_its_letters
abbrev hk : PySem.W.Hook := Fh.hookX 7 fa ex fn
def ob (s : PySem.W.SharedT) : He.AlD := Fh.obsXG 7 fa ex fn (HandSHeadRun.getT s)
theorem ob_eq (s : PySem.W.SharedT) : ob s = hk.obs s.abs := Fh.obsXG_eq (HandSHeadRun.getT_eq s)
theorem run (w : World) : HandSHeadRun.RunEq R (PySem.W.view R.prog [9]) hk ob 2000 ["Outgoing", "_law_is_integer", "_law_number", "_law_letter", "_law_holds", "_law_puts", "_law_upto"] w := by
  intro os
  kernel_rfl
theorem mkTxt {K : PySem.W.Frag} {h : Heap} {mg : Str → Option Value} (X : K.In h) (G : h.Ns mainGlobals mg) (c : Fh.SaysX fa ex fn K) : Nonempty (Txt K mg) := by
  obtain ⟨fd_Outgoing_init, F_Outgoing_init⟩ := c.def_ 0 (d := d_Outgoing_init) rfl
  obtain ⟨fd_Outgoing_put, F_Outgoing_put⟩ := c.def_ 1 (d := d_Outgoing_put) rfl
  obtain ⟨fd_Outgoing_due, F_Outgoing_due⟩ := c.def_ 2 (d := d_Outgoing_due) rfl
  obtain ⟨fd_Outgoing_acknowledge, F_Outgoing_acknowledge⟩ := c.def_ 3 (d := d_Outgoing_acknowledge) rfl
  obtain ⟨fd_Outgoing_put_count, F_Outgoing_put_count⟩ := c.def_ 4 (d := d_Outgoing_put_count) rfl
  obtain ⟨fd_Outgoing_acknowledged, F_Outgoing_acknowledged⟩ := c.def_ 5 (d := d_Outgoing_acknowledged) rfl
  obtain ⟨fd_law_is_integer, F_law_is_integer⟩ := c.def_ 6 (d := d_law_is_integer) rfl
  obtain ⟨fd_law_number, F_law_number⟩ := c.def_ 7 (d := d_law_number) rfl
  obtain ⟨fd_law_letter, F_law_letter⟩ := c.def_ 8 (d := d_law_letter) rfl
  obtain ⟨fd_law_holds, F_law_holds⟩ := c.def_ 9 (d := d_law_holds) rfl
  obtain ⟨fd_law_puts, F_law_puts⟩ := c.def_ 10 (d := d_law_puts) rfl
  obtain ⟨fd_law_upto, F_law_upto⟩ := c.def_ 11 (d := d_law_upto) rfl
  obtain ⟨fd_law, F_law⟩ := c.def_ 12 (d := d_law) rfl
  exact ⟨⟨He.glo_ok X G (c.fact 0 (f := .glo "Outgoing") rfl), He.cls_ok (c.fact 1 (f := .cls "Outgoing") rfl), He.noat_ok (c.fact 2 (f := .noat "Outgoing" "_letters") rfl), He.noat_ok (c.fact 3 (f := .noat "Outgoing" "_acknowledged") rfl), He.mkr_ok (c.fact 4 (f := .mkr "Outgoing") rfl), He.meth_ok (c.fact 5 (f := .meth "Outgoing" "put") rfl), He.meth_ok (c.fact 6 (f := .meth "Outgoing" "due") rfl), He.meth_ok (c.fact 7 (f := .meth "Outgoing" "acknowledge") rfl), He.glo_ok X G (c.fact 8 (f := .glo "_law_is_integer") rfl), He.glo_ok X G (c.fact 9 (f := .glo "_law_number") rfl), He.glo_ok X G (c.fact 10 (f := .glo "_law_letter") rfl), He.glo_ok X G (c.fact 11 (f := .glo "_law_holds") rfl), He.glo_ok X G (c.fact 12 (f := .glo "_law_puts") rfl), He.glo_ok X G (c.fact 13 (f := .glo "_law_upto") rfl), He.glo_ok X G (c.fact 14 (f := .glo "law") rfl), He.free_ok X G (c.fact 15 (f := .free "list") rfl), He.free_ok X G (c.fact 16 (f := .free "enumerate") rfl), He.free_ok X G (c.fact 17 (f := .free "min") rfl), He.free_ok X G (c.fact 18 (f := .free "len") rfl), He.free_ok X G (c.fact 19 (f := .free "property") rfl), He.free_ok X G (c.fact 20 (f := .free "isinstance") rfl), He.free_ok X G (c.fact 21 (f := .free "int") rfl), He.free_ok X G (c.fact 22 (f := .free "bool") rfl), He.free_ok X G (c.fact 23 (f := .free "range") rfl), He.free_ok X G (c.fact 24 (f := .free "tuple") rfl), He.free_ok X G (c.fact 25 (f := .free "max") rfl), Fh.prop_ok (c.ext 0 (f := Fh.propB "Outgoing" "put_count") rfl), Fh.prop_ok (c.ext 1 (f := Fh.propB "Outgoing" "acknowledged") rfl), fd_Outgoing_init, F_Outgoing_init, fd_Outgoing_put, F_Outgoing_put, fd_Outgoing_due, F_Outgoing_due, fd_Outgoing_acknowledge, F_Outgoing_acknowledge, fd_Outgoing_put_count, F_Outgoing_put_count, fd_Outgoing_acknowledged, F_Outgoing_acknowledged, fd_law_is_integer, F_law_is_integer, fd_law_number, F_law_number, fd_law_letter, F_law_letter, fd_law_holds, F_law_holds, fd_law_puts, F_law_puts, fd_law_upto, F_law_upto, fd_law, F_law⟩⟩
theorem facts {P : Program} {w : World} {K : PySem.W.Frag} {h : Heap} {mg : Str → Option Value} {f : Addr} (X : K.In h) (G : h.Ns mainGlobals mg) (hfa : mg ("law" : Str) = some (.ref f)) (c : Fh.SaysX fa ex fn K) :
    ∃ fd : FuncData, (∀ (s : Shared) (v : Value), BindsTo s fd ⟨[v], []⟩ [("script", v)]) ∧ ∀ base : Heap, K.In base → base.Ns mainGlobals mg → FnOk P w K mg base CX0 5 f fd ["script"] (spLaw K) := by
  obtain ⟨T⟩ := mkTxt X G c
  have e := hfa.symm.trans T.g_law
  cases e
  have b := FunD.bindsA (ps := ["script"]) T.F_law fun _ _ _ _ _ _ us hl => match us, hl with | [_], _ => rfl
  exact ⟨T.fd_law, fun s v => b s [v] rfl, fun base _ _ => ok_law T⟩
end K01
open PySem PySem.W PySem.Calls PyProof.Rows
set_option maxRecDepth 100000 in
set_option maxHeartbeats 0 in
theorem PySem.Challenge.cw_farheap_k01_outgoing_keeps_its_letters_holds : PySem.Challenge.rw_farheap_k01_outgoing_keeps_its_letters.Holds := by
  w_on; o_law
  refine HandSHeadRun.head_any (r := OpenLaw.row PySem.Challenge.rw_farheap_k01_outgoing_keeps_its_letters) (q := view (OpenLaw.row PySem.Challenge.rw_farheap_k01_outgoing_keeps_its_letters).prog [9]) (H := K01.hk) (ob := K01.ob) (M := 2000) (loose := ["Outgoing", "_law_is_integer", "_law_number", "_law_letter", "_law_holds", "_law_puts", "_law_upto"]) (d := HandSHeadRun.topDef (OpenLaw.row PySem.Challenge.rw_farheap_k01_outgoing_keeps_its_letters).prog 9) (kwd := []) K01.ob_eq
    (by kernel_rfl) (fun s => by kernel_rfl) K01.run (by kernel_rfl) (by kernel_rfl) (by kernel_rfl) (by rfl) (by first | assumption | decide +kernel) (by decide +kernel) ⟨rfl, rfl, rfl, rfl, rfl, by decide +kernel⟩ ?hw ?hc
  case hw => w_witness2
  case hc =>
    refine L2.walk_ofE (l := PySem.Challenge.rw_farheap_k01_outgoing_keeps_its_letters) (n := 63) (k := 5) (x := "script") (CX := L2.CX0) rfl (by decide) (by kernel_rfl) ⟨rfl, by decide, by decide⟩ ?F (fun _ _ _ _ z => z)
    intro w mg fa h Y G hmg0
    obtain ⟨K, KX, c⟩ := Y
    have hmg : mg ("law" : PySem.Str) = some (.ref fa) := by
      have e : (HandSHeadRun.topDef (OpenLaw.row PySem.Challenge.rw_farheap_k01_outgoing_keeps_its_letters).prog 9).name = ("law" : PySem.Str) := by kernel_rfl
      rw [← e]
      exact hmg0
    obtain ⟨fd, hb, hF⟩ := K01.facts (P := (PySem.Challenge.rw_farheap_k01_outgoing_keeps_its_letters).prog) (w := w) KX G hmg c
    exact ⟨K, fd, K01.spLaw K, KX, hb, fun H a ns hl _ hS => ⟨a, ns, rfl, hS, hl, fun _ => rfl⟩, hF⟩
#print axioms PySem.Challenge.cw_farheap_k01_outgoing_keeps_its_letters_holds
