import PyProof.Rows.All
import Wide.All
import OpenK.AllK
import Wide.FinOn
import KE.KStateDown
import HandS.ForMost
import HandS.IsInst
import HandS.Codes
import HandS.Defaults
import HandS.Head0
import HandS.Head1
import HandS.Head2
import HandS.HeadEnd
import HandS.HeadHook1
import HandS.HeadHook2
import PySem.Challenge.RW_farheap_k02_incoming_counts
set_option Elab.async false
set_option linter.all false
set_option maxRecDepth 100000
set_option maxHeartbeats 4000000
/-! Two receiving ends of a channel keep their counts. -/
namespace K02
open PySem PySem.Spec PyProof.Rows L2
/-! ### the text by places -/
def top (i : Nat) : Stmt := PySem.Challenge.pw_farheap_k02_incoming_counts.main.body.getD i (.Pass ⟨0, 0, 0, 0⟩)
abbrev s_Incoming_init : Stmt := inClass (top 1) 0
abbrev s_Incoming_accepts : Stmt := inClass (top 1) 1
abbrev s_Incoming_accept : Stmt := inClass (top 1) 2
abbrev s_law_is_integer : Stmt := top 3
abbrev s_law_number : Stmt := top 4
abbrev s_law_holds : Stmt := top 5
abbrev s_law : Stmt := top 6
theorem sc_Incoming_init : FnScope ["self"] ["self"] (defScope s_Incoming_init) := ⟨rfl, rfl, rfl, by decide +kernel, rfl, by decide +kernel, by decide +kernel⟩
theorem sc_Incoming_accepts : FnScope ["self", "number"] ["self", "number"] (defScope s_Incoming_accepts) := ⟨rfl, rfl, rfl, by decide +kernel, rfl, by decide +kernel, by decide +kernel⟩
theorem sc_Incoming_accept : FnScope ["self"] ["self"] (defScope s_Incoming_accept) := ⟨rfl, rfl, rfl, by decide +kernel, rfl, by decide +kernel, by decide +kernel⟩
theorem sc_law_is_integer : FnScope ["actual"] ["actual"] (defScope s_law_is_integer) := ⟨rfl, rfl, rfl, by decide +kernel, rfl, by decide +kernel, by decide +kernel⟩
theorem sc_law_number : FnScope ["cell", "k", "first", "second"] ["cell", "k"] (defScope s_law_number) := ⟨rfl, rfl, rfl, by decide +kernel, rfl, by decide +kernel, by decide +kernel⟩
theorem sc_law_holds : FnScope ["end", "many", "part", "large", "numbers", "number", "answer"] ["end", "many", "part"] (defScope s_law_holds) := ⟨rfl, rfl, rfl, by decide +kernel, rfl, by decide +kernel, by decide +kernel⟩
theorem sc_law : FnScope ["script", "ends", "many", "k", "part", "at", "count", "j"] ["script"] (defScope s_law) := ⟨rfl, rfl, rfl, by decide +kernel, rfl, by decide +kernel, by decide +kernel⟩
/-! ### what the top has written -/
/-- what the top has written -/
structure Txt (K : PySem.W.Frag) (mg : Str → Option Value) where
  mg_Incoming : mg "Incoming" = some (.ref (He.ga K "Incoming"))
  cl_Incoming : Cls K (He.ga K "Incoming")
  n_Incoming_count : NoAttr K (He.ga K "Incoming") "count"
  mk_Incoming : Mk K (He.ga K "Incoming") (He.ma K (He.ga K "Incoming") "__init__")
  m_Incoming_accepts : Meth K (He.ga K "Incoming") "accepts" (He.ma K (He.ga K "Incoming") "accepts")
  m_Incoming_accept : Meth K (He.ga K "Incoming") "accept" (He.ma K (He.ga K "Incoming") "accept")
  g_law_is_integer : mg "_law_is_integer" = some (.ref (He.ga K "_law_is_integer"))
  g_law_number : mg "_law_number" = some (.ref (He.ga K "_law_number"))
  g_law_holds : mg "_law_holds" = some (.ref (He.ga K "_law_holds"))
  g_law : mg "law" = some (.ref (He.ga K "law"))
  z_isinstance : mg "isinstance" = none
  z_int : mg "int" = none
  z_bool : mg "bool" = none
  z_range : mg "range" = none
  z_len : mg "len" = none
  fd_Incoming_init : FuncData
  F_Incoming_init : FunD K "__init__" "Incoming.__init__" (defArgs s_Incoming_init) (defBody s_Incoming_init) (defScope s_Incoming_init) [] [] (He.ma K (He.ga K "Incoming") "__init__") fd_Incoming_init
  fd_Incoming_accepts : FuncData
  F_Incoming_accepts : FunD K "accepts" "Incoming.accepts" (defArgs s_Incoming_accepts) (defBody s_Incoming_accepts) (defScope s_Incoming_accepts) [] [] (He.ma K (He.ga K "Incoming") "accepts") fd_Incoming_accepts
  fd_Incoming_accept : FuncData
  F_Incoming_accept : FunD K "accept" "Incoming.accept" (defArgs s_Incoming_accept) (defBody s_Incoming_accept) (defScope s_Incoming_accept) [] [] (He.ma K (He.ga K "Incoming") "accept") fd_Incoming_accept
  fd_law_is_integer : FuncData
  F_law_is_integer : FunD K "_law_is_integer" "_law_is_integer" (defArgs s_law_is_integer) (defBody s_law_is_integer) (defScope s_law_is_integer) [] [] (He.ga K "_law_is_integer") fd_law_is_integer
  fd_law_number : FuncData
  F_law_number : FunD K "_law_number" "_law_number" (defArgs s_law_number) (defBody s_law_number) (defScope s_law_number) [] [] (He.ga K "_law_number") fd_law_number
  fd_law_holds : FuncData
  F_law_holds : FunD K "_law_holds" "_law_holds" (defArgs s_law_holds) (defBody s_law_holds) (defScope s_law_holds) [] [] (He.ga K "_law_holds") fd_law_holds
  fd_law : FuncData
  F_law : FunD K "law" "law" (defArgs s_law) (defBody s_law) (defScope s_law) [] [] (He.ga K "law") fd_law
section
variable {K : PySem.W.Frag} {mg : Str → Option Value}
theorem Txt.b_Incoming_init (T : Txt K mg) : Binds K T.fd_Incoming_init ["self"] [] := T.F_Incoming_init.bindsN fun _ _ _ _ _ _ us hl => match us, hl with | [_], _ => rfl
theorem Txt.b_Incoming_accepts (T : Txt K mg) : Binds K T.fd_Incoming_accepts ["self", "number"] [] := T.F_Incoming_accepts.bindsN fun _ _ _ _ _ _ us hl => match us, hl with | [_, _], _ => rfl
theorem Txt.b_Incoming_accept (T : Txt K mg) : Binds K T.fd_Incoming_accept ["self"] [] := T.F_Incoming_accept.bindsN fun _ _ _ _ _ _ us hl => match us, hl with | [_], _ => rfl
theorem Txt.b_law_is_integer (T : Txt K mg) : Binds K T.fd_law_is_integer ["actual"] [] := T.F_law_is_integer.bindsN fun _ _ _ _ _ _ us hl => match us, hl with | [_], _ => rfl
theorem Txt.b_law_number (T : Txt K mg) : Binds K T.fd_law_number ["cell", "k"] [] := T.F_law_number.bindsN fun _ _ _ _ _ _ us hl => match us, hl with | [_, _], _ => rfl
theorem Txt.b_law_holds (T : Txt K mg) : Binds K T.fd_law_holds ["end", "many", "part"] [] := T.F_law_holds.bindsN fun _ _ _ _ _ _ us hl => match us, hl with | [_, _, _], _ => rfl
theorem Txt.b_law (T : Txt K mg) : Binds K T.fd_law ["script"] [] := T.F_law.bindsN fun _ _ _ _ _ _ us hl => match us, hl with | [_], _ => rfl
end
/-! ### the data -/
def inf (z : Int) : List (Str × V) := putF "count" (.int z) []
theorem inf_count (z : Int) : (inf z).lookup ("count" : Str) = some (.int z) := by
  unfold inf
  rw [lookup_putF, if_pos rfl]
theorem inf_no (z : Int) {m : Str} (h : ¬ m = "count") : (inf z).lookup m = none := by
  unfold inf
  rw [lookup_putF, if_neg h]
  all_goals rfl
theorem inf_put (z y : Int) : putF "count" (.int y) (inf z) = inf y := by
  show (if ("count" : Str) = "count" then [(("count" : Str), V.int y)] else _) = ([("count", V.int y)] : List (Str × V))
  rw [if_pos rfl]
/-- a receiving end that has accepted z letters stands at p -/
def InAt (C : Addr) (H : Hp) (p : Addr) (z : Int) : Prop := ∃ dx, H p = some (.ins C dx (inf z))
abbrev cI (K : PySem.W.Frag) : Addr := He.ga K "Incoming"
/-! ### the promises -/
def spInit (K : PySem.W.Frag) : Sp := fun vs H Q _ => ∃ (p dx : Addr), vs = [.ref p] ∧ H p = some (.ins (cI K) dx []) ∧ ∀ H' : Hp, InAt (cI K) H' p 0 → (∀ b o, H b = some o → b ≠ p → H' b = some o) → Q .non H'
def spAccepts (K : PySem.W.Frag) : Sp := fun vs H Q _ => ∃ (p : Addr) (z n : Int), vs = [.ref p, .int n] ∧ InAt (cI K) H p z ∧ Q (.bl (decide (V.int n = V.int (z + 1)))) H
def spAccept (K : PySem.W.Frag) : Sp := fun vs H Q _ => ∃ (p : Addr) (z : Int), vs = [.ref p] ∧ InAt (cI K) H p z ∧ ∀ H' : Hp, InAt (cI K) H' p (z + 1) → (∀ b o, H b = some o → b ≠ p → H' b = some o) → Q .non H'
def spIsInt : Sp := fun vs H Q _ => ∃ z : Int, vs = [.int z] ∧ Q (.bl true) H
def spNumber : Sp := fun vs H Q _ => ∃ z k : Int, vs = [.int z, .int k] ∧ ∀ r : Int, Q (.int r) H
def spHolds (K : PySem.W.Frag) : Sp := fun vs H Q _ => ∃ (p : Addr) (z part : Int), vs = [.ref p, .int z, .int part] ∧ InAt (cI K) H p z ∧ 0 ≤ z ∧ ∀ H' : Hp, Same H H' → Q (.bl true) H'
def spLaw (K : PySem.W.Frag) : Sp := fun vs H Q _ => ∃ (a : Addr) (ns : List Int), vs = [.ref a] ∧ SqL K H a (ns.map V.int) ∧ ns.length ≤ 63 ∧ ∀ H', Q (.bl true) H'
section
variable {P : Program} {w : World} {K : PySem.W.Frag} {mg : Str → Option Value} {base : Heap}
theorem ok_Incoming_init (T : Txt K mg) : FnOk P w K mg base CX0 1 (He.ma K (He.ga K "Incoming") "__init__") T.fd_Incoming_init ["self"] (spInit K) := by
  refine T.F_Incoming_init.ok sc_Incoming_init (fun vs H Q E h => ?_) (fun cdv A outer s H vs Q E hr h => ?_)
  · obtain ⟨p, dx, rfl, _⟩ := h
    rfl
  · obtain ⟨p, dx, rfl, hp, k⟩ := h
    refine ⟨_, PSs.nox (pss_one (ps_fld (pv 0) pe_int rfl)), ?_⟩
    refine ⟨_, rfl, p, _, dx, [], rfl, hp, T.cl_Incoming, T.n_Incoming_count, (by show 0 < 1000; decide), ?_⟩
    exact k _ ⟨dx, upd_same⟩ fun b o e hb => by rw [upd_ne hb]; exact e
theorem ok_Incoming_accepts (T : Txt K mg) : FnOk P w K mg base CX0 1 (He.ma K (He.ga K "Incoming") "accepts") T.fd_Incoming_accepts ["self", "number"] (spAccepts K) := by
  refine T.F_Incoming_accepts.ok sc_Incoming_accepts (fun vs H Q E h => ?_) (fun cdv A outer s H vs Q E hr h => ?_)
  · obtain ⟨p, z, n, rfl, _⟩ := h
    rfl
  · obtain ⟨p, z, n, rfl, ⟨dx, h1⟩, k⟩ := h
    refine ⟨_, PSs.nox (pss_one (ps_ret (pe_cmpR op_eq (pv 1) (pe_op op_add (pe_fld (pv 0) rfl) pe_int) (nomark _)))), ?_⟩
    exact ⟨_, rfl, _, rfl, p, _, dx, _, _, rfl, h1, T.cl_Incoming, T.n_Incoming_count, inf_count _, _, _, rfl, rfl, rfl, k⟩
theorem ok_Incoming_accept (T : Txt K mg) : FnOk P w K mg base CX0 1 (He.ma K (He.ga K "Incoming") "accept") T.fd_Incoming_accept ["self"] (spAccept K) := by
  refine T.F_Incoming_accept.ok sc_Incoming_accept (fun vs H Q E h => ?_) (fun cdv A outer s H vs Q E hr h => ?_)
  · obtain ⟨p, z, rfl, _⟩ := h
    rfl
  · obtain ⟨p, z, rfl, ⟨dx, h1⟩, k⟩ := h
    refine ⟨_, PSs.nox (pss_one (ps_fldaug (pv 0) pe_int in_add)), ?_⟩
    refine ⟨_, rfl, p, _, dx, _, _, rfl, h1, T.cl_Incoming, T.n_Incoming_count, inf_count _, _, _, rfl, rfl, dx, _, h1, (by show 1 < 1000; decide), ?_⟩
    exact k _ ⟨dx, Eq.trans upd_same (congrArg (fun q => some (HO.ins (cI K) dx q)) (inf_put z (z + 1)))⟩ fun b o e hb => by rw [upd_ne hb]; exact e
theorem ok_law_is_integer (T : Txt K mg) : FnOk P w K mg base CX0 1 (He.ga K "_law_is_integer") T.fd_law_is_integer ["actual"] spIsInt := by
  refine T.F_law_is_integer.ok sc_law_is_integer (fun vs H Q E h => ?_) (fun cdv A outer s H vs Q E hr h => ?_)
  · obtain ⟨z, rfl, _⟩ := h
    rfl
  · obtain ⟨z, rfl, k⟩ := h
    refine ⟨_, PSs.nox (pss_one (ps_ret (pe_and (pe_callB call_isi (by rfl) T.z_isinstance (by decide +kernel) (pa_cons (pv 0) (pa_cons (pe_bltn (v := .ty "int") (by rfl) T.z_int (by decide +kernel) rfl) pa_nil))) (pe_one (pe_not (pe_callB call_isi (by rfl) T.z_isinstance (by decide +kernel) (pa_cons (pv 0) (pa_cons (pe_bltn (v := .ty "bool") (by rfl) T.z_bool (by decide +kernel) rfl) pa_nil)))))))), ?_⟩
    refine ⟨_, rfl, _, _, _, _, true, rfl, .ty _, .base (.int _), kit_ty (by decide +kernel), _, rfl, iteT ?_⟩
    exact ⟨_, rfl, _, _, _, _, false, rfl, .ty _, .base (.int _), kit_ty (by decide +kernel), _, rfl, k⟩
theorem ok_law_number (T : Txt K mg) : FnOk P w K mg base CX0 1 (He.ga K "_law_number") T.fd_law_number ["cell", "k"] spNumber := by
  refine T.F_law_number.ok sc_law_number (fun vs H Q E h => ?_) (fun cdv A outer s H vs Q E hr h => ?_)
  · obtain ⟨z, k, rfl, _⟩ := h
    rfl
  · obtain ⟨z, j, rfl, k⟩ := h
    refine ⟨_, PSs.nox (pss_cons (ps_if (pt_cmpR op_ge (pv 0) (pe_op op_pow pe_int pe_int) (nomark _))
      (pss_one (ps_ret (pe_op op_sub (pv 0) (pe_op op_pow pe_int pe_int))))
      pss_nil)
    (pss_cons (ps_set (i := 2) sc_law_number.nd rfl (Or.inl rfl) (pe_op op_mod (pe_callTy call_int1 (by rfl) T.z_int (by decide +kernel) (pa_cons (pe_op op_add (pe_op op_add (pe_op op_mul (pv 0) pe_int) (pe_op op_mul (pv 1) pe_int)) pe_int) pa_nil)) pe_int))
    (pss_cons (ps_set (i := 3) sc_law_number.nd rfl (Or.inl rfl) (pe_op op_mod (pe_callTy call_int1 (by rfl) T.z_int (by decide +kernel) (pa_cons (pe_op op_add (pe_op op_mul (pv 2) (pe_op op_add (pe_op op_add (pe_op op_fdiv (pv 2) pe_int) (pv 1)) pe_int)) pe_int) pa_nil)) pe_int))
    (pss_one (ps_ret (pe_op op_add (pv 2) (pe_op op_mul (pv 3) pe_int))))))), ?_⟩
    refine ⟨_, rfl, _, _, rfl, rfl, ⟨by decide, by decide, by decide⟩, _, _, rfl, rfl, _, rfl, ?_⟩
    refine ite2 (fun _ => ?_) (fun _ => ?_)
    · exact ⟨_, rfl, _, _, rfl, rfl, ⟨by decide, by decide, by decide⟩, _, _, rfl, rfl, k _⟩
    · refine ⟨_, rfl, _, _, rfl, rfl, .inr ⟨by decide, by decide⟩, _, rfl, _, _, rfl, rfl, .inr ⟨by decide, by decide⟩, _, _, rfl, rfl, _, _, rfl, rfl, .inl ⟨_, rfl, _, _, rfl, rfl, (by show (0 : Int) < 2147483647; decide), ?_⟩⟩
      refine ⟨_, rfl, _, rfl, _, _, rfl, rfl, ⟨by decide, by decide⟩, _, rfl, _, _, rfl, rfl, _, _, rfl, rfl, _, _, rfl, rfl, .inl ⟨by omega, by omega⟩, _, _, rfl, rfl, .inl ⟨_, rfl, _, _, rfl, rfl, (by show (0 : Int) < 2147483629; decide), ?_⟩⟩
      exact ⟨_, rfl, _, rfl, _, _, rfl, rfl, .inr ⟨by decide, by decide⟩, _, _, rfl, rfl, k _⟩

/-- the numbers that an end is asked for -/
def nums_of (z large : Int) : List V := [V.int (z + 1), V.int z, V.int (z + 2), V.int 0, V.int 1, V.int (large % (z + 3)), V.int large, V.int (-large), V.int (-1 - z), V.int (z + 1)]
theorem nums_int {z large : Int} : ∀ v ∈ nums_of z large, ∃ i : Int, v = V.int i := by
  intro v hv
  simp only [nums_of, List.mem_cons, List.not_mem_nil, or_false] at hv
  rcases hv with h | h | h | h | h | h | h | h | h | h <;> exact ⟨_, h⟩
theorem ok_law_holds (T : Txt K mg) : FnOk P w K mg base CX0 2 (He.ga K "_law_holds") T.fd_law_holds ["end", "many", "part"] (spHolds K) := by
  refine T.F_law_holds.ok sc_law_holds (fun vs H Q E h => ?_) (fun cdv A outer s H vs Q E hr h => ?_)
  · obtain ⟨p, z, part, rfl, _⟩ := h
    rfl
  · obtain ⟨p, z, part, rfl, ⟨dx, h1⟩, z0, k⟩ := h
    refine ⟨_, PSs.nox (pss_cons (ps_set (i := 3) sc_law_holds.nd rfl (Or.inl rfl) (pe_op op_mod (pe_callTy call_int1 (by rfl) T.z_int (by decide +kernel) (pa_cons (pv 2) pa_nil)) (pe_op op_pow pe_int pe_int)))
    (pss_cons (ps_set (i := 4) sc_law_holds.nd rfl (Or.inl rfl) (pe_lst (pa_cons (pe_op op_add (pv 1) pe_int) (pa_cons (pv 1) (pa_cons (pe_op op_add (pv 1) pe_int) (pa_cons pe_int (pa_cons pe_int (pa_cons (pe_op op_mod (pv 3) (pe_op op_add (pv 1) pe_int)) (pa_cons (pv 3) (pa_cons (pe_un un_neg (pv 3)) (pa_cons (pe_op op_sub (pe_un un_neg pe_int) (pv 1)) (pa_cons (pe_op op_add (pv 1) pe_int) pa_nil))))))))))))
    (pss_cons (ps_for PassesOwn.never rfl (pi_list (pv 4)) (pg_name (i := 5) sc_law_holds.nd rfl (Or.inl rfl))
      (pss_cons (ps_if (PW.pt (pw_or (pt_not (pt_val (pe_call (ok_law_is_integer T) (hr.mono (by decide)) (by rfl) T.g_law_is_integer T.F_law_is_integer.kp T.b_law_is_integer .nil pass0 (pa_cons (pe_fld (pv 0) rfl) pa_nil)))) (pw_or1 (pt_cmpR op_ne (pe_fld (pv 0) rfl) (pv 1) (nomark _)))))
        (pss_one (ps_ret pe_bl))
        pss_nil)
      (pss_cons (ps_set (i := 6) sc_law_holds.nd rfl (Or.inl rfl) (pe_meth (pv 0) T.cl_Incoming T.m_Incoming_accepts (ok_Incoming_accepts T) (hr.mono (by decide)) T.b_Incoming_accepts .nil pass0 (pa_cons (pv 5) pa_nil)))
      (pss_one (ps_if (PW.pt (pw_or (pt_not (pt_val (pe_callB call_isi (by rfl) T.z_isinstance (by decide +kernel) (pa_cons (pv 6) (pa_cons (pe_bltn (v := .ty "bool") (by rfl) T.z_bool (by decide +kernel) rfl) pa_nil))))) (pw_or1 (pt_cmpR op_ne (pv 6) (pe_cmpR op_eq (pv 5) (pe_op op_add (pv 1) pe_int) (nomark _)) (nomark _)))))
        (pss_one (ps_ret pe_bl))
        pss_nil)))))
    (pss_one (ps_ret pe_bl))))), ?_⟩
    refine ⟨_, rfl, .inl ⟨_, rfl, _, _, rfl, rfl, ⟨by decide, by decide, by decide⟩, _, _, rfl, rfl, (by show (0 : Int) < 10 ^ Int.toNat 30; decide +kernel), ?_⟩⟩
    refine ⟨_, rfl, _, _, rfl, rfl, _, rfl, _, rfl, _, _, rfl, rfl, _, rfl, _, rfl, _, _, rfl, rfl, _, _, rfl, rfl, (by show (0 : Int) < z + 3; omega), _, rfl, _, rfl, _, rfl, _, rfl, _, rfl, _, _, rfl, rfl, _, rfl, _, _, rfl, rfl, (by show 10 ≤ sizeLine; decide), fun l hl => ?_⟩
    have npl : p ≠ l := ne_of_none h1 hl
    obtain ⟨nums, hn⟩ : ∃ nums : List V, nums = nums_of z (part % 10 ^ Int.toNat 30) := ⟨_, rfl⟩
    have hints : ∀ v ∈ nums, ∃ i : Int, v = V.int i := by
      intro v hv
      rw [hn] at hv
      exact nums_int v hv
    have h1' : (upd H l (.lst nums)) p = some (.ins (cI K) dx (inf z)) := by rw [upd_ne npl]; exact h1
    show gName 4 (.ref l) _ (upd H l (.lst (nums_of z (part % 10 ^ Int.toNat 30)))) _
    rw [← hn]
    refine ⟨_, rfl, l, rfl, ⟨_, SqL.of upd_same⟩, for_list (K := K) (a := l) (xs := nums) (fun i σ H2 => ∃ (v u : Option V), σ = [some (.ref p), some (.int z), some (.int part), some (.int (part % 10 ^ Int.toNat 30)), some (.ref l), v, u] ∧ H2 = upd H l (.lst nums))
      ⟨none, none, rfl, rfl⟩ (fun i σ H2 _ ⟨_, _, _, e⟩ => by rw [e]; exact SqL.of upd_same) ?_ ?_⟩
    · rintro i y σ H2 hi ⟨v, u, rfl, rfl⟩
      obtain ⟨n, rfl⟩ := hints y (List.mem_of_getElem? hi)
      refine ⟨_, rfl, p, _, dx, _, _, rfl, h1', T.cl_Incoming, T.n_Incoming_count, inf_count _, z, rfl, _, rfl, iteF ?_⟩
      refine ⟨_, rfl, p, _, dx, _, _, rfl, h1', T.cl_Incoming, T.n_Incoming_count, inf_count _, _, rfl, rfl, _, rfl, iteNS rfl ?_⟩
      refine ⟨_, rfl, p, dx, _, rfl, h1', inf_no _ (by decide +kernel), _, rfl, p, z, n, rfl, ⟨dx, h1'⟩, ?_⟩
      refine ⟨_, rfl, _, _, _, _, true, rfl, .ty _, .base (.bl _), kit_ty (by decide +kernel), _, rfl, iteF ?_⟩
      refine ⟨_, rfl, _, rfl, _, rfl, _, _, rfl, rfl, rfl, rfl, _, rfl, iteNS rfl ?_⟩
      exact ⟨_, _, rfl, rfl⟩
    · rintro σ H2 ⟨v, u, rfl, rfl⟩
      exact k _ fun b o e => by rw [upd_ne (ne_of_none e hl)]; exact e

/-- two ends stand at xs, with the counts ms, which the list at lm holds -/
structure Two (C : Addr) (H : Hp) (le lm : Addr) (xs : List Addr) (ms : List Int) : Prop where
  l1 : H le = some (.lst (xs.map V.ref))
  l2 : H lm = some (.lst (ms.map V.int))
  nd : xs.Nodup
  n1 : xs.length = 2
  n2 : ms.length = 2
  nn : ∀ z ∈ ms, 0 ≤ z
  at_ : ∀ (j : Nat) (a : Addr), xs[j]? = some a → ∃ z, ms[j]? = some z ∧ InAt C H a z
theorem Two.get {C : Addr} {H : Hp} {le lm : Addr} {xs : List Addr} {ms : List Int} (R : Two C H le lm xs ms) {j : Nat} (hj : j < 2) : ∃ a z, xs[j]? = some a ∧ ms[j]? = some z ∧ 0 ≤ z ∧ InAt C H a z := by
  have h1 : j < xs.length := by rw [R.n1]; exact hj
  obtain ⟨z, hz, hI⟩ := R.at_ j xs[j] (List.getElem?_eq_getElem h1)
  exact ⟨xs[j], z, List.getElem?_eq_getElem h1, hz, R.nn z (List.mem_of_getElem? hz), hI⟩
theorem Two.same {C : Addr} {H H' : Hp} {le lm : Addr} {xs : List Addr} {ms : List Int} (R : Two C H le lm xs ms) (s : Same H H') : Two C H' le lm xs ms :=
  ⟨s _ _ R.l1, s _ _ R.l2, R.nd, R.n1, R.n2, R.nn, fun j a h => by
    obtain ⟨z, hz, dx, hI⟩ := R.at_ j a h
    exact ⟨z, hz, dx, s _ _ hI⟩⟩
theorem at_map {α : Type} {f : α → V} {xs : List α} {i : Int} {j : Nat} {a : α} (e : i = (j : Int)) (h : xs[j]? = some a) : atI (xs.map f) i = some (f a) :=
  at_of e (by rw [List.getElem?_map, h]; all_goals rfl)
/-- one end has accepted one letter more: the end first, then its place in the list -/
theorem Two.step {C : Addr} {H H1 : Hp} {le lm : Addr} {xs : List Addr} {ms : List Int} (R : Two C H le lm xs ms) {j : Nat} {a : Addr} {z : Int} (ha : xs[j]? = some a) (hz : ms[j]? = some z)
    (hI : InAt C H1 a (z + 1)) (kp : ∀ b o, H b = some o → b ≠ a → H1 b = some o) : Two C (upd H1 lm (.lst ((ms.set j (z + 1)).map V.int))) le lm xs (ms.set j (z + 1)) := by
  obtain ⟨z', hz', dx0, hI0⟩ := R.at_ j a ha
  obtain ⟨dx, hI⟩ := hI
  have nle : le ≠ a := ne_of R.l1 hI0 (by intro q; cases q)
  have nlm : lm ≠ a := ne_of R.l2 hI0 (by intro q; cases q)
  have nll : le ≠ lm := ne_of R.l1 R.l2 (by
    intro q
    have q2 : xs.map V.ref = ms.map V.int := by injection q
    have e1 : (xs.map V.ref)[j]? = some (V.ref a) := by rw [List.getElem?_map, ha]; all_goals rfl
    have e2 : (ms.map V.int)[j]? = some (V.int z) := by rw [List.getElem?_map, hz]; all_goals rfl
    rw [q2, e2] at e1
    cases e1)
  refine ⟨by rw [upd_ne nll]; exact kp _ _ R.l1 nle, upd_same, R.nd, R.n1, by rw [List.length_set]; exact R.n2, fun y hy => ?_, fun i b hb => ?_⟩
  · rcases List.mem_or_eq_of_mem_set hy with h | h
    · exact R.nn y h
    · have := R.nn z (List.mem_of_getElem? hz)
      omega
  · obtain ⟨y, hy, dy, hY⟩ := R.at_ i b hb
    by_cases e : i = j
    · subst e
      have eb : b = a := Option.some.inj (hb.symm.trans ha)
      subst eb
      exact ⟨z + 1, List.getElem?_set_self (List.getElem?_eq_some_iff.mp hz).1, dx, by rw [upd_ne nlm.symm]; exact hI⟩
    · have nba : b ≠ a := fun q => e (nd_ix R.nd hb (by rw [q]; exact ha))
      have nbl : b ≠ lm := ne_of hY R.l2 (by intro q; cases q)
      exact ⟨y, by rw [List.getElem?_set_ne (fun q => e q.symm)]; exact hy, dy, by rw [upd_ne nbl]; exact kp _ _ hY nba⟩

theorem ok_law (T : Txt K mg) : FnOk P w K mg base CX0 3 (He.ga K "law") T.fd_law ["script"] (spLaw K) := by
  refine T.F_law.ok sc_law (fun vs H Q E h => ?_) (fun cdv A outer s H vs Q E hr h => ?_)
  · obtain ⟨a, ns, rfl, _⟩ := h
    rfl
  · obtain ⟨a, ns, rfl, hS, hlen, k⟩ := h
    refine ⟨_, PSs.nox (pss_cons (ps_set (i := 1) sc_law.nd rfl (Or.inl rfl) (pe_lst (pa_cons (pe_make0 T.mk_Incoming (ok_Incoming_init T) (hr.mono (by decide)) (by rfl) T.mg_Incoming T.b_Incoming_init .nil pass0) (pa_cons (pe_make0 T.mk_Incoming (ok_Incoming_init T) (hr.mono (by decide)) (by rfl) T.mg_Incoming T.b_Incoming_init .nil pass0) pa_nil))))
    (pss_cons (ps_set (i := 2) sc_law.nd rfl (Or.inl rfl) (pe_lst (pa_cons pe_int (pa_cons pe_int pa_nil))))
    (pss_cons (ps_if (pt_not (pt_val (pe_call (ok_law_holds T) (hr.mono (by decide)) (by rfl) T.g_law_holds T.F_law_holds.kp T.b_law_holds .nil pass0 (pa_cons (pe_ix ix_list (pv 1) pe_int (fun _ _ => rfl)) (pa_cons pe_int (pa_cons pe_int pa_nil))))))
      (pss_one (ps_ret pe_bl))
      pss_nil)
    (pss_cons (ps_for PassesOwn.never rfl (pi_range1 (by rfl) T.z_range (pa_cons (pe_callB call_len_seq (by rfl) T.z_len (by decide +kernel) (pa_cons (pv 0) pa_nil)) pa_nil)) (pg_name (i := 3) sc_law.nd rfl (Or.inl rfl))
      (pss_cons (ps_set (i := 4) sc_law.nd rfl (Or.inl rfl) (pe_call (ok_law_number T) (hr.mono (by decide)) (by rfl) T.g_law_number T.F_law_number.kp T.b_law_number .nil pass0 (pa_cons (pe_ix ix_list (pv 0) (pv 3) (fun _ _ => rfl)) (pa_cons (pv 3) pa_nil))))
      (pss_cons (ps_set (i := 5) sc_law.nd rfl (Or.inl rfl) (pe_op op_mod (pe_callTy call_int1 (by rfl) T.z_int (by decide +kernel) (pa_cons (pv 4) pa_nil)) pe_int))
      (pss_cons (ps_set (i := 6) sc_law.nd rfl (Or.inl rfl) (pe_op op_mod (pe_callTy call_int1 (by rfl) T.z_int (by decide +kernel) (pa_cons (pe_op op_fdiv (pv 4) pe_int) pa_nil)) pe_int))
      (C8.pss_cut (ps_if (pt_cmpR op_eq (pe_op op_mod (pe_callTy call_int1 (by rfl) T.z_int (by decide +kernel) (pa_cons (pe_op op_fdiv (pv 4) pe_int) pa_nil)) pe_int) pe_int (nomark _))
        (pss_one (ps_set (i := 6) sc_law.nd rfl (Or.inl rfl) (pe_op op_mod (pe_callTy call_int1 (by rfl) T.z_int (by decide +kernel) (pa_cons (pe_op op_fdiv (pv 4) pe_int) pa_nil)) pe_int)))
        pss_nil)
      (pss_cons (ps_for PassesOwn.never rfl (pi_range1 (by rfl) T.z_range (pa_cons (pv 6) pa_nil)) (pg_name (i := 7) sc_law.nd rfl (Or.inl rfl))
        (pss_cons (ps_expr (pe_meth0 (pe_ix ix_list (pv 1) (pv 5) (fun _ _ => rfl)) T.cl_Incoming T.m_Incoming_accept (ok_Incoming_accept T) (hr.mono (by decide)) T.b_Incoming_accept .nil pass0))
        (pss_one (ps_asg (pe_op op_add (pe_ix ix_list (pv 2) (pv 5) (fun _ _ => rfl)) pe_int) (pg_sub (pv 2) (pv 5) set_list)))))
      (pss_cons (ps_if (pt_not (pt_val (pe_call (ok_law_holds T) (hr.mono (by decide)) (by rfl) T.g_law_holds T.F_law_holds.kp T.b_law_holds .nil pass0 (pa_cons (pe_ix ix_list (pv 1) (pv 5) (fun _ _ => rfl)) (pa_cons (pe_ix ix_list (pv 2) (pv 5) (fun _ _ => rfl)) (pa_cons (pe_op op_fdiv (pv 4) pe_int) pa_nil))))))
        (pss_one (ps_ret pe_bl))
        pss_nil)
      (pss_one (ps_if (pt_not (pt_val (pe_call (ok_law_holds T) (hr.mono (by decide)) (by rfl) T.g_law_holds T.F_law_holds.kp T.b_law_holds .nil pass0 (pa_cons (pe_ix ix_list (pv 1) (pe_op op_sub pe_int (pv 5)) (fun _ _ => rfl)) (pa_cons (pe_ix ix_list (pv 2) (pe_op op_sub pe_int (pv 5)) (fun _ _ => rfl)) (pa_cons (pe_op op_fdiv (pv 4) pe_int) pa_nil))))))
        (pss_one (ps_ret pe_bl))
        pss_nil)))))))))
    (pss_one (ps_ret pe_bl)))))), ?_⟩
    -- ends = [Incoming(), Incoming()]
    intro x0 d0 nx0 nd0 e0
    refine ⟨x0, d0, rfl, upd_same, fun H1 I0 k1 => ⟨rfl, ?_⟩⟩
    intro x1 d1 nx1 nd1 e1
    refine ⟨x1, d1, rfl, upd_same, fun H2 I1 k2 => ⟨rfl, ?_⟩⟩
    have s1 : Same H H1 := Same.made nx0 nd0 k1
    have s2 : Same H1 H2 := Same.made nx1 nd1 k2
    obtain ⟨dy0, I0⟩ := I0
    obtain ⟨dy1, I1⟩ := I1
    have a01 : x0 ≠ x1 := ne_of_none I0 nx1
    have I0' := s2 _ _ I0
    refine ⟨(by show 2 ≤ sizeLine; decide), fun le hle => ?_⟩
    refine ⟨(by show 2 ≤ sizeLine; decide), fun lm hlm => ?_⟩
    have s3 : Same H2 (upd (upd H2 le (.lst [.ref x0, .ref x1])) lm (.lst [.int 0, .int 0])) := fun b o e => by
      have e' : (upd H2 le (.lst [.ref x0, .ref x1])) b = some o := by rw [upd_ne (ne_of_none e hle)]; exact e
      rw [upd_ne (ne_of_none e' hlm)]
      exact e'
    have nll : le ≠ lm := ne_of_none (o := .lst [.ref x0, .ref x1]) upd_same hlm
    have R0 : Two (cI K) (upd (upd H2 le (.lst [.ref x0, .ref x1])) lm (.lst [.int 0, .int 0])) le lm [x0, x1] [0, 0] := by
      refine ⟨by rw [upd_ne nll, upd_same]; rfl, upd_same, List.nodup_cons.mpr ⟨by simp [a01], by simp⟩, rfl, rfl, by simp, fun j b h => ?_⟩
      match j, h with
      | 0, h =>
        have e : x0 = b := Option.some.inj h
        subst e
        exact ⟨0, rfl, dy0, s3 _ _ I0'⟩
      | 1, h =>
        have e : x1 = b := Option.some.inj h
        subst e
        exact ⟨0, rfl, dy1, s3 _ _ I1⟩
      | j + 2, h => simp at h
    have sH := (s1.trans s2).trans s3
    have flm : H lm = Option.none := ((s1.trans s2).trans (fun b o e => by rw [upd_ne (ne_of_none e hle)]; exact e)).free hlm
    have fxs : ∀ q ∈ [x0, x1], H q = Option.none := by
      intro q hq
      simp only [List.mem_cons, List.not_mem_nil, or_false] at hq
      rcases hq with rfl | rfl
      · exact nx0
      · exact s1.free nx1
    revert R0 sH
    generalize (upd (upd H2 le (.lst [.ref x0, .ref x1])) lm (.lst [.int 0, .int 0])) = H3
    intro R0 sH
    -- if not _law_holds(ends[1], 0, 7)
    obtain ⟨q1, z1, hq1, hz1, _, hI1⟩ := R0.get (j := 1) (by decide)
    have ez1 : z1 = 0 := (Option.some.inj hz1).symm
    subst ez1
    refine ⟨_, rfl, le, _, _, _, rfl, rfl, SqL.of R0.l1, at_map (j := 1) rfl hq1, q1, 0, 7, rfl, hI1, Int.le_refl _, fun H4 s4 => ?_⟩
    refine ⟨_, rfl, iteF ?_⟩
    -- for k in range(len(script))
    have sH4 := sH.trans s4
    refine ⟨_, rfl, a, _, rfl, .inl (sH4.seq hS), ?_⟩
    have el : (ns.map V.int).length = ns.length := List.length_map ..
    refine ⟨_, rfl, by rw [el]; omega, by rw [el]; omega, ?_⟩
    refine for_range (lo := 0) (n := ((ns.map V.int).length : Int).toNat) (fun i σ H5 => ∃ (ms : List Int) (v3 v4 v5 v6 v7 : Option V), σ = [some (.ref a), some (.ref le), some (.ref lm), v3, v4, v5, v6, v7] ∧ Same H H5 ∧ Two (cI K) H5 le lm [x0, x1] ms)
      ⟨[0, 0], none, none, none, none, none, rfl, sH4, R0.same s4⟩ ?_ ?_
    · rintro i σ H5 hi ⟨ms, v3, v4, v5, v6, v7, rfl, s5, R5⟩
      have hil : i < ns.length := by rw [el] at hi; omega
      obtain ⟨c, hc⟩ : ∃ c, ns[i]? = some c := ⟨ns[i], List.getElem?_eq_getElem hil⟩
      -- part = _law_number(script[k], k)
      refine ⟨_, rfl, _, rfl, a, _, _, _, rfl, rfl, s5.seq hS, at_map (j := i) (by omega) hc, _, rfl, _, _, rfl, fun part => ?_⟩
      -- at = int(part) % 2
      refine ⟨_, rfl, .inl ⟨_, rfl, _, _, rfl, rfl, (by show (0 : Int) < 2; decide), ?_⟩⟩
      obtain ⟨j, hj, ej⟩ : ∃ j : Nat, j < 2 ∧ part % 2 = (j : Int) := ⟨(part % 2).toNat, by omega, by omega⟩
      show gName 5 (.int (part % 2)) _ _ _
      rw [ej]
      -- count = int(part // 2) % 4
      refine ⟨_, rfl, _, _, rfl, rfl, ⟨by decide, by decide⟩, .inl ⟨_, rfl, _, _, rfl, rfl, (by show (0 : Int) < 4; decide), ?_⟩⟩
      refine ⟨fun σ H' => ∃ count : Int, 0 ≤ count ∧ count < 200 ∧ σ = [some (.ref a), some (.ref le), some (.ref lm), some (.int (0 + i)), some (.int part), some (.int j), some (.int count), v7] ∧ H' = H5, ?_, ?_⟩
      · refine ⟨_, rfl, _, _, rfl, rfl, ⟨by decide, by decide⟩, .inl ⟨_, rfl, _, _, rfl, rfl, (by show (0 : Int) < 16; decide), rfl, _, rfl, ?_⟩⟩
        refine ite2 (fun _ => ?_) (fun _ => ?_)
        · refine ⟨_, rfl, _, _, rfl, rfl, ⟨by decide, by decide⟩, .inl ⟨_, rfl, _, _, rfl, rfl, (by show (0 : Int) < 200; decide), ?_⟩⟩
          exact ⟨_, Int.emod_nonneg _ (by decide), Int.emod_lt_of_pos _ (by decide), rfl, rfl⟩
        · exact ⟨_, Int.emod_nonneg _ (by decide), Int.lt_trans (Int.emod_lt_of_pos _ (by decide)) (by decide), rfl, rfl⟩
      rintro σ H' ⟨count, c0, c1, rfl, rfl⟩
      -- for j in range(count)
      refine ⟨_, rfl, _, rfl, by omega, by omega, ?_⟩
      refine for_range (lo := 0) (n := count.toNat) (fun i2 σ H6 => ∃ (ms : List Int) (v7 : Option V), σ = [some (.ref a), some (.ref le), some (.ref lm), some (.int (0 + i)), some (.int part), some (.int j), some (.int count), v7] ∧ Same H H6 ∧ Two (cI K) H6 le lm [x0, x1] ms)
        ⟨ms, v7, rfl, s5, R5⟩ ?_ ?_
      · rintro i2 σ H6 hi2 ⟨ms, v7, rfl, s6, R6⟩
        obtain ⟨q, z, hq, hz, z0, dq, hI⟩ := R6.get hj
        refine ⟨_, rfl, _, rfl, le, _, _, _, rfl, rfl, SqL.of R6.l1, at_map (j := j) rfl hq, q, dq, _, rfl, hI, inf_no _ (by decide +kernel), q, z, rfl, ⟨dq, hI⟩, fun H7 I7 k7 => ?_⟩
        have n2 : lm ≠ q := ne_of R6.l2 hI (by intro w; cases w)
        have l7 := k7 _ _ R6.l2 n2
        refine ⟨_, rfl, _, rfl, lm, _, _, _, rfl, rfl, SqL.of l7, at_map (j := j) rfl hz, _, _, rfl, rfl, _, rfl, _, rfl, lm, _, _, j, rfl, rfl, l7, ?_, ?_⟩
        · have : j < (ms.map V.int).length := by rw [List.length_map, R6.n2]; exact hj
          unfold ixN
          rw [if_pos (by omega), if_pos (by omega)]
          simp
        · have R7 := R6.step hq hz I7 k7
          rw [List.map_set] at R7
          refine ⟨ms.set j (z + 1), _, rfl, fun b o e => ?_, R7⟩
          rw [upd_ne (ne_of_none e flm)]
          exact k7 _ _ (s6 _ _ e) (ne_of_none e (fxs q (List.mem_of_getElem? hq)))
      · rintro σ H6 ⟨ms, v7, rfl, s6, R6⟩
        -- if not _law_holds(ends[at], many[at], part // 128)
        obtain ⟨q, z, hq, hz, z0, hI⟩ := R6.get hj
        refine ⟨_, rfl, _, rfl, le, _, _, _, rfl, rfl, SqL.of R6.l1, at_map (j := j) rfl hq, _, rfl, _, rfl, lm, _, _, _, rfl, rfl, SqL.of R6.l2, at_map (j := j) rfl hz, _, rfl, _, _, rfl, rfl, ⟨by decide, by decide⟩, q, z, _, rfl, hI, z0, fun H7 s7 => ?_⟩
        refine ⟨_, rfl, iteF ?_⟩
        have R7 := R6.same s7
        -- if not _law_holds(ends[1 - at], many[1 - at], part // 256)
        have hj2 : 1 - j < 2 := by omega
        have ej2 : (1 : Int) - (j : Int) = ((1 - j : Nat) : Int) := by omega
        obtain ⟨q2, z2, hq2, hz2, z20, hI2⟩ := R7.get hj2
        refine ⟨_, rfl, _, rfl, _, _, rfl, rfl, le, _, _, _, rfl, rfl, SqL.of R7.l1, at_map ej2 hq2, _, rfl, _, rfl, _, _, rfl, rfl, lm, _, _, _, rfl, rfl, SqL.of R7.l2, at_map ej2 hz2, _, rfl, _, _, rfl, rfl, ⟨by decide, by decide⟩, q2, z2, _, rfl, hI2, z20, fun H8 s8 => ?_⟩
        refine ⟨_, rfl, iteF ?_⟩
        exact ⟨ms, _, _, _, _, _, rfl, (s6.trans s7).trans s8, R7.same s8⟩
    · rintro σ H5 ⟨ms, v3, v4, v5, v6, v7, rfl, s5, R5⟩
      exact k _
end

/-! ### the head -/
def d_Incoming_init : He.DefD := ⟨("Incoming", some "__init__"), "__init__", "Incoming.__init__", defArgs s_Incoming_init, defBody s_Incoming_init, defScope s_Incoming_init, [], []⟩
def d_Incoming_accepts : He.DefD := ⟨("Incoming", some "accepts"), "accepts", "Incoming.accepts", defArgs s_Incoming_accepts, defBody s_Incoming_accepts, defScope s_Incoming_accepts, [], []⟩
def d_Incoming_accept : He.DefD := ⟨("Incoming", some "accept"), "accept", "Incoming.accept", defArgs s_Incoming_accept, defBody s_Incoming_accept, defScope s_Incoming_accept, [], []⟩
def d_law_is_integer : He.DefD := ⟨("_law_is_integer", none), "_law_is_integer", "_law_is_integer", defArgs s_law_is_integer, defBody s_law_is_integer, defScope s_law_is_integer, [], []⟩
def d_law_number : He.DefD := ⟨("_law_number", none), "_law_number", "_law_number", defArgs s_law_number, defBody s_law_number, defScope s_law_number, [], []⟩
def d_law_holds : He.DefD := ⟨("_law_holds", none), "_law_holds", "_law_holds", defArgs s_law_holds, defBody s_law_holds, defScope s_law_holds, [], []⟩
def d_law : He.DefD := ⟨("law", none), "law", "law", defArgs s_law, defBody s_law, defScope s_law, [], []⟩
def fn : List He.DefD := [d_Incoming_init, d_Incoming_accepts, d_Incoming_accept, d_law_is_integer, d_law_number, d_law_holds, d_law]
def fa : List He.Fa := [.glo "Incoming", .cls "Incoming", .noat "Incoming" "count", .mkr "Incoming", .meth "Incoming" "accepts", .meth "Incoming" "accept", .glo "_law_is_integer", .glo "_law_number", .glo "_law_holds", .glo "law", .free "isinstance", .free "int", .free "bool", .free "range", .free "len"]
abbrev R : PySem.W.OpenRow := PySem.W.OpenLaw.row PySem.Challenge.rw_farheap_k02_incoming_counts
abbrev hk : PySem.W.Hook := He.hookD 5 fa fn
def ob (s : PySem.W.SharedT) : He.AlD := He.obsDG 5 fa fn (HandSHeadRun.getT s)
theorem ob_eq (s : PySem.W.SharedT) : ob s = hk.obs s.abs := He.obsDG_eq (HandSHeadRun.getT_eq s)
theorem run (w : World) : HandSHeadRun.RunEq R (PySem.W.view R.prog [6]) hk ob 600 ["Incoming", "_law_is_integer", "_law_number", "_law_holds"] w := by
  intro os
  kernel_rfl
theorem mkTxt {K : PySem.W.Frag} {h : Heap} {mg : Str → Option Value} (X : K.In h) (G : h.Ns mainGlobals mg) (c : He.SaysD fa fn K) : Nonempty (Txt K mg) := by
  obtain ⟨fd_Incoming_init, F_Incoming_init⟩ := c.def_ 0 (d := d_Incoming_init) rfl
  obtain ⟨fd_Incoming_accepts, F_Incoming_accepts⟩ := c.def_ 1 (d := d_Incoming_accepts) rfl
  obtain ⟨fd_Incoming_accept, F_Incoming_accept⟩ := c.def_ 2 (d := d_Incoming_accept) rfl
  obtain ⟨fd_law_is_integer, F_law_is_integer⟩ := c.def_ 3 (d := d_law_is_integer) rfl
  obtain ⟨fd_law_number, F_law_number⟩ := c.def_ 4 (d := d_law_number) rfl
  obtain ⟨fd_law_holds, F_law_holds⟩ := c.def_ 5 (d := d_law_holds) rfl
  obtain ⟨fd_law, F_law⟩ := c.def_ 6 (d := d_law) rfl
  exact ⟨⟨He.glo_ok X G (c.fact 0 (f := .glo "Incoming") rfl), He.cls_ok (c.fact 1 (f := .cls "Incoming") rfl), He.noat_ok (c.fact 2 (f := .noat "Incoming" "count") rfl), He.mkr_ok (c.fact 3 (f := .mkr "Incoming") rfl), He.meth_ok (c.fact 4 (f := .meth "Incoming" "accepts") rfl), He.meth_ok (c.fact 5 (f := .meth "Incoming" "accept") rfl), He.glo_ok X G (c.fact 6 (f := .glo "_law_is_integer") rfl), He.glo_ok X G (c.fact 7 (f := .glo "_law_number") rfl), He.glo_ok X G (c.fact 8 (f := .glo "_law_holds") rfl), He.glo_ok X G (c.fact 9 (f := .glo "law") rfl), He.free_ok X G (c.fact 10 (f := .free "isinstance") rfl), He.free_ok X G (c.fact 11 (f := .free "int") rfl), He.free_ok X G (c.fact 12 (f := .free "bool") rfl), He.free_ok X G (c.fact 13 (f := .free "range") rfl), He.free_ok X G (c.fact 14 (f := .free "len") rfl), fd_Incoming_init, F_Incoming_init, fd_Incoming_accepts, F_Incoming_accepts, fd_Incoming_accept, F_Incoming_accept, fd_law_is_integer, F_law_is_integer, fd_law_number, F_law_number, fd_law_holds, F_law_holds, fd_law, F_law⟩⟩
theorem facts {P : Program} {w : World} {K : PySem.W.Frag} {h : Heap} {mg : Str → Option Value} {f : Addr} (X : K.In h) (G : h.Ns mainGlobals mg) (hfa : mg ("law" : Str) = some (.ref f)) (c : He.SaysD fa fn K) :
    ∃ fd : FuncData, (∀ (s : Shared) (v : Value), BindsTo s fd ⟨[v], []⟩ [("script", v)]) ∧ ∀ base : Heap, K.In base → base.Ns mainGlobals mg → FnOk P w K mg base CX0 3 f fd ["script"] (spLaw K) := by
  obtain ⟨T⟩ := mkTxt X G c
  have e := hfa.symm.trans T.g_law
  cases e
  have b := FunD.bindsA (ps := ["script"]) T.F_law fun _ _ _ _ _ _ us hl => match us, hl with | [_], _ => rfl
  exact ⟨T.fd_law, fun s v => b s [v] rfl, fun base _ _ => ok_law T⟩
end K02
open PySem PySem.W PySem.Calls PyProof.Rows
set_option maxRecDepth 100000 in
set_option maxHeartbeats 0 in
theorem PySem.Challenge.cw_farheap_k02_incoming_counts_holds : PySem.Challenge.rw_farheap_k02_incoming_counts.Holds := by
  w_on; o_law
  refine HandSHeadRun.head_any (r := OpenLaw.row PySem.Challenge.rw_farheap_k02_incoming_counts) (q := view (OpenLaw.row PySem.Challenge.rw_farheap_k02_incoming_counts).prog [6]) (H := K02.hk) (ob := K02.ob) (M := 600) (loose := ["Incoming", "_law_is_integer", "_law_number", "_law_holds"]) (d := HandSHeadRun.topDef (OpenLaw.row PySem.Challenge.rw_farheap_k02_incoming_counts).prog 6) (kwd := []) K02.ob_eq
    (by kernel_rfl) (fun s => by kernel_rfl) K02.run (by kernel_rfl) (by kernel_rfl) (by kernel_rfl) (by rfl) (by first | assumption | decide +kernel) (by decide +kernel) ⟨rfl, rfl, rfl, rfl, rfl, by decide +kernel⟩ ?hw ?hc
  case hw => w_witness2
  case hc =>
    refine L2.walk_ofE (l := PySem.Challenge.rw_farheap_k02_incoming_counts) (n := 63) (k := 3) (x := "script") (CX := L2.CX0) rfl (by decide) (by kernel_rfl) ⟨rfl, by decide, by decide⟩ ?F (fun _ _ _ _ z => z)
    intro w mg fa h Y G hmg0
    obtain ⟨K, KX, c⟩ := Y
    have hmg : mg ("law" : PySem.Str) = some (.ref fa) := by
      have e : (HandSHeadRun.topDef (OpenLaw.row PySem.Challenge.rw_farheap_k02_incoming_counts).prog 6).name = ("law" : PySem.Str) := by kernel_rfl
      rw [← e]
      exact hmg0
    obtain ⟨fd, hb, hF⟩ := K02.facts (P := (PySem.Challenge.rw_farheap_k02_incoming_counts).prog) (w := w) KX G hmg c
    exact ⟨K, fd, K02.spLaw K, KX, hb, fun H a ns hl _ hS => ⟨a, ns, rfl, hS, hl, fun _ => rfl⟩, hF⟩
#print axioms PySem.Challenge.cw_farheap_k02_incoming_counts_holds
