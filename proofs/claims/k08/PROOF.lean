import PyProof.Rows.All
import Wide.All
import OpenK.AllK
import Wide.FinOn
import KE.KStateDown
import HandS.Base
import HandS.Call
import HandS.Exc
import HandS.Property
import HandS.Defaults
import HandS.Head0
import HandS.Head1
import HandS.Head2
import HandS.HeadEnd
import HandS.HeadHook1
import HandS.HeadHook2
import HandS.ForMost
import HandS.Lambda
import HandS.List
import HandS.Words
import HandS.ExcOwn
import HandS.ExcIs
import HandS.IsInst
import HandS.WordsExc
import HandS.SortRule
import HandS.MakeKwOnly
import HandS.DictComp
import HandS.Codes
import HandS.SortInts
import HandS.Conv
import KE.KDictList
import KE.KDictWalk
import KE.KDictCopyH
import HandS.TupLen
import HandS.More
import KE.KDictSum
import HandS.Style
import HandS.NoneIn
import HandS.Flow
import HandS.FStr
import HandS.Small
import PySem.Challenge.RW_farheap_k08_make_assign_reset_look
set_option Elab.async false
set_option linter.all false
set_option maxRecDepth 100000
set_option maxHeartbeats 4000000
/-! The head's facts, with facts of one's own (a Bool of the written part) and defs found by a way of one's own (a property's getter). -/
namespace Fh
open PySem PySem.Spec PyProof.Rows L2 He
/-- one def: where it stands, its text, its defaults -/
structure Dx where
  ad : PySem.W.Frag → Addr
  name : Str
  qual : Str
  params : Arguments
  body : List Stmt
  scope : Scope
  dfl : List Dv := []
  kwd : List (Str × Dv) := []
def fnX (K : PySem.W.Frag) (a : Addr) : FnW := match K.lookup a with
  | some ⟨_, _, .func fd, _⟩ => some (fd.name, fd.qualname, fd.params, fd.body, fd.scope, fd.globals, fd.closure, fd.builtins)
  | _ => none
def Dx.val (d : Dx) : FnW := some (d.name, d.qual, d.params, .stmts d.body, d.scope, mainGlobals, [], builtinsNs)
def Dx.dvs (K : PySem.W.Frag) (d : Dx) : List V := d.dfl.map (Dv.v K)
def Dx.kws (K : PySem.W.Frag) (d : Dx) : List (Str × V) := d.kwd.map fun q => (q.1, q.2.v K)
def Dx.ok (K : PySem.W.Frag) (d : Dx) : Bool := PySem.W.keepIn K (.ref (d.ad K)) && (match K.lookup (d.ad K) with
  | some ⟨_, _, .func fd, _⟩ => PySem.W.codeIn K fd.code d.qual && (dflB K fd.defaults (d.dvs K) && kwdB K fd.kwdefaults (d.kws K))
  | _ => false)
theorem Dx.funD {K : PySem.W.Frag} {d : Dx} (e : fnX K (d.ad K) = d.val) (c : d.ok K = true) : ∃ fd, FunD K d.name d.qual d.params d.body d.scope (d.dvs K) (d.kws K) (d.ad K) fd := by
  obtain ⟨kp, c2⟩ := ba c
  unfold fnX at e
  cases q : K.lookup (d.ad K) with
  | none =>
    rw [q] at c2
    cases c2
  | some o =>
    obtain ⟨oc, od, dt, osl⟩ := o
    rw [q] at c2 e
    cases dt with
    | func fd =>
      obtain ⟨n1, n2, n3, n4, n5, n6, n7, n8, n9, n10, n11, n12, n13, n14, n15⟩ := fd
      have e2 : (some (n1, n2, n3, n4, n5, n6, n7, n15) : FnW) = some (d.name, d.qual, d.params, .stmts d.body, d.scope, mainGlobals, [], builtinsNs) := e
      simp only [Option.some.injEq, Prod.mk.injEq] at e2
      obtain ⟨h1, h2, h3, h4, h5, h6, h7, h8⟩ := e2
      subst h1 h2 h3 h4 h5 h6 h7 h8
      have c3 : (PySem.W.codeIn K n13 d.qual && (dflB K n8 (d.dvs K) && kwdB K n9 (d.kws K))) = true := c2
      obtain ⟨k1, k2⟩ := ba c3
      obtain ⟨k3, k4⟩ := ba k2
      exact ⟨_, ⟨oc, od, n8, n9, n10, n11, n12, n13, n14, osl, rfl, q, k1, dflB_ok k3, kwdB_ok k4⟩, kp⟩
    | _ => cases c2
def obsX (fa : List Fa) (ex : List (PySem.W.Frag → Bool)) (fn : List Dx) (K : PySem.W.Frag) : AlD := ((fa.all fun f => f.ok K) && ((ex.all fun f => f K) && fn.all fun d => d.ok K), fn.map fun d => fnX K (d.ad K))
def valX (fn : List Dx) : AlD := (true, fn.map Dx.val)
def SaysX (fa : List Fa) (ex : List (PySem.W.Frag → Bool)) (fn : List Dx) (K : PySem.W.Frag) : Prop := obsX fa ex fn K = valX fn
def obsXG (n : Nat) (fa : List Fa) (ex : List (PySem.W.Frag → Bool)) (fn : List Dx) (g : Addr → Option Obj) : AlD := obsX fa ex fn (frG g (asD g n))
def hookX (n : Nat) (fa : List Fa) (ex : List (PySem.W.Frag → Bool)) (fn : List Dx) : PySem.W.Hook where
  α := AlD
  obs := fun s => obsXG n fa ex fn s.heap.get?
  val := fun _ => valX fn
  says := fun _ h => ∃ K : PySem.W.Frag, K.In h ∧ SaysX fa ex fn K
  of := fun _ _ e => ⟨_, frG_in, e⟩
  keeps := fun _ _ _ ⟨K, hK, c⟩ k => ⟨K, PySem.W.Frag.In.keeps hK k, c⟩
theorem obsXG_eq {n : Nat} {fa : List Fa} {ex : List (PySem.W.Frag → Bool)} {fn : List Dx} {g : Addr → Option Obj} {s : Shared} (h : ∀ a, g a = s.heap.get? a) : obsXG n fa ex fn g = (hookX n fa ex fn).obs s := by
  have e : g = s.heap.get? := funext h
  rw [e] <;> rfl
section
variable {fa : List Fa} {ex : List (PySem.W.Frag → Bool)} {fn : List Dx} {K : PySem.W.Frag}
theorem SaysX.all (c : SaysX fa ex fn K) : ((fa.all fun f => f.ok K) && ((ex.all fun f => f K) && fn.all fun d => d.ok K)) = true := congrArg (fun z : AlD => z.1) c
theorem SaysX.fact (c : SaysX fa ex fn K) (i : Nat) {f : Fa} (h : fa[i]? = some f := by rfl) : f.ok K = true := List.all_eq_true.mp (ba c.all).1 f (List.mem_of_getElem? h)
theorem SaysX.ext (c : SaysX fa ex fn K) (i : Nat) {f : PySem.W.Frag → Bool} (h : ex[i]? = some f := by rfl) : f K = true := List.all_eq_true.mp (ba (ba c.all).2).1 f (List.mem_of_getElem? h)
theorem SaysX.def_ (c : SaysX fa ex fn K) (i : Nat) {d : Dx} (h : fn[i]? = some d := by rfl) : ∃ fd, FunD K d.name d.qual d.params d.body d.scope (d.dvs K) (d.kws K) (d.ad K) fd := by
  have e : fn.map (fun d => fnX K (d.ad K)) = fn.map Dx.val := congrArg (fun z : AlD => z.2) c
  have e2 : (fn.map fun d => fnX K (d.ad K))[i]? = (fn.map Dx.val)[i]? := by rw [e]
  rw [List.getElem?_map, List.getElem?_map, h] at e2
  exact Dx.funD (Option.some.inj e2) (List.all_eq_true.mp (ba (ba c.all).2).2 d (List.mem_of_getElem? h))
end
/-! ### a property of an own class -/
/-- its getter -/
def pgA (K : PySem.W.Frag) (C : Addr) (f : Str) : Addr := match PySem.W.recIn K (ma K C f) "property" with
  | some (.ref g :: _) => g
  | _ => 0
def propB (C f : Str) (K : PySem.W.Frag) : Bool := eqO (PySem.W.findIn K (.ref (ga K C)) f) (some (some (.ref (ma K (ga K C) f)))) &&
  (eqO (PySem.W.specialIn K (.ref (ma K (ga K C) f)) "__get__") (some (some (.builtin "property.__get__"))) && (decide (PySem.W.takesIn K (.ref (ma K (ga K C) f)) = some true) && (match PySem.W.recIn K (ma K (ga K C) f) "property" with
  | some (.ref _ :: _) => true
  | _ => false)))
theorem prop_ok {K : PySem.W.Frag} {C f : Str} (h : propB C f K = true) : PropOf K (ga K C) f (ma K (ga K C) f) (pgA K (ga K C) f) := by
  obtain ⟨h1, h⟩ := ba h
  obtain ⟨h2, h⟩ := ba h
  obtain ⟨h3, h4⟩ := ba h
  refine ⟨eqO_ok h1, eqO_ok h2, of_decide_eq_true h3, ?_⟩
  unfold pgA
  cases q : PySem.W.recIn K (ma K (ga K C) f) "property" with
  | none =>
    rw [q] at h4
    cases h4
  | some l =>
    rw [q] at h4
    cases l with
    | nil => cases h4
    | cons v r =>
      cases v with
      | ref g => exact ⟨r, rfl⟩
      | _ => cases h4
end Fh

/-! What stays: all but the tables of code objects, which stay tables. -/
namespace Sx
open PySem PySem.Spec PyProof.Rows L2 LamX
def NT : HO → Bool
  | .tbl _ => false
  | _ => true
def NC : HO → Bool
  | .tbl _ => false
  | .ext _ => false
  | _ => true
/-- all but tables stays; tables stay tables; the table T.1 tells code objects of the name T.2 -/
structure Sm (T : Addr × Str) (H H' : Hp) : Prop where
  at_ : ∀ b o, H b = some o → NT o = true → H' b = some o
  isT : ∀ P ps, H P = some (.tbl ps) → ∃ ps', H' P = some (.tbl ps')
  tb : TabS H T.1 T.2 → TabS H' T.1 T.2
section
variable {T : Addr × Str} {H H' H1 H2 : Hp} {p : Addr} {o u : HO}
theorem Sm.get (s : Sm T H H') (b : Addr) (o : HO) (h : H b = some o) (nt : NT o = true := by rfl) : H' b = some o := s.at_ b o h nt
instance : CoeFun (Sm T H H') fun _ => ∀ b o, H b = some o → (nt : NT o = true := by rfl) → H' b = some o := ⟨fun s => @Sm.get _ _ _ s⟩
theorem Sm.ext (s : ∀ b o, H b = some o → H' b = some o) : Sm T H H' := ⟨fun b o h _ => s b o h, fun P ps h => ⟨ps, s _ _ h⟩, fun t => t.ext s⟩
theorem Sm.of (s : Same H H') : Sm T H H' := .ext fun b o h => s b o h
theorem Sm.refl (H : Hp) : Sm T H H := .ext fun _ _ h => h
theorem Sm.trans (a : Sm T H H1) (b : Sm T H1 H2) : Sm T H H2 := ⟨fun c o h n => b.at_ c o (a.at_ c o h n) n, fun P ps h => by
  obtain ⟨ps', h1⟩ := a.isT P ps h
  exact b.isT P ps' h1, fun t => b.tb (a.tb t)⟩
theorem Sm.free (s : Sm T H H') (h : H' p = none) : H p = none := by
  cases e : H p with
  | none => rfl
  | some o =>
    cases n : NT o with
    | true =>
      have := s.at_ p o e n
      rw [h] at this
      cases this
    | false =>
      cases o with
      | tbl ps =>
        obtain ⟨ps', h1⟩ := s.isT p ps e
        rw [h] at h1
        cases h1
      | _ => cases n
theorem Sm.new (h : H p = none) : Sm T H (upd H p o) := .ext fun b u e => by rw [upd_ne (ne_of_none e h)]; exact e
theorem Sm.put (s : Sm T H H') (h : H p = none) (hu : H' p = some u) (nc : NC u = true := by rfl) : Sm T H (upd H' p o) := by
  have nP : ∀ P ps, H' P = some (.tbl ps) → P ≠ p := fun P ps e z => by
    subst z
    rw [hu] at e
    cases e
    cases nc
  refine ⟨fun b v e n => ?_, fun P ps e => ?_, fun t => ?_⟩
  · rw [upd_ne (ne_of_none e h)]
    exact s.at_ b v e n
  · obtain ⟨ps', h1⟩ := s.isT P ps e
    exact ⟨ps', by rw [upd_ne (nP _ _ h1)]; exact h1⟩
  · obtain ⟨ps2, a1, a2, a3⟩ := s.tb t
    refine ⟨ps2, by rw [upd_ne (nP _ _ a1)]; exact a1, a2, fun pos cv hc => ?_⟩
    obtain ⟨c, e1, e2⟩ := a3 pos cv hc
    refine ⟨c, e1, ?_⟩
    rw [upd_ne]
    · exact e2
    · rintro rfl
      rw [hu] at e2
      cases e2
      cases nc
theorem Sm.tups (s : Sm T H H') : ∀ b xs, H b = some (.tup xs) → H' b = some (.tup xs) := fun b xs h => s.at_ b _ h rfl
end
end Sx
namespace Sx
open PySem PySem.Spec PyProof.Rows L2 LamX
theorem Sm.tr {T : Addr × Str} {H H1 H2 : Hp} (a : Sm T H H1) (b : Same H1 H2) : Sm T H H2 := a.trans (.of b)
end Sx
namespace Sx
open PySem PySem.Spec PyProof.Rows L2 LamX
theorem Sm.seq {T : Addr × Str} {K : PySem.W.Frag} {H H' : Hp} {a : Addr} {xs : List V} (s : Sm T H H') (h : SqL K H a xs) : SqL K H' a xs := by
  rcases h with h | h
  · rcases h with h | ⟨o, h⟩
    · exact .inl (.inl (s _ _ h))
    · exact .inl (.inr ⟨o, s _ _ h⟩)
  · exact .inr h
end Sx

/-! Data made of tuples: it stays as it is while lists and objects change. -/
namespace Fh
open PySem PySem.Spec PyProof.Rows L2
mutual
inductive TD (H : Hp) : V → PyData → Prop
  | non : TD H .non .none
  | bl (b : Bool) : TD H (.bl b) (.bool b)
  | int (i : Int) : TD H (.int i) (.int i)
  | str (x : Str) (ok : PyData.strOk x = true) : TD H (.str x) (.str x)
  | tup {a : Addr} {xs : List V} {ds : List PyData} : H a = some (.tup xs) → TDs H xs ds → TD H (.ref a) (.tuple ds)
inductive TDs (H : Hp) : List V → List PyData → Prop
  | nil : TDs H [] []
  | cons {v : V} {vs : List V} {d : PyData} {ds : List PyData} : TD H v d → TDs H vs ds → TDs H (v :: vs) (d :: ds)
end
/-- the tuples stand as they stood -/
def TSame (H H' : Hp) : Prop := ∀ b xs, H b = some (.tup xs) → H' b = some (.tup xs)
theorem TSame.refl (H : Hp) : TSame H H := fun _ _ h => h
theorem TSame.trans {H H1 H2 : Hp} (a : TSame H H1) (b : TSame H1 H2) : TSame H H2 := fun c o h => b c o (a c o h)
theorem TSame.of {H H' : Hp} (s : Same H H') : TSame H H' := fun b xs h => s b _ h
mutual
theorem TD.mono {H H' : Hp} (s : TSame H H') : ∀ {v : V} {d : PyData}, TD H v d → TD H' v d
  | _, _, .non => .non
  | _, _, .bl b => .bl b
  | _, _, .int i => .int i
  | _, _, .str x ok => .str x ok
  | _, _, .tup h hs => .tup (s _ _ h) (TDs.mono s hs)
theorem TDs.mono {H H' : Hp} (s : TSame H H') : ∀ {vs : List V} {ds : List PyData}, TDs H vs ds → TDs H' vs ds
  | _, _, .nil => .nil
  | _, _, .cons h hs => .cons (TD.mono s h) (TDs.mono s hs)
end
mutual
theorem TD.dp {K : PySem.W.Frag} {H : Hp} : ∀ {v : V} {d : PyData}, TD H v d → Dp K H v d
  | _, _, .non => .non
  | _, _, .bl b => .bl b
  | _, _, .int i => .int i
  | _, _, .str x _ => .str x
  | _, _, .tup h hs => .tup (SqT.of h) (TDs.dp hs)
theorem TDs.dp {K : PySem.W.Frag} {H : Hp} : ∀ {vs : List V} {ds : List PyData}, TDs H vs ds → DpAll K H vs ds
  | _, _, .nil => .nil
  | _, _, .cons h hs => .cons (TD.dp h) (TDs.dp hs)
end
mutual
theorem TD.lay {H : Hp} : ∀ {v : V} {d : PyData}, TD H v d → d.canLay0 = true
  | _, _, .non => rfl
  | _, _, .bl b => rfl
  | _, _, .int i => rfl
  | _, _, .str x ok => by simp only [PyData.canLay0]; exact ok
  | _, _, .tup _ hs => by rw [PyData.canLay0]; exact TDs.lay hs
theorem TDs.lay {H : Hp} : ∀ {vs : List V} {ds : List PyData}, TDs H vs ds → PyData.canLayAll0 ds = true
  | _, _, .nil => rfl
  | _, _, .cons h hs => by rw [PyData.canLayAll0, TD.lay h, TDs.lay hs]; rfl
end
/-- a tuple of data, at most n deep -/
def TupD (H : Hp) (n : Nat) (v : V) : Prop := ∃ (a : Addr) (xs : List V) (ds : List PyData), v = .ref a ∧ H a = some (.tup xs) ∧ TDs H xs ds ∧ (PyData.tuple ds).depth ≤ n
theorem TupD.mono {H H' : Hp} (s : TSame H H') {n : Nat} {v : V} (h : TupD H n v) : TupD H' n v := by
  obtain ⟨a, xs, ds, e, h1, h2, h3⟩ := h
  exact ⟨a, xs, ds, e, s _ _ h1, TDs.mono s h2, h3⟩
theorem shaped_of {d : PyData} (h1 : d.canLay0 = true) (h2 : d.depth ≤ 64) : SeqAt.shaped d = true := by
  unfold SeqAt.shaped
  rw [h1, decide_eq_true h2]
  rfl
theorem TupD.dat {K : PySem.W.Frag} {H : Hp} {n : Nat} {v : V} (h : TupD H n v) (hn : n ≤ 64) : ∃ d, Dp K H v d ∧ SeqAt.shaped d = true ∧ PyData.eqv d d = true := by
  obtain ⟨a, xs, ds, rfl, h1, h2, h3⟩ := h
  have td : TD H (.ref a) (.tuple ds) := .tup h1 h2
  exact ⟨_, td.dp, shaped_of td.lay (Nat.le_trans h3 hn), SeqAt.eqv_refl _ td.lay⟩
/-- a new tuple of data -/
theorem TupD.new {H : Hp} {n : Nat} {a : Addr} {xs : List V} {ds : List PyData} (ha : H a = none) (hs : TDs H xs ds) (hd : (PyData.tuple ds).depth ≤ n) : TupD (upd H a (.tup xs)) n (.ref a) :=
  ⟨a, xs, ds, rfl, upd_same, TDs.mono (fun b ys e => by rw [upd_ne (ne_of_none e ha)]; exact e) hs, hd⟩
theorem Same.new {H : Hp} {a : Addr} {o : HO} (ha : H a = none) : Same H (upd H a o) := fun b u e => by
  rw [upd_ne (ne_of_none e ha)]
  exact e
theorem Same.none' {H H' : Hp} (s : Same H H') {a : Addr} (h : H' a = none) : H a = none := s.free h
/-- addresses of objects, all different -/
structure Alive (H : Hp) (xs : List Addr) : Prop where
  nd : xs.Nodup
  at_ : ∀ b ∈ xs, ∃ o, H b = some o
theorem Alive.nil {H : Hp} : Alive H [] := ⟨List.nodup_nil, fun b h => by cases h⟩
theorem Alive.same {H H' : Hp} {xs : List Addr} (A : Alive H xs) (s : Same H H') : Alive H' xs := ⟨A.nd, fun b hb => by
  obtain ⟨o, e⟩ := A.at_ b hb
  exact ⟨o, s _ _ e⟩⟩
theorem Alive.cons {H H' : Hp} {xs : List Addr} {c : Addr} {o : HO} (A : Alive H xs) (hc : H c = none) (s : Same H H') (h : H' c = some o) : Alive H' (c :: xs) := by
  refine ⟨List.nodup_cons.mpr ⟨fun hm => ?_, A.nd⟩, fun b hb => ?_⟩
  · obtain ⟨u, e⟩ := A.at_ c hm
    rw [hc] at e
    cases e
  · rcases List.mem_cons.mp hb with e | hb
    · rw [e]
      exact ⟨o, h⟩
    · obtain ⟨u, e⟩ := A.at_ b hb
      exact ⟨u, s _ _ e⟩
theorem Alive.new {H : Hp} {xs : List Addr} {c : Addr} {o : HO} (A : Alive H xs) (hc : H c = none) : Alive (upd H c o) (c :: xs) := A.cons hc (Same.new hc) upd_same
/-- a list of two, by place -/
theorem two_at {α : Type} (f : Nat → α) {j : Nat} (hj : j < 2) : [f 0, f 1][j]? = some (f j) := by
  match j, hj with
  | 0, _ => rfl
  | 1, _ => rfl
end Fh

/-! Own errors: methods that may raise within a try, what is known of the error in its suite. -/
namespace Fh
open PySem PySem.Spec PyProof.Rows L2 He
section
variable {X : Cx} {CX : CXT} {k : Nat} {f C : Addr} {fd : FuncData} {ps : List Str} {sp : Sp} {E : L2.St → XK} {m : Str} {apos pos : Pos} {e o : Expr} {es : List Expr} {ta : TE} {t : TA}
def tMethW (C : Addr) (m : Str) (sp : Sp) (E : L2.St → XK) (ta : TE) (t : TA) : TE := fun σ H Q => ta σ H fun x H1 => ∃ a dx fs, x = .ref a ∧ H1 a = some (.ins C dx fs) ∧ fs.lookup m = none ∧ t σ H1 fun vs H2 => sp (x :: vs) H2 Q (E σ)
/-- o.m(e, ..), what it raises is wished for at the caller's slots -/
theorem pe_methW {pl : Sem Bool} (he : PE X o ta) (c : Cls X.K C) (hm : Meth X.K C m f) (F : FnOk X.prog X.w X.K X.mg X.base CX k f fd ps sp) (hr : Room k X.A) (hb : Binds X.K fd ps []) (hx : ∀ σ, PassesAt CX X σ (E σ)) (ha : PA X (e :: es) t)
    (hst : starEach (e :: es) X.env = (false, eval e X.env) :: starEach es X.env := by rfl) (hpl : (backTo pos (starEach es X.env)).any (·.1) = false := by rfl)
    (ht : eval (.Call (.Attribute o m apos) (e :: es) [] pos) X.env = (do
      let ov ← eval o X.env
      standAt apos.atName
      let (f, first) ← holding [ov] (getMethod ov m pl)
      callWith pos f first (backTo pos (starEach (e :: es) X.env)) (backToKw pos (keywordEach [] X.env))) := by rfl) :
    PE X (.Call (.Attribute o m apos) (e :: es) [] pos) (tMethW C m sp E ta t) := by
  refine ⟨fun pins s σ H Q I h => ?_⟩
  refine PySem.W.methodCall_KW (pl := pl) (thn (he.run pins s σ H _ I h) fun u s1 ⟨x, H1, I1, rx, a, dx, fs, ex, ea, l, q⟩ => ?_) ht
  subst ex
  obtain rfl : u = Value.ref a := rx
  refine getmeth_ok I1 ea c hm l ?_
  refine PySem.W.callWith_K (first := [.ref a]) (h₀ := X.base) I.ok.mod.kin hm.kp (thn (ha.run pos pins s1 σ H1 _ I1 q) fun us s2 ⟨vs, H2, I2, r, q2⟩ => ⟨I2.kIn, ?_⟩) hst hpl
  exact run_fnS (us := .ref a :: us) (vs := .ref a :: vs) F hr hb (hx σ) I2 (.cons rfl r) q2
end
/-- a block whose term leans on something that the reading says -/
theorem pss_when {X : Cx} {st : List Stmt} {t : TS} {p : Prop} (h : p → PSs X st t) : PSs X st (fun D σ H => p ∧ t D σ H) := ⟨fun pins s σ H D I q => (h q.1).run pins s σ H D I q.2⟩
/-- an own error class, as isinstance asks its instances -/
def excCB (x : Str) (K : PySem.W.Frag) : Bool := eqO (PySem.W.findIn K (.ref (ga K x)) "__getattribute__") (some (some (.builtin "BaseException.__getattribute__"))) && (eqO (PySem.W.findIn K (.ref (ga K x)) "__getattr__") (some none) &&
  (decide (PySem.W.subIn K (.ref (ga K x)) (.type "BaseException") = some true) && (PySem.W.hasDictIn K (ga K x) && (eqO (PySem.W.findIn K (.ref (ga K x)) "__class__") (some (some (.builtin "object.__class__"))) &&
  (eqO (PySem.W.specialIn K (.builtin "object.__class__") "__get__") (some (some (.builtin "getset_descriptor.__get__"))) && (decide (PySem.W.takesIn K (.builtin "object.__class__") = some true) && decide (PySem.W.mroIn K (ga K x) (.type "object") = some true)))))))
theorem excC_ok {K : PySem.W.Frag} {x : Str} (h : excCB x K = true) : ExcC K (ga K x) := by
  obtain ⟨h1, h⟩ := ba h
  obtain ⟨h2, h⟩ := ba h
  obtain ⟨h3, h⟩ := ba h
  obtain ⟨h4, h⟩ := ba h
  obtain ⟨h5, h⟩ := ba h
  obtain ⟨h6, h⟩ := ba h
  obtain ⟨h7, h8⟩ := ba h
  exact ⟨eqO_ok h1, eqO_ok h2, of_decide_eq_true h3, h4, eqO_ok h5, eqO_ok h6, of_decide_eq_true h7, of_decide_eq_true h8⟩
/-- is an instance of the class x one of the class y | of the built-in class n -/
def kitOB (x y : Str) (b : Bool) (K : PySem.W.Frag) : Bool := decide (PySem.W.kitOne K (.ref (ga K x)) (.ref (ga K y)) = some b)
theorem kitO_ok {K : PySem.W.Frag} {x y : Str} {b : Bool} (h : kitOB x y b K = true) : PySem.W.kitOne K (.ref (ga K x)) (.ref (ga K y)) = some b := of_decide_eq_true h
def kitTB (x : Str) (n : String) (b : Bool) (K : PySem.W.Frag) : Bool := decide (PySem.W.kitOne K (.ref (ga K x)) (.type n) = some b)
theorem kitT_ok {K : PySem.W.Frag} {x : Str} {n : String} {b : Bool} (h : kitTB x n b K = true) : PySem.W.kitOne K (.ref (ga K x)) (.type n) = some b := of_decide_eq_true h
end Fh

/-! Attributes as written lists. -/
namespace Wo
open PySem PySem.Spec PyProof.Rows L2
theorem putF_new {k : Str} {v : V} : ∀ {fs : List (Str × V)} (ks : List Str) (hk : fs.map (·.1) = ks) (h : k ∉ ks), putF k v fs = fs ++ [(k, v)]
  | [], _, _, _ => rfl
  | (g, x) :: r, ks, hk, h => by
    subst hk
    have h1 : ¬ g = k := fun e => h (by rw [← e]; exact List.mem_cons_self)
    have ih := putF_new (k := k) (v := v) (fs := r) _ rfl fun z => h (List.mem_cons_of_mem _ z)
    rw [show putF k v ((g, x) :: r) = (if g = k then (g, v) :: r else (g, x) :: putF k v r) from rfl, if_neg h1, ih]
    rfl
theorem putF_ix {k : Str} {v : V} : ∀ {fs : List (Str × V)} (i : Nat) (ks : List Str) (hk : fs.map (·.1) = ks) (h1 : ks[i]? = some k) (h2 : k ∉ ks.take i), putF k v fs = fs.set i (k, v)
  | [], i, ks, hk, h1, _ => by subst hk; simp at h1
  | (g, x) :: r, 0, ks, hk, h1, _ => by
    subst hk
    have e : g = k := by simpa using h1
    rw [show putF k v ((g, x) :: r) = (if g = k then (g, v) :: r else (g, x) :: putF k v r) from rfl, if_pos e, e]
    rfl
  | (g, x) :: r, i + 1, ks, hk, h1, h2 => by
    subst hk
    have ne : ¬ g = k := fun e => h2 (by rw [← e]; exact List.mem_cons_self)
    have ih := putF_ix (k := k) (v := v) (fs := r) i _ rfl (by simpa using h1) fun z => h2 (List.mem_cons_of_mem _ z)
    rw [show putF k v ((g, x) :: r) = (if g = k then (g, v) :: r else (g, x) :: putF k v r) from rfl, if_neg ne, ih]
    rfl
theorem lookup_no {k : Str} : ∀ {fs : List (Str × V)} (ks : List Str) (hk : fs.map (·.1) = ks) (h : k ∉ ks), fs.lookup k = none
  | [], _, _, _ => rfl
  | (g, x) :: r, ks, hk, h => by
    subst hk
    have h1 : (k == g) = false := beq_eq_false_iff_ne.mpr fun e => h (by rw [e]; exact List.mem_cons_self)
    rw [List.lookup, h1]
    exact lookup_no (fs := r) _ rfl fun z => h (List.mem_cons_of_mem _ z)
theorem lookup_ix {k : Str} : ∀ {fs : List (Str × V)} (i : Nat) (ks : List Str) (hk : fs.map (·.1) = ks) (h1 : ks[i]? = some k) (h2 : k ∉ ks.take i), fs.lookup k = (fs[i]?).map (·.2)
  | [], i, ks, hk, h1, _ => by subst hk; simp at h1
  | (g, x) :: r, 0, ks, hk, h1, _ => by
    subst hk
    have e : (k == g) = true := beq_iff_eq.mpr (by simpa using h1.symm)
    rw [List.lookup, e]
    rfl
  | (g, x) :: r, i + 1, ks, hk, h1, h2 => by
    subst hk
    have ne : (k == g) = false := beq_eq_false_iff_ne.mpr fun e => h2 (by rw [e]; exact List.mem_cons_self)
    rw [List.lookup, ne]
    exact lookup_ix (fs := r) i _ rfl (by simpa using h1) fun z => h2 (List.mem_cons_of_mem _ z)
end Wo

/-! The fields of a site as plain data, what a start reaches, and how both stand in the heap. -/
namespace Ce
open PySem PySem.Spec PyProof.Rows L2
inductive Cell where
  | non | obj (n : Int) | far (a b : Int)
  deriving DecidableEq
abbrev Fields := List (Int × List Cell)
/-- what a start reaches, itself included -/
inductive RC (fs : Fields) (s : Cell) : Cell → Prop
  | here : RC fs s s
  | step {m : Int} {cs : List Cell} {c : Cell} : RC fs s (.obj m) → (m, cs) ∈ fs → c ∈ cs → c ≠ .non → RC fs s c
def IsKey (fs : Fields) (n : Int) : Prop := ∃ cs, (n, cs) ∈ fs
theorem isKey_iff {fs : Fields} {n : Int} : IsKey fs n ↔ n ∈ fs.map (·.1) := by
  constructor
  · rintro ⟨cs, h⟩
    exact List.mem_map.mpr ⟨_, h, rfl⟩
  · intro h
    obtain ⟨p, hp, rfl⟩ := List.mem_map.mp h
    exact ⟨p.2, hp⟩
/-- all contents -/
def allC (fs : Fields) : List Cell := fs.flatMap (·.2)
theorem mem_allC {fs : Fields} {m : Int} {cs : List Cell} {c : Cell} (h : (m, cs) ∈ fs) (hc : c ∈ cs) : c ∈ allC fs := List.mem_flatMap.mpr ⟨_, h, hc⟩
theorem allC_len {k : Nat} : ∀ {fs : Fields}, (∀ p ∈ fs, p.2.length ≤ k) → (allC fs).length ≤ k * fs.length
  | [], _ => Nat.zero_le _
  | p :: fs, h => by
    have h1 := h p List.mem_cons_self
    have h2 := allC_len (k := k) (fs := fs) fun q hq => h q (List.mem_cons_of_mem _ hq)
    unfold allC at h2 ⊢
    rw [List.flatMap_cons, List.length_append, List.length_cons, Nat.mul_succ]
    omega
/-- a list without repetition is no longer than one that has all its items -/
theorem nd_len {α : Type} : ∀ {l m : List α}, l.Nodup → (∀ x ∈ l, x ∈ m) → l.length ≤ m.length
  | [], _, _, _ => Nat.zero_le _
  | x :: l, m, hn, hs => by
    rw [List.nodup_cons] at hn
    obtain ⟨a, b, rfl⟩ := List.append_of_mem (hs x List.mem_cons_self)
    have h := nd_len (l := l) (m := a ++ b) hn.2 fun y hy => by
      rcases List.mem_append.mp (hs y (List.mem_cons_of_mem _ hy)) with h | h
      · exact List.mem_append_left _ h
      · rcases List.mem_cons.mp h with h | h
        · subst h
          exact absurd hy hn.1
        · exact List.mem_append_right _ h
    rw [List.length_append] at h ⊢
    rw [List.length_cons, List.length_cons]
    omega
/-! ### in the heap -/
def CV (H : Hp) : Cell → V → Prop
  | .non, v => v = .non
  | .obj n, v => v = .int n
  | .far a b, v => ∃ t, v = .ref t ∧ H t = some (.tup [.int a, .int b])
abbrev CVs (H : Hp) : List Cell → List V → Prop := Paired (CV H)
/-- tuples stay -/
def TL (H H' : Hp) : Prop := ∀ b xs, H b = some (.tup xs) → H' b = some (.tup xs)
theorem TL.refl {H : Hp} : TL H H := fun _ _ h => h
theorem TL.trans {H H1 H2 : Hp} (a : TL H H1) (b : TL H1 H2) : TL H H2 := fun x y h => b x y (a x y h)
theorem TL.new {H : Hp} {p : Addr} {o : HO} (h : H p = none) : TL H (upd H p o) := fun b xs e => by
  rw [upd_ne (ne_of_none e h)]
  exact e
theorem TL.put {H : Hp} {p : Addr} {o u : HO} (h : H p = some u) (n : ∀ xs, u ≠ .tup xs) : TL H (upd H p o) := fun b xs e => by
  rw [upd_ne (ne_of e h fun z => n xs z.symm)]
  exact e
theorem TL.same {H H' : Hp} (s : ∀ b o, H b = some o → H' b = some o) : TL H H' := fun b xs e => s b _ e
theorem CV.tl {H H' : Hp} (t : TL H H') : ∀ {c : Cell} {v : V}, CV H c v → CV H' c v
  | .non, _, h => h
  | .obj _, _, h => h
  | .far _ _, _, ⟨q, h1, h2⟩ => ⟨q, h1, t _ _ h2⟩
theorem CVs.tl {H H' : Hp} (t : TL H H') {cs : List Cell} {vs : List V} (h : CVs H cs vs) : CVs H' cs vs := Paired.mapP h fun _ _ q => q.tl t
/-- the entry of one object -/
def EV (H : Hp) (p : Int × List Cell) (q : Key × V) : Prop := q.1 = .inl p.1 ∧ ∃ t vs, q.2 = .ref t ∧ H t = some (.tup vs) ∧ CVs H p.2 vs
theorem EV.tl {H H' : Hp} (t : TL H H') {p : Int × List Cell} {q : Key × V} (h : EV H p q) : EV H' p q := by
  obtain ⟨h1, a, vs, h2, h3, h4⟩ := h
  exact ⟨h1, a, vs, h2, t _ _ h3, h4.tl t⟩
/-- the dict at d holds the fields fs -/
def FA (H : Hp) (d : Addr) (fs : Fields) : Prop := ∃ kvs, H d = some (.dK kvs) ∧ Paired (EV H) fs kvs
theorem FA.tl {H H' : Hp} {d : Addr} {fs : Fields} (h : FA H d fs) (t : TL H H') (e : H' d = H d) : FA H' d fs := by
  obtain ⟨kvs, h1, h2⟩ := h
  exact ⟨kvs, e.trans h1, Paired.mapP h2 fun _ _ q => q.tl t⟩
theorem FA.sm {H H' : Hp} {d : Addr} {fs : Fields} (h : FA H d fs) (s : Same H H') : FA H' d fs := by
  obtain ⟨kvs, h1, h2⟩ := h
  exact ⟨kvs, s _ _ h1, Paired.mapP h2 fun _ _ q => q.tl (TL.same s)⟩
theorem valV_nd {kvs : List (Key × V)} {p : Key × V} (hn : (kvs.map (·.1)).Nodup) (hp : p ∈ kvs) : valV kvs p.1 = some p.2 := by
  induction kvs with
  | nil => exact nomatch hp
  | cons y l ih =>
    rw [List.map_cons, List.nodup_cons] at hn
    rcases List.mem_cons.mp hp with h | h
    · rw [h]
      exact valV_pos rfl
    · have ny : ¬ y.1 = p.1 := fun z => hn.1 (z ▸ List.mem_map.mpr ⟨p, h, rfl⟩)
      unfold valV
      rw [List.find?_cons_of_neg (by rw [decide_eq_false ny]; exact Bool.false_ne_true)]
      exact ih hn.2 h
/-- the first i entries, and the next one -/
theorem putK_take {kvs : List (Key × V)} {p : Key × V} {i : Nat} (hn : (kvs.map (·.1)).Nodup) (hp : kvs[i]? = some p) : putK (kvs.take i) p.1 p.2 = kvs.take (i + 1) := by
  unfold putK
  rw [if_neg]
  · rw [List.take_add_one, hp]
    rfl
  · rw [List.any_eq_true]
    rintro ⟨y, hy, ey⟩
    have ey := of_decide_eq_true ey
    obtain ⟨j, hj⟩ := List.mem_iff_getElem?.mp hy
    rw [List.getElem?_take] at hj
    split at hj
    · rename_i hji
      have h1 : (kvs.map (·.1))[j]? = some p.1 := by rw [List.getElem?_map, hj, ← ey]; rfl
      have h2 : (kvs.map (·.1))[i]? = some p.1 := by rw [List.getElem?_map, hp]; rfl
      have := (List.getElem?_inj (List.getElem?_eq_some_iff.mp h1).1 hn).mp (h1.trans h2.symm)
      omega
    · cases hj
/-- a dict of such entries: its keys, its values -/
theorem ev_keys {H : Hp} {fs : Fields} {kvs : List (Key × V)} (h : Paired (EV H) fs kvs) : kvs.map (·.1) = fs.map fun p => (Sum.inl p.1 : Key) := by
  induction h with
  | nil => rfl
  | cons q _ ih => rw [List.map_cons, List.map_cons, ih, q.1]
theorem ev_nd {H : Hp} {fs : Fields} {kvs : List (Key × V)} (h : Paired (EV H) fs kvs) (hn : (fs.map (·.1)).Nodup) : (kvs.map (·.1)).Nodup := by
  rw [ev_keys h]
  have e : (fs.map fun p => (Sum.inl p.1 : Key)) = (fs.map (·.1)).map Sum.inl := by rw [List.map_map]; rfl
  rw [e]
  exact List.Pairwise.map _ (fun a b (z : a ≠ b) y => z (Sum.inl.inj y)) hn
theorem ev_ref {H : Hp} {fs : Fields} {kvs : List (Key × V)} (h : Paired (EV H) fs kvs) : ∀ p ∈ kvs, ∃ t, p.2 = V.ref t := by
  induction h with
  | nil => exact fun _ h => nomatch h
  | cons q _ ih =>
    intro p hp
    rcases List.mem_cons.mp hp with e | e
    · obtain ⟨_, t, _, e1, _⟩ := q
      exact ⟨t, by rw [e]; exact e1⟩
    · exact ih p e
theorem ev_int {H : Hp} {fs : Fields} {kvs : List (Key × V)} (h : Paired (EV H) fs kvs) : ∀ p ∈ kvs, ∃ n, p.1 = Sum.inl n := by
  induction h with
  | nil => exact fun _ h => nomatch h
  | cons q _ ih =>
    intro p hp
    rcases List.mem_cons.mp hp with e | e
    · exact ⟨_, by rw [e]; exact q.1⟩
    · exact ih p e
def cellsOf (fs : Fields) (n : Int) : Option (List Cell) := (fs.find? fun p => p.1 == n).map (·.2)
theorem pr_len {α β : Type} {F : α → β → Prop} : ∀ {l : List α} {m : List β}, Paired F l m → l.length = m.length
  | _, _, .nil => rfl
  | _, _, .cons _ t => congrArg (· + 1) (pr_len t)
theorem pr_r {α β : Type} {F : α → β → Prop} : ∀ {l : List α} {m : List β} {j : Nat} {y : β}, Paired F l m → m[j]? = some y → ∃ x, l[j]? = some x ∧ F x y
  | _, _, _, _, .nil, e => by simp at e
  | _, _, 0, _, .cons r _, e => by simp at e; subst e; exact ⟨_, rfl, r⟩
  | _, _, j + 1, _, .cons _ t, e => by
    obtain ⟨x, h1, h2⟩ := pr_r t (by simpa using e)
    exact ⟨x, by simpa using h1, h2⟩
theorem pr_l {α β : Type} {F : α → β → Prop} : ∀ {l : List α} {m : List β} {j : Nat} {x : α}, Paired F l m → l[j]? = some x → ∃ y, m[j]? = some y ∧ F x y
  | _, _, _, _, .nil, e => by simp at e
  | _, _, 0, _, .cons r _, e => by simp at e; subst e; exact ⟨_, rfl, r⟩
  | _, _, j + 1, _, .cons _ t, e => by
    obtain ⟨y, h1, h2⟩ := pr_l t (by simpa using e)
    exact ⟨y, by simpa using h1, h2⟩
theorem pr_mem {α β : Type} {F : α → β → Prop} {l : List α} {m : List β} (h : Paired F l m) {x : α} (hx : x ∈ l) : ∃ y ∈ m, F x y := by
  obtain ⟨j, hj⟩ := List.mem_iff_getElem?.mp hx
  obtain ⟨y, hy, hF⟩ := pr_l h hj
  exact ⟨y, List.mem_of_getElem? hy, hF⟩
theorem pr_app {α β : Type} {F : α → β → Prop} : ∀ {l l' : List α} {m m' : List β}, Paired F l m → Paired F l' m' → Paired F (l ++ l') (m ++ m')
  | _, _, _, _, .nil, s => s
  | _, _, _, _, .cons r t, s => .cons r (pr_app t s)
/-- what the dict holds at a number -/
theorem FA.val {H : Hp} {fs : Fields} {kvs : List (Key × V)} (h : Paired (EV H) fs kvs) (n : Int) :
    (cellsOf fs n = none ∧ valV kvs (Sum.inl n) = none) ∨ ∃ cs t vs, cellsOf fs n = some cs ∧ (n, cs) ∈ fs ∧ valV kvs (Sum.inl n) = some (.ref t) ∧ H t = some (.tup vs) ∧ CVs H cs vs := by
  induction h with
  | nil => exact .inl ⟨rfl, rfl⟩
  | @cons p q ps qs h t ih =>
    obtain ⟨h1, a, vs, h2, h3, h4⟩ := h
    by_cases e : p.1 = n
    · refine .inr ⟨p.2, a, vs, ?_, ?_, ?_, h3, h4⟩
      · unfold cellsOf
        rw [List.find?_cons_of_pos (by simp [e])]
        rfl
      · rw [← e]
        exact List.mem_cons_self
      · unfold valV
        rw [List.find?_cons_of_pos (by rw [h1, e]; exact decide_eq_true rfl)]
        exact congrArg some h2
    · have e2 : ¬ q.1 = Sum.inl n := fun z => e (Sum.inl.inj (h1.symm.trans z))
      have c1 : cellsOf (p :: ps) n = cellsOf ps n := by
        unfold cellsOf
        rw [List.find?_cons_of_neg (by simp [e])]
      have c2 : valV (q :: qs) (Sum.inl n) = valV qs (Sum.inl n) := by
        unfold valV
        rw [List.find?_cons_of_neg (by rw [decide_eq_false e2]; exact Bool.false_ne_true)]
      rw [c1, c2]
      rcases ih with h | ⟨cs, t', vs', i1, i2, i3⟩
      · exact .inl h
      · exact .inr ⟨cs, t', vs', i1, List.mem_cons_of_mem _ i2, i3⟩
theorem cellsOf_none {fs : Fields} {n : Int} (h : cellsOf fs n = none) : ¬ IsKey fs n := by
  rintro ⟨cs, hm⟩
  unfold cellsOf at h
  have z := List.find?_eq_none.mp (Option.map_eq_none_iff.mp h) _ hm
  simp at z
theorem cellsOf_nd {fs : Fields} (hn : (fs.map (·.1)).Nodup) {n : Int} {cs cs' : List Cell} (h : (n, cs) ∈ fs) (h' : (n, cs') ∈ fs) : cs = cs' := by
  obtain ⟨i, hi⟩ := List.mem_iff_getElem?.mp h
  obtain ⟨j, hj⟩ := List.mem_iff_getElem?.mp h'
  have h1 : (fs.map (·.1))[i]? = some n := by rw [List.getElem?_map, hi]; rfl
  have h2 : (fs.map (·.1))[j]? = some n := by rw [List.getElem?_map, hj]; rfl
  have e : i = j := (List.getElem?_inj (List.getElem?_eq_some_iff.mp h1).1 hn).mp (h1.trans h2.symm)
  subst e
  rw [hi] at hj
  exact congrArg Prod.snd (Option.some.inj hj)
/-- one entry stored -/
def putC (fs : Fields) (n : Int) (cs : List Cell) : Fields := if fs.any (fun p => p.1 == n) then fs.map (fun p => if p.1 = n then (p.1, cs) else p) else fs ++ [(n, cs)]
theorem any_pr {H : Hp} {n : Int} {fs : Fields} {kvs : List (Key × V)} (h : Paired (EV H) fs kvs) : (fs.any fun p => p.1 == n) = kvs.any fun kv => decide (kv.1 = Sum.inl n) := by
  induction h with
  | nil => rfl
  | @cons p q ps qs h t ih =>
    rw [List.any_cons, List.any_cons, ih]
    congr 1
    rw [h.1]
    by_cases e : p.1 = n
    · rw [e]; simp
    · rw [decide_eq_false fun z => e (Sum.inl.inj z)]
      simp [e]
theorem put_pr {H : Hp} {n : Int} {cs : List Cell} {t : Addr} {vs : List V} {fs : Fields} {kvs : List (Key × V)} (h : Paired (EV H) fs kvs) (ht : H t = some (.tup vs)) (hc : CVs H cs vs) :
    Paired (EV H) (putC fs n cs) (putK kvs (Sum.inl n) (.ref t)) := by
  unfold putC putK
  rw [any_pr (n := n) h]
  split
  · have all : ∀ {fs : Fields} {kvs : List (Key × V)}, Paired (EV H) fs kvs → Paired (EV H) (fs.map fun p => if p.1 = n then (p.1, cs) else p) (kvs.map fun kv => if kv.1 = Sum.inl n then (kv.1, V.ref t) else kv) := by
      intro fs kvs h
      induction h with
      | nil => exact .nil
      | @cons p q ps qs h t' ih =>
        rw [List.map_cons, List.map_cons]
        refine .cons ?_ ih
        by_cases e : p.1 = n
        · rw [if_pos e, if_pos (by rw [h.1, e])]
          exact ⟨h.1, t, vs, rfl, ht, hc⟩
        · rw [if_neg e, if_neg fun z => e (Sum.inl.inj (h.1.symm.trans z))]
          exact h
    exact all h
  · exact pr_app h (.cons ⟨rfl, t, vs, rfl, ht, hc⟩ .nil)
theorem putC_len (fs : Fields) (n : Int) (cs : List Cell) : (putC fs n cs).length ≤ fs.length + 1 := by
  unfold putC
  split
  · rw [List.length_map]; omega
  · rw [List.length_append]; exact Nat.le_refl _
theorem putC_nd {fs : Fields} (h : (fs.map (·.1)).Nodup) (n : Int) (cs : List Cell) : ((putC fs n cs).map (·.1)).Nodup := by
  unfold putC
  split
  · have e : (fs.map fun p => if p.1 = n then (p.1, cs) else p).map (·.1) = fs.map (·.1) := by
      rw [List.map_map]
      refine List.map_congr_left fun p _ => ?_
      show (if p.1 = n then (p.1, cs) else p).1 = p.1
      split <;> rfl
    rw [e]
    exact h
  · rename_i hn
    rw [List.map_append, List.nodup_append]
    refine ⟨h, by simp, fun x hx y hy z => hn ?_⟩
    rw [List.map_cons, List.map_nil, List.mem_singleton] at hy
    subst z hy
    obtain ⟨p, hp, e⟩ := List.mem_map.mp hx
    exact List.any_eq_true.mpr ⟨p, hp, beq_iff_eq.mpr e⟩
theorem putC_all {Pr : List Cell → Prop} {fs : Fields} (h : ∀ p ∈ fs, Pr p.2) {n : Int} {cs : List Cell} (hc : Pr cs) : ∀ p ∈ putC fs n cs, Pr p.2 := by
  intro p hp
  unfold putC at hp
  split at hp
  · obtain ⟨q, hq, rfl⟩ := List.mem_map.mp hp
    split
    · exact hc
    · exact h q hq
  · rcases List.mem_append.mp hp with hp | hp
    · exact h p hp
    · rw [List.mem_singleton.mp hp]; exact hc
theorem putC_key {fs : Fields} {n m : Int} {cs : List Cell} (h : IsKey fs m) : IsKey (putC fs n cs) m := by
  obtain ⟨ds, hm⟩ := h
  unfold putC
  split
  · by_cases e : m = n
    · exact ⟨cs, List.mem_map.mpr ⟨_, hm, by rw [if_pos e]⟩⟩
    · exact ⟨ds, List.mem_map.mpr ⟨_, hm, by rw [if_neg e]⟩⟩
  · exact ⟨ds, List.mem_append_left _ hm⟩
/-- one entry taken out -/
def dropC (fs : Fields) (n : Int) : Fields := fs.filter fun p => decide (p.1 ≠ n)
theorem drop_pr {H : Hp} {n : Int} {fs : Fields} {kvs : List (Key × V)} (h : Paired (EV H) fs kvs) : Paired (EV H) (dropC fs n) (dropK kvs (Sum.inl n)) := by
  unfold dropC dropK
  induction h with
  | nil => exact .nil
  | @cons p q ps qs h t ih =>
    by_cases e : p.1 = n
    · rw [List.filter_cons_of_neg (by simp [e]), List.filter_cons_of_neg (by simp [h.1, e])]
      exact ih
    · have e2 : ¬ q.1 = Sum.inl n := fun z => e (Sum.inl.inj (h.1.symm.trans z))
      rw [List.filter_cons_of_pos (by simp [e]), List.filter_cons_of_pos (by simp [e2])]
      exact .cons h ih
theorem dropC_sub {fs : Fields} {n : Int} {p : Int × List Cell} (h : p ∈ dropC fs n) : p ∈ fs := (List.mem_filter.mp h).1
theorem dropC_nd {fs : Fields} (h : (fs.map (·.1)).Nodup) (n : Int) : ((dropC fs n).map (·.1)).Nodup := List.Nodup.sublist (List.Sublist.map _ List.filter_sublist) h
theorem dropC_len (fs : Fields) (n : Int) : (dropC fs n).length ≤ fs.length := List.length_filter_le _ _
/-! ### the walk: a list of cells, from the start, each one once -/
structure Walk (fs : Fields) (s : Cell) (ws : List Cell) (i : Nat) : Prop where
  head : s ∈ ws
  nd : ws.Nodup
  rc : ∀ c ∈ ws, RC fs s c
  src : ∀ c ∈ ws, c = s ∨ c ∈ allC fs
  done : ∀ (j : Nat) (m : Int) (cs : List Cell), j < i → ws[j]? = some (.obj m) → (m, cs) ∈ fs → ∀ c ∈ cs, c ≠ .non → c ∈ ws
theorem Walk.start {fs : Fields} {s : Cell} : Walk fs s [s] 0 :=
  ⟨List.mem_cons_self, by simp, fun c h => by rw [List.mem_singleton.mp h]; exact .here, fun c h => .inl (List.mem_singleton.mp h), fun j _ _ h => absurd h (Nat.not_lt_zero _)⟩
theorem Walk.len {fs : Fields} {s : Cell} {ws : List Cell} {i k : Nat} (w : Walk fs s ws i) (h : ∀ p ∈ fs, p.2.length ≤ k) : ws.length ≤ k * fs.length + 1 := by
  have h1 := nd_len (l := ws) (m := s :: allC fs) w.nd fun c hc => by
    rcases w.src c hc with e | e
    · rw [e]; exact List.mem_cons_self
    · exact List.mem_cons_of_mem _ e
  rw [List.length_cons] at h1
  have h2 := allC_len h
  omega
/-- the walk is over: exactly what the start reaches -/
theorem Walk.all {fs : Fields} {s : Cell} {ws : List Cell} {i : Nat} (w : Walk fs s ws i) (h : ws.length ≤ i) (c : Cell) : c ∈ ws ↔ RC fs s c := by
  refine ⟨w.rc c, fun h1 => ?_⟩
  induction h1 with
  | here => exact w.head
  | step _ h2 h3 h4 ih =>
    obtain ⟨j, hj⟩ := List.mem_iff_getElem?.mp ih
    exact w.done j _ _ (Nat.lt_of_lt_of_le (List.getElem?_eq_some_iff.mp hj).1 h) hj h2 _ h3 h4
theorem get_app {α : Type} {l m : List α} {j : Nat} {x : α} (h : l[j]? = some x) : (l ++ m)[j]? = some x := by
  rw [List.getElem?_append_left (List.getElem?_eq_some_iff.mp h).1]
  exact h
/-! ### in the middle of a turn: the first k contents of the item at i are seen -/
structure Turn (fs : Fields) (s : Cell) (ws : List Cell) (i : Nat) (m : Int) (cs : List Cell) (k : Nat) : Prop where
  walk : Walk fs s ws i
  at_ : ws[i]? = some (.obj m)
  mem : (m, cs) ∈ fs
  seen : ∀ (j : Nat) (c : Cell), j < k → cs[j]? = some c → c ≠ .non → c ∈ ws
theorem Turn.skip {fs : Fields} {s : Cell} {ws : List Cell} {i k : Nat} {m : Int} {cs : List Cell} {c : Cell} (t : Turn fs s ws i m cs k) (hc : cs[k]? = some c) (h : c = .non ∨ c ∈ ws) : Turn fs s ws i m cs (k + 1) :=
  ⟨t.walk, t.at_, t.mem, fun j d hj hd hn => by
    rcases Nat.lt_or_eq_of_le (Nat.le_of_lt_succ hj) with q | q
    · exact t.seen j d q hd hn
    · rw [q, hc] at hd
      cases hd
      rcases h with h | h
      · exact absurd h hn
      · exact h⟩
theorem Turn.add {fs : Fields} {s : Cell} {ws : List Cell} {i k : Nat} {m : Int} {cs : List Cell} {c : Cell} (t : Turn fs s ws i m cs k) (hc : cs[k]? = some c) (h1 : c ≠ .non) (h2 : c ∉ ws) : Turn fs s (ws ++ [c]) i m cs (k + 1) := by
  have hm : ∀ x ∈ ws ++ [c], x ∈ ws ∨ x = c := fun x hx => by
    rcases List.mem_append.mp hx with q | q
    · exact .inl q
    · exact .inr (List.mem_singleton.mp q)
  have hcm := List.mem_of_getElem? hc
  refine ⟨⟨List.mem_append_left _ t.walk.head, ?_, fun x hx => ?_, fun x hx => ?_, fun j n ds hj hn hd x hx hxn => ?_⟩, get_app t.at_, t.mem, fun j d hj hd hn => ?_⟩
  · rw [List.nodup_append]
    exact ⟨t.walk.nd, by simp, fun x hx y hy z => h2 (by rw [← List.mem_singleton.mp hy, ← z]; exact hx)⟩
  · rcases hm x hx with q | q
    · exact t.walk.rc x q
    · rw [q]
      exact .step (t.walk.rc _ (List.mem_of_getElem? t.at_)) t.mem hcm h1
  · rcases hm x hx with q | q
    · exact t.walk.src x q
    · rw [q]
      exact .inr (mem_allC t.mem hcm)
  · have hl : j < ws.length := Nat.lt_trans hj (List.getElem?_eq_some_iff.mp t.at_).1
    rw [List.getElem?_append_left hl] at hn
    exact List.mem_append_left _ (t.walk.done j n ds hj hn hd x hx hxn)
  · rcases Nat.lt_or_eq_of_le (Nat.le_of_lt_succ hj) with q | q
    · exact List.mem_append_left _ (t.seen j d q hd hn)
    · rw [q, hc] at hd
      cases hd
      exact List.mem_append_right _ List.mem_cons_self
theorem Turn.end_ {fs : Fields} {s : Cell} {ws : List Cell} {i k : Nat} {m : Int} {cs : List Cell} (hnd : (fs.map (·.1)).Nodup) (t : Turn fs s ws i m cs k) (hk : cs.length ≤ k) : Walk fs s ws (i + 1) :=
  ⟨t.walk.head, t.walk.nd, t.walk.rc, t.walk.src, fun j n ds hj hn hd c hc hcn => by
    rcases Nat.lt_or_eq_of_le (Nat.le_of_lt_succ hj) with q | q
    · exact t.walk.done j n ds q hn hd c hc hcn
    · rw [q, t.at_] at hn
      cases hn
      rw [cellsOf_nd hnd hd t.mem] at hc
      obtain ⟨l, hl⟩ := List.mem_iff_getElem?.mp hc
      exact t.seen l c (Nat.lt_of_lt_of_le (List.getElem?_eq_some_iff.mp hl).1 hk) hl hcn⟩
/-- an item that is no object of the site -/
theorem Walk.pass {fs : Fields} {s : Cell} {ws : List Cell} {i : Nat} {c : Cell} (w : Walk fs s ws i) (h : ws[i]? = some c) (hc : ∀ m, c = .obj m → ¬ IsKey fs m) : Walk fs s ws (i + 1) :=
  ⟨w.head, w.nd, w.rc, w.src, fun j n ds hj hn hd c' hc' hcn => by
    rcases Nat.lt_or_eq_of_le (Nat.le_of_lt_succ hj) with q | q
    · exact w.done j n ds q hn hd c' hc' hcn
    · rw [q, h] at hn
      cases hn
      exact absurd ⟨ds, hd⟩ (hc n rfl)⟩
/-! ### the answer -/
def objF (fs : Fields) : Cell → Option Int
  | .obj n => if (cellsOf fs n).isSome then some n else none
  | _ => none
def refF : Cell → Option (Int × Int)
  | .far a b => some (a, b)
  | _ => none
def objsOf (fs : Fields) (ws : List Cell) : List Int := ws.filterMap (objF fs)
def refsOf (ws : List Cell) : List (Int × Int) := ws.filterMap refF
theorem cellsOf_some {fs : Fields} {n : Int} : (cellsOf fs n).isSome = true ↔ IsKey fs n := by
  constructor
  · intro h
    unfold cellsOf at h
    rw [Option.isSome_map, List.find?_isSome] at h
    obtain ⟨p, hp, e⟩ := h
    exact ⟨p.2, by rw [← beq_iff_eq.mp e]; exact hp⟩
  · intro h
    cases e : cellsOf fs n with
    | none => exact absurd h (cellsOf_none e)
    | some _ => rfl
theorem objF_eq {fs : Fields} {c : Cell} {n : Int} : objF fs c = some n ↔ c = .obj n ∧ IsKey fs n := by
  cases c with
  | non => exact ⟨fun h => (nomatch h), fun h => (nomatch h.1)⟩
  | far a b => exact ⟨fun h => (nomatch h), fun h => (nomatch h.1)⟩
  | obj m =>
    unfold objF
    dsimp only
    split
    · rename_i h
      constructor
      · intro e
        cases e
        exact ⟨rfl, cellsOf_some.mp h⟩
      · rintro ⟨e, _⟩
        cases e
        rfl
    · rename_i h
      refine ⟨fun e => (nomatch e), fun ⟨e, k⟩ => ?_⟩
      cases e
      exact absurd (cellsOf_some.mpr k) h
theorem refF_eq {c : Cell} {r : Int × Int} : refF c = some r ↔ c = .far r.1 r.2 := by
  cases c with
  | non => exact ⟨fun h => (nomatch h), fun h => (nomatch h)⟩
  | obj a => exact ⟨fun h => (nomatch h), fun h => (nomatch h)⟩
  | far a b =>
    constructor
    · intro e
      cases e
      rfl
    · intro e
      cases e
      rfl
theorem mem_objs {fs : Fields} {ws : List Cell} {n : Int} : n ∈ objsOf fs ws ↔ Cell.obj n ∈ ws ∧ IsKey fs n := by
  unfold objsOf
  rw [List.mem_filterMap]
  constructor
  · rintro ⟨c, hc, e⟩
    obtain ⟨rfl, k⟩ := objF_eq.mp e
    exact ⟨hc, k⟩
  · rintro ⟨hc, k⟩
    exact ⟨_, hc, objF_eq.mpr ⟨rfl, k⟩⟩
theorem mem_refs {ws : List Cell} {r : Int × Int} : r ∈ refsOf ws ↔ Cell.far r.1 r.2 ∈ ws := by
  unfold refsOf
  rw [List.mem_filterMap]
  constructor
  · rintro ⟨c, hc, e⟩
    rw [← refF_eq.mp e]
    exact hc
  · intro hc
    exact ⟨_, hc, refF_eq.mpr rfl⟩
theorem nd_objs {fs : Fields} {ws : List Cell} (h : ws.Nodup) : (objsOf fs ws).Nodup :=
  List.Pairwise.filterMap (S := fun x y => x ≠ y) (objF fs) (fun a a' (ha : a ≠ a') b hb b' hb' e => ha (by rw [(objF_eq.mp hb).1, (objF_eq.mp hb').1, e])) h
theorem nd_refs {ws : List Cell} (h : ws.Nodup) : (refsOf ws).Nodup :=
  List.Pairwise.filterMap (S := fun x y => x ≠ y) refF (fun a a' (ha : a ≠ a') b hb b' hb' e => ha (by rw [refF_eq.mp hb, refF_eq.mp hb', e])) h
theorem take_fm {α β : Type} (f : α → Option β) {ws : List α} {j : Nat} {c : α} (h : ws[j]? = some c) : (ws.take (j + 1)).filterMap f = (ws.take j).filterMap f ++ (f c).toList := by
  rw [List.take_add_one, h, List.filterMap_append]
  show _ ++ List.filterMap f [c] = _
  rw [List.filterMap_cons]
  cases f c <;> rfl
/-- two lists that rise and have the same items are one -/
theorem strict_eq {α : Type} {lt : α → α → Prop} (irr : ∀ x, ¬ lt x x) (asy : ∀ x y, lt x y → ¬ lt y x) : ∀ {l m : List α}, l.Pairwise lt → m.Pairwise lt → (∀ x, x ∈ l ↔ x ∈ m) → l = m
  | [], [], _, _, _ => rfl
  | [], y :: m, _, _, h => absurd ((h y).mpr List.mem_cons_self) (fun z => nomatch z)
  | x :: l, [], _, _, h => absurd ((h x).mp List.mem_cons_self) (fun z => nomatch z)
  | x :: l, y :: m, hl, hm, h => by
    rw [List.pairwise_cons] at hl hm
    have e : x = y := by
      rcases List.mem_cons.mp ((h x).mp List.mem_cons_self) with e | e
      · exact e
      · rcases List.mem_cons.mp ((h y).mpr List.mem_cons_self) with e2 | e2
        · exact e2.symm
        · exact absurd (hm.1 x e) (asy _ _ (hl.1 y e2))
    subst e
    rw [strict_eq irr asy hl.2 hm.2 fun z => ?_]
    constructor
    · intro hz
      rcases List.mem_cons.mp ((h z).mp (List.mem_cons_of_mem _ hz)) with e | e
      · subst e
        exact absurd (hl.1 z hz) (irr z)
      · exact e
    · intro hz
      rcases List.mem_cons.mp ((h z).mpr (List.mem_cons_of_mem _ hz)) with e | e
      · subst e
        exact absurd (hm.1 z hz) (irr z)
      · exact e
def lx (a b : Int × Int) : Prop := SrtO.lexB a b = true
theorem lx_irr (x : Int × Int) : ¬ lx x x := fun h => by
  have := SrtO.lexB_iff.mp h
  omega
theorem lx_asy (x y : Int × Int) (h : lx x y) : ¬ lx y x := fun h' => by
  have h1 := SrtO.lexB_iff.mp h
  have h2 := SrtO.lexB_iff.mp h'
  omega
/-- ascending, and no two alike: it rises -/
theorem rise_of {l : List Int} (h : l.Pairwise (· ≤ ·)) (n : l.Nodup) : l.Pairwise (· < ·) :=
  (List.pairwise_and_iff.mpr ⟨h, n⟩).imp fun ⟨a, b⟩ => by omega
theorem riseP_of {l : List (Int × Int)} (h : l.Pairwise fun x y => SrtO.lexB y x = false) (n : l.Nodup) : l.Pairwise lx :=
  (List.pairwise_and_iff.mpr ⟨h, n⟩).imp fun {a b} ⟨h1, h2⟩ => by
    refine SrtO.lexB_iff.mpr ?_
    have h3 := SrtO.lexB_no.mp h1
    by_cases e1 : a.1 = b.1
    · by_cases e2 : a.2 = b.2
      · exact absurd (Prod.ext e1 e2) h2
      · omega
    · omega
theorem perm_nd {α : Type} {l m : List α} (p : l.Perm m) (h : m.Nodup) : l.Nodup := (List.Perm.nodup_iff p).mpr h
abbrev RVs (H : Hp) : List (Int × Int) → List V → Prop := Paired fun r v => CV H (.far r.1 r.2) v
theorem RVs.tl {H H' : Hp} (t : TL H H') {rs : List (Int × Int)} {vs : List V} (h : RVs H rs vs) : RVs H' rs vs := Paired.mapP h fun _ _ q => q.tl t
/-- what reach answers, and the law's own walk: a new pair of new lists -/
structure Ans (H H' : Hp) (p : Addr) (fs : Fields) (s : Cell) (l1 l2 : Addr) (ns : List Int) (rs : List (Int × Int)) (bs : List V) : Prop where
  pt : H' p = some (.tup [.ref l1, .ref l2])
  h1 : H' l1 = some (.lst (ns.map V.int))
  h2 : H' l2 = some (.lst bs)
  rv : RVs H' rs bs
  np : H p = none
  n1 : H l1 = none
  n2 : H l2 = none
  n12 : l1 ≠ l2
  o1 : ns.Pairwise (· < ·)
  o2 : rs.Pairwise lx
  m1 : ∀ n, n ∈ ns ↔ RC fs s (.obj n) ∧ IsKey fs n
  m2 : ∀ r, r ∈ rs ↔ RC fs s (.far r.1 r.2)
theorem RC.src {fs : Fields} {s c : Cell} (h : RC fs s c) : c = s ∨ c ∈ allC fs := by
  cases h with
  | here => exact .inl rfl
  | step _ h2 h3 _ => exact .inr (mem_allC h2 h3)
theorem Ans.len1 {H H' : Hp} {p l1 l2 : Addr} {fs : Fields} {s : Cell} {ns : List Int} {rs : List (Int × Int)} {bs : List V} (A : Ans H H' p fs s l1 l2 ns rs bs) : ns.length ≤ fs.length := by
  have h := nd_len (l := ns) (m := fs.map (·.1)) (A.o1.imp fun h => by omega) fun n hn => isKey_iff.mp ((A.m1 n).mp hn).2
  rw [List.length_map] at h
  exact h
theorem Ans.len2 {H H' : Hp} {p l1 l2 : Addr} {fs : Fields} {s : Cell} {ns : List Int} {rs : List (Int × Int)} {bs : List V} {k : Nat} (A : Ans H H' p fs s l1 l2 ns rs bs) (w : ∀ q ∈ fs, q.2.length ≤ k) : rs.length ≤ k * fs.length + 1 := by
  have h := nd_len (l := rs.map fun r => Cell.far r.1 r.2) (m := s :: allC fs) ?_ fun c hc => by
    obtain ⟨r, hr, rfl⟩ := List.mem_map.mp hc
    rcases ((A.m2 r).mp hr).src with e | e
    · rw [e]; exact List.mem_cons_self
    · exact List.mem_cons_of_mem _ e
  · rw [List.length_map, List.length_cons] at h
    have := allC_len w
    omega
  · refine List.Pairwise.map _ (fun a b (h : lx a b) e => ?_) A.o2
    injection e with e1 e2
    have : a = b := Prod.ext e1 e2
    subst this
    exact lx_irr a h
theorem Ans.same {H H' H1 H1' : Hp} {p l1 l2 p' l1' l2' : Addr} {fs : Fields} {s : Cell} {ns ns' : List Int} {rs rs' : List (Int × Int)} {bs bs' : List V} (A : Ans H H' p fs s l1 l2 ns rs bs)
    (B : Ans H1 H1' p' fs s l1' l2' ns' rs' bs') : ns = ns' ∧ rs = rs' :=
  ⟨strict_eq (fun x h => by omega) (fun x y h h' => by omega) A.o1 B.o1 fun n => (A.m1 n).trans (B.m1 n).symm, strict_eq lx_irr lx_asy A.o2 B.o2 fun r => (A.m2 r).trans (B.m2 r).symm⟩
/-- the pair at a reference -/
def pairAt (H : Hp) : V → Int × Int
  | .ref t => match H t with
    | some (.tup [.int a, .int b]) => (a, b)
    | _ => (0, 0)
  | _ => (0, 0)
theorem pairAt_of {H : Hp} {r : Int × Int} {v : V} (h : CV H (.far r.1 r.2) v) : pairAt H v = r := by
  obtain ⟨t, rfl, e⟩ := h
  unfold pairAt
  simp only [e]
theorem RVs.pair {H : Hp} {rs : List (Int × Int)} {vs : List V} (h : RVs H rs vs) : vs.map (pairAt H) = rs := by
  induction h with
  | nil => rfl
  | cons q _ ih => rw [List.map_cons, ih, pairAt_of q]
theorem RVs.at_ {H : Hp} {rs : List (Int × Int)} {vs : List V} (h : RVs H rs vs) : ∀ v ∈ vs, ∃ t, v = V.ref t ∧ H t = some (.tup [.int (pairAt H v).1, .int (pairAt H v).2]) := by
  intro v hv
  obtain ⟨j, hj⟩ := List.mem_iff_getElem?.mp hv
  obtain ⟨r, _, q⟩ := pr_r h hj
  rw [pairAt_of q]
  exact q
theorem RVs.of {H : Hp} : ∀ {vs : List V}, (∀ v ∈ vs, ∃ t, v = V.ref t ∧ H t = some (.tup [.int (pairAt H v).1, .int (pairAt H v).2])) → RVs H (vs.map (pairAt H)) vs
  | [], _ => .nil
  | v :: vs, h => .cons (h v List.mem_cons_self) (RVs.of fun u hu => h u (List.mem_cons_of_mem _ hu))
end Ce

/-! The document's world as a plain model: points [3] to [20], without the program. -/
namespace Wd
/-! ## Sorted tables -/
section table
variable {K α : Type} [DecidableEq K] (lt : K → K → Prop) [DecidableRel lt]
def get : List (K × α) → K → Option α
  | [], _ => none
  | (k, v) :: l, x => if k = x then some v else get l x
def put : List (K × α) → K → α → List (K × α)
  | [], x, a => [(x, a)]
  | (k, v) :: l, x, a => if k = x then (x, a) :: l else if lt x k then (x, a) :: (k, v) :: l else (k, v) :: put l x a
def del : List (K × α) → K → List (K × α)
  | [], _ => []
  | (k, v) :: l, x => if k = x then l else (k, v) :: del l x
def Srt (l : List (K × α)) : Prop := l.Pairwise fun p q => lt p.1 q.1
structure Tot : Prop where
  irr : ∀ a, ¬ lt a a
  tra : ∀ a b c, lt a b → lt b c → lt a c
  tot : ∀ a b, a = b ∨ lt a b ∨ lt b a
variable {lt}
theorem get_mem {l : List (K × α)} {x : K} {a : α} (h : get l x = some a) : (x, a) ∈ l := by
  induction l with
  | nil => exact absurd h (by simp [get])
  | cons p l ih =>
    obtain ⟨k, v⟩ := p
    by_cases e : k = x
    · subst e; simp [get] at h; subst h; exact List.mem_cons_self ..
    · simp [get, e] at h; exact List.mem_cons_of_mem _ (ih h)
theorem get_of_mem (L : Tot lt) {l : List (K × α)} (S : Srt lt l) {x : K} {a : α} (h : (x, a) ∈ l) : get l x = some a := by
  induction l with
  | nil => exact absurd h (by simp)
  | cons p l ih =>
    obtain ⟨k, v⟩ := p
    rcases List.mem_cons.1 h with e | e
    · cases e; simp [get]
    · have := (List.pairwise_cons.1 S).1 _ e
      have ne : k ≠ x := fun e => by subst e; exact L.irr _ this
      simp [get, ne]; exact ih (List.pairwise_cons.1 S).2 e
theorem get_none_of {l : List (K × α)} {x : K} (h : ∀ p ∈ l, p.1 ≠ x) : get l x = none := by
  induction l with
  | nil => rfl
  | cons p l ih =>
    obtain ⟨k, v⟩ := p
    have := h (k, v) (List.mem_cons_self ..)
    simp [get, this]; exact ih fun q hq => h q (List.mem_cons_of_mem _ hq)
theorem get_put (L : Tot lt) {l : List (K × α)} {x : K} {a : α} {y : K} : get (put lt l x a) y = if x = y then some a else get l y := by
  induction l with
  | nil => simp [put, get]
  | cons p l ih =>
    obtain ⟨k, v⟩ := p
    unfold put
    split
    · rename_i e; subst e; simp [get]; split <;> simp_all
    · rename_i ne
      split
      · simp [get]
      · simp only [get, ih]
        by_cases e1 : k = y
        · subst e1; simp [Ne.symm ne]
        · simp [e1]
theorem put_mem {l : List (K × α)} {x : K} {a : α} {q : K × α} (h : q ∈ put lt l x a) : q = (x, a) ∨ q ∈ l := by
  induction l with
  | nil => simp [put] at h; exact .inl h
  | cons p l ih =>
    obtain ⟨k, v⟩ := p
    unfold put at h
    split at h
    · rcases List.mem_cons.1 h with e | e
      · exact .inl e
      · exact .inr (List.mem_cons_of_mem _ e)
    · split at h
      · rcases List.mem_cons.1 h with e | e
        · exact .inl e
        · exact .inr e
      · rcases List.mem_cons.1 h with e | e
        · exact .inr (e ▸ List.mem_cons_self ..)
        · rcases ih e with e | e
          · exact .inl e
          · exact .inr (List.mem_cons_of_mem _ e)
theorem put_srt (L : Tot lt) {l : List (K × α)} (S : Srt lt l) {x : K} {a : α} : Srt lt (put lt l x a) := by
  induction l with
  | nil => simp [put, Srt]
  | cons p l ih =>
    obtain ⟨k, v⟩ := p
    have ⟨S1, S2⟩ := List.pairwise_cons.1 S
    unfold put
    split
    · rename_i e; subst e; exact List.pairwise_cons.2 ⟨S1, S2⟩
    · rename_i ne
      split
      · rename_i lx
        refine List.pairwise_cons.2 ⟨fun q hq => ?_, S⟩
        rcases List.mem_cons.1 hq with e | e
        · cases e; exact lx
        · exact L.tra _ _ _ lx (S1 q e)
      · rename_i nlx
        refine List.pairwise_cons.2 ⟨fun q hq => ?_, ih S2⟩
        rcases put_mem hq with e | e
        · cases e
          rcases L.tot k x with e | e | e
          · exact absurd e ne
          · exact e
          · exact absurd e nlx
        · exact S1 q e
theorem del_mem {l : List (K × α)} {x : K} {q : K × α} (h : q ∈ del l x) : q ∈ l := by
  induction l with
  | nil => exact h
  | cons p l ih =>
    obtain ⟨k, v⟩ := p
    unfold del at h
    split at h
    · exact List.mem_cons_of_mem _ h
    · rcases List.mem_cons.1 h with e | e
      · exact e ▸ List.mem_cons_self ..
      · exact List.mem_cons_of_mem _ (ih e)
theorem del_srt {l : List (K × α)} (S : Srt lt l) {x : K} : Srt lt (del l x) := by
  induction l with
  | nil => exact S
  | cons p l ih =>
    obtain ⟨k, v⟩ := p
    have ⟨S1, S2⟩ := List.pairwise_cons.1 S
    unfold del
    split
    · exact S2
    · exact List.pairwise_cons.2 ⟨fun q hq => S1 q (del_mem hq), ih S2⟩
theorem get_del (L : Tot lt) {l : List (K × α)} (S : Srt lt l) {x y : K} : get (del l x) y = if x = y then none else get l y := by
  induction l with
  | nil => simp [del, get]
  | cons p l ih =>
    obtain ⟨k, v⟩ := p
    have ⟨S1, S2⟩ := List.pairwise_cons.1 S
    unfold del
    split
    · rename_i e; subst e
      by_cases e : k = y
      · subst e; simp
        exact get_none_of fun q hq e => L.irr k (by have := S1 q hq; rw [e] at this; exact this)
      · simp [get, e]
    · rename_i ne
      simp only [get, ih S2]
      by_cases e1 : k = y
      · subst e1; simp [Ne.symm ne]
      · simp [e1]
/-- two sorted tables that answer alike are one -/
theorem srt_ext (L : Tot lt) : ∀ {l m : List (K × α)}, Srt lt l → Srt lt m → (∀ x, get l x = get m x) → l = m
  | [], [], _, _, _ => rfl
  | [], (k, v) :: m, _, _, h => by have := h k; simp [get] at this
  | (k, v) :: l, [], _, _, h => by have := h k; simp [get] at this
  | (k, v) :: l, (k', v') :: m, S, S', h => by
    have ⟨S1, S2⟩ := List.pairwise_cons.1 S
    have ⟨T1, T2⟩ := List.pairwise_cons.1 S'
    have hk : k = k' := by
      rcases L.tot k k' with e | e | e
      · exact e
      · have h1 := h k
        have ne : k' ≠ k := fun e' => by subst e'; exact L.irr _ e
        simp [get, ne] at h1
        have := T1 _ (get_mem h1.symm)
        exact absurd (L.tra _ _ _ e this) (L.irr _)
      · have h1 := h k'
        have ne : k ≠ k' := fun e' => by subst e'; exact L.irr _ e
        simp [get, ne] at h1
        have := S1 _ (get_mem h1)
        exact absurd (L.tra _ _ _ e this) (L.irr _)
    subst hk
    have hv : v = v' := by have := h k; simpa [get] using this
    subst hv
    refine congrArg _ (srt_ext L S2 T2 fun x => ?_)
    by_cases e : k = x
    · subst e
      rw [get_none_of fun q hq e => L.irr k (by have := S1 q hq; rw [e] at this; exact this),
        get_none_of fun q hq e => L.irr k (by have := T1 q hq; rw [e] at this; exact this)]
    · have := h x; simpa [get, e] using this
end table
/-! ## Keys -/
abbrev Rf := Int × Int
def ilt (a b : Int) : Prop := a < b
def rlt (a b : Rf) : Prop := a.1 < b.1 ∨ (a.1 = b.1 ∧ a.2 < b.2)
instance : DecidableRel ilt := fun a b => inferInstanceAs (Decidable (a < b))
instance : DecidableRel rlt := fun a b => inferInstanceAs (Decidable (_ ∨ _))
theorem totI : Tot ilt := ⟨fun a h => by unfold ilt at h; omega, fun a b c h g => by unfold ilt at *; omega, fun a b => by unfold ilt; omega⟩
theorem totR : Tot rlt := ⟨fun a h => by unfold rlt at h; omega, fun a b c h g => by unfold rlt at *; omega, fun a b => by
  unfold rlt
  by_cases e1 : a.1 = b.1
  · by_cases e2 : a.2 = b.2
    · exact .inl (Prod.ext e1 e2)
    · omega
  · omega⟩

/-! ## What a site keeps ([4], [5], [7]) -/
inductive Let where
  | give (parcel : Int) (r : Rf) (q : Option Int)
  | enter (num giver : Int)
  | entered (num : Int)
  | got (parcel : Int)
  | leave (num : Int)
  | stamp (num v : Int)
  | fetch (q num field : Int)
  | none (q : Int)
  | ask (wave bound : Int)
  | tell (wave low : Int)
structure Obj where
  mark : Int
  flds : List (Option Rf)
structure Arr where
  giver : Int
  parcel : Int
  r : Rf
  q : Option Int
structure Site where
  objs : List (Int × Obj) := []
  nextO : Int := 0
  vars : List (Option Rf) := List.replicate 8 .none
  inbox : List Rf := []
  pars : List (Int × (Int × Rf)) := []
  nextP : Int := 0
  ques : List (Int × (Rf × Int)) := []
  nextQ : Int := 0
  arrs : List Arr := []
  hlds : List (Rf × Option Int) := []
  ents : List (Rf × Option Int) := []
  clock : Int := 0
  bound : Int := 0
  settled : Int := 0
  low : Int := 0
  pending : Option Int := .none
  /-- how many letters were put into the channel to each site when it collected last -/
  noted : Int → Nat := fun _ => 0
/-- a channel: what was put, how many of it were accepted, how many are acknowledged -/
structure Chan where
  sent : List Let := []
  taken : Nat := 0
  acked : Nat := 0
inductive Pkt where
  | data (s t : Int) (n : Nat) (l : Let)
  | ack (s t : Int) (n : Nat)
structure World where
  n : Int
  site : Int → Site := fun _ => {}
  chan : Int → Int → Chan := fun _ _ => {}
  net : List Pkt := []
  wave : Int := 0
  /-- the answers to the wave that is open: the site and its low value -/
  opened : Option (List (Int × Int)) := .none
/-- a change at one place -/
def upd {α : Type} (f : Int → α) (i : Int) (a : α) : Int → α := fun j => if j = i then a else f j
theorem upd_self {α : Type} {f : Int → α} {i : Int} {a : α} : upd f i a i = a := by simp [upd]
theorem upd_ne {α : Type} {f : Int → α} {i j : Int} {a : α} (h : j ≠ i) : upd f i a j = f j := by simp [upd, h]
namespace World
def setS (w : World) (s : Int) (S : Site) : World := { w with site := upd w.site s S }
def setC (w : World) (s t : Int) (c : Chan) : World := { w with chan := upd w.chan s (upd (w.chan s) t c) }
/-- to put a letter of s for t -/
def putL (w : World) (s t : Int) (l : Let) : World := w.setC s t { w.chan s t with sent := (w.chan s t).sent ++ [l] }
def putAll (w : World) (s : Int) : List (Int × Let) → World
  | [] => w
  | (t, l) :: ls => (w.putL s t l).putAll s ls
def others (w : World) (s : Int) : List Int := ((List.range w.n.toNat).map Int.ofNat).filter (· ≠ s)
end World
/-! ## [9] -/
namespace Site
def lower (S : Site) (v : Int) : Site :=
  let st := min S.settled v
  { S with settled := st, pending := S.pending.map (min · v), low := min S.low st }
/-- to the stamp of an entry -/
def lowerTo (S : Site) (h n : Int) : Site :=
  match get S.ents (h, n) with
  | some (some v) => S.lower v
  | _ => S
/-- [12] -/
def recv (S : Site) (giver parcel : Int) (r : Rf) (q : Option Int) : Site × List (Int × Let) :=
  ({ S with inbox := S.inbox ++ [r], ques := match q with | some q => del S.ques q | _ => S.ques }, [(giver, .got parcel)])
def var (S : Site) (v : Int) : Option Rf := (S.vars[v.toNat]?).getD .none
def setV (S : Site) (v : Int) (x : Option Rf) : Site := { S with vars := S.vars.set v.toNat x }
/-- the contents of a field: no such object or field, or what it contains -/
def fld (S : Site) (n f : Int) : Option (Option Rf) := do
  let o ← get S.objs n
  if f < 0 then .none else o.flds[f.toNat]?
def setF (S : Site) (n f : Int) (x : Option Rf) : Site :=
  match get S.objs n with
  | some o => { S with objs := put ilt S.objs n { o with flds := o.flds.set f.toNat x } }
  | _ => S
def fstArr (r : Rf) : List Arr → Option Arr
  | [] => .none
  | a :: l => if a.r = r then some a else fstArr r l
def delArr (r : Rf) : List Arr → List Arr
  | [] => []
  | a :: l => if a.r = r then l else a :: delArr r l
/-- [11], all letters but `tell`: site s accepts a letter from f -/
def handle (S : Site) (s f : Int) : Let → Site × List (Int × Let)
  | .give p r q =>
    if r.1 = s then (S.lowerTo f r.2).recv f p r q
    else
      ({ S with
          arrs := S.arrs ++ [⟨f, p, r, q⟩]
          hlds := match get S.hlds r with | some _ => put rlt S.hlds r .none | _ => S.hlds }, [(r.1, .enter r.2 f)])
  | .enter n g =>
    let S1 := if g = s then S else S.lowerTo g n
    ({ S1 with ents := put rlt S1.ents (f, n) .none }, [(f, .entered n)])
  | .entered n =>
    match fstArr (f, n) S.arrs with
    | some a =>
      let S1 : Site := { S with
        arrs := delArr (f, n) S.arrs
        hlds := match get S.hlds (f, n) with | some _ => S.hlds | _ => put rlt S.hlds (f, n) .none }
      S1.recv a.giver a.parcel (f, n) a.q
    | _ => (S, [])
  | .got p => ({ S with pars := del S.pars p }, [])
  | .leave n => ({ S with ents := del S.ents (f, n) }, [])
  | .stamp n v =>
    match get S.ents (f, n) with
    | some .none => ({ S with ents := put rlt S.ents (f, n) (some v) }, [])
    | some (some u) => if u < v then ({ S.lower u with ents := put rlt S.ents (f, n) (some v) }, []) else (S, [])
    | _ => (S, [])
  | .fetch q n i =>
    let S1 := S.lowerTo f n
    match S1.fld n i with
    | some (some r) => ({ S1 with pars := put ilt S1.pars S1.nextP (f, r), nextP := S1.nextP + 1 }, [(f, .give S1.nextP r (some q))])
    | _ => (S1, [(f, .none q)])
  | .none q => ({ S with ques := del S.ques q }, [])
  | .ask w b => ({ S with clock := w, bound := b, low := S.settled }, [(f, .tell w S.low)])
  | .tell _ _ => (S, [])
end Site
/-! ## [6], [16], [17] -/
namespace World
/-- the wave is closed when all others have answered -/
def close (w : World) : World :=
  match w.opened with
  | some ls =>
    if ∀ t ∈ w.others 0, t ∈ ls.map Prod.fst then
      let m := (ls.map Prod.snd).foldl min ((ls.head?.map Prod.snd).getD 0)
      { w.setS 0 { w.site 0 with bound := max (w.site 0).bound m } with opened := .none }
    else w
  | _ => w
/-- a wave begins, and is not looked at yet -/
def begun (w : World) : World :=
  let S := w.site 0
  let w1 : World := { w.setS 0 { S with clock := w.wave + 1, low := S.settled } with wave := w.wave + 1, opened := some [(0, S.low)] }
  w1.putAll 0 ((w1.others 0).map fun t => (t, .ask (w.wave + 1) S.bound))
def beginWave (w : World) : World :=
  match w.opened with
  | some _ => w
  | _ => w.begun.close
def accept (w : World) (s f : Int) : Let → World
  | .tell _ l => ({ w with opened := w.opened.map (· ++ [(f, l)]) } : World).close
  | l => let R := (w.site s).handle s f l; (w.setS s R.1).putAll s R.2
/-- [15] -/
def settle (w : World) (s : Int) : World :=
  match (w.site s).pending with
  | some p => if ∀ t ∈ w.others s, (w.site s).noted t ≤ (w.chan s t).acked then w.setS s { w.site s with settled := p, pending := .none } else w
  | _ => w
/-- the packets that a channel owes -/
def owed (s t : Int) (c : Chan) : List Pkt := (List.range (c.sent.length - c.acked)).filterMap fun i => (c.sent[c.acked + i]?).map (.data s t (c.acked + i + 1))
def send (w : World) (s : Int) : World := { w with net := w.net ++ (w.others s).flatMap fun t => owed s t (w.chan s t) }
def arrive (w : World) : Pkt → World
  | .data s t n l =>
    let c := w.chan s t
    let w1 := if n = c.taken + 1 then (w.setC s t { c with taken := c.taken + 1 }).accept t s l else w
    { w1 with net := w1.net ++ [.ack t s (w1.chan s t).taken] }
  | .ack s t n => (w.setC t s { w.chan t s with acked := max (w.chan t s).acked n }).settle t
def deliver (w : World) (i : Nat) : Option World := (w.net[i]?).map fun p => ({ w with net := w.net.eraseIdx i } : World).arrive p
def lose (w : World) (i : Nat) : Option World := (w.net[i]?).map fun _ => { w with net := w.net.eraseIdx i }
def again (w : World) (i : Nat) : Option World := (w.net[i]?).map fun p => { w with net := w.net ++ [p] }
/-- [18]; a number of turns stands for the repetition -/
def drain : Nat → World → World
  | 0, w => w
  | k + 1, w => match w.deliver 0 with | some w1 => drain k w1 | _ => w
inductive Drained : World → World → Prop
  | done {w : World} (h : w.net = []) : Drained w w
  | step {w w1 w2 : World} (h : w.deliver 0 = some w1) (g : Drained w1 w2) : Drained w w2
def sites (w : World) : List Int := (List.range w.n.toNat).map Int.ofNat
def quiet (w : World) : Prop := w.net = [] ∧ ∀ s ∈ w.sites, ∀ t ∈ w.others s, (w.chan s t).acked = (w.chan s t).sent.length
inductive Flushed : World → World → Prop
  | done {w : World} (h : w.quiet) : Flushed w w
  | turn {w w1 w2 : World} (h : ¬ w.quiet) (g : Drained (w.sites.foldl send w) w1) (k : Flushed w1 w2) : Flushed w w2
/-! ## [10] -/
def make (w : World) (s v size mark : Int) : World :=
  let S := w.site s
  w.setS s { S.setV v (some (s, S.nextO)) with objs := put ilt S.objs S.nextO ⟨mark, List.replicate size.toNat .none⟩, nextO := S.nextO + 1 }
def assign (w : World) (s a b : Int) : World := w.setS s ((w.site s).setV b ((w.site s).var a))
def reset (w : World) (s v : Int) : World := w.setS s ((w.site s).setV v .none)
def give (w : World) (s : Int) (r : Rf) (t : Int) : World :=
  let S := w.site s
  (w.setS s { S with pars := put ilt S.pars S.nextP (t, r), nextP := S.nextP + 1 }).putL s t (.give S.nextP r .none)
def take (w : World) (s v : Int) : World :=
  match (w.site s).inbox with
  | r :: l => w.setS s { (w.site s).setV v (some r) with inbox := l }
  | [] => w
def fetch (w : World) (s : Int) (r : Rf) (f : Int) : World :=
  let S := w.site s
  (w.setS s { S with ques := put ilt S.ques S.nextQ (r, f), nextQ := S.nextQ + 1 }).putL s r.1 (.fetch S.nextQ r.2 f)
end World
/-! ## [8], [13], [14], [20] -/
namespace Site
/-- the roots of a site -/
def roots (S : Site) : List Rf := S.vars.filterMap id ++ S.inbox ++ S.pars.map (·.2.2) ++ S.ques.map (·.2.1) ++ S.arrs.map (·.r)
/-- within site s: the thing that a source starts at leads to the thing r -/
inductive Leads (S : Site) (s : Int) : Rf → Rf → Prop
  | far {r : Rf} (h : r.1 ≠ s) : Leads S s r r
  | here {n : Int} {o : Obj} (h : get S.objs n = some o) : Leads S s (s, n) (s, n)
  | step {a r : Rf} {n : Int} {o : Obj} (h : Leads S s a (s, n)) (g : get S.objs n = some o) (m : some r ∈ o.flds)
      (k : r.1 ≠ s ∨ ∃ o', get S.objs r.2 = some o') : Leads S s a r
/-- the sources with their values -/
def srcs (S : Site) (s : Int) : List (Rf × Int) := S.roots.map (·, S.clock) ++ S.ents.map fun e => ((s, e.1.2), e.2.getD S.clock)
open Classical in
/-- the greatest value of the sources that reach a thing -/
noncomputable def val (S : Site) (s : Int) (r : Rf) : Option Int :=
  ((S.srcs s).filter fun q => Leads S s q.1 r).map Prod.snd |>.max?
/-- [14], holding by holding -/
noncomputable def sweep (S : Site) (s : Int) : List (Rf × Option Int) → Site × List (Int × Let) → Site × List (Int × Let)
  | [], T => T
  | (r, told) :: hs, (T, ls) =>
    sweep S s hs <| match S.val s r with
      | .none => ({ T with hlds := del T.hlds r }, ls ++ [(r.1, .leave r.2)])
      | some v0 =>
        let v := if told = .none then max v0 T.settled else v0
        if told = .none ∨ (∃ u ∈ told, u < v) then ({ T with hlds := put rlt T.hlds r (some v) }, ls ++ [(r.1, .stamp r.2 v)])
        else (T, ls)
end Site
/-- what v of [14] is: a fresh told stamp takes at least the settled value -/
theorem fresh_val {v u : Int} : max v u = if v < u then u else v := by split <;> omega
namespace World
open Classical in
noncomputable def collect (w : World) (s : Int) : World :=
  let S0 := w.site s
  let S1 : Site := { S0 with ents := S0.ents.filter fun e => match e.2 with | some v => decide (S0.bound ≤ v) | _ => true }
  let S2 : Site := { S1 with objs := S1.objs.filter fun o => (S1.val s (s, o.1)).isSome }
  let R := S1.sweep s S1.hlds (S2, [])
  let w1 := (w.setS s R.1).putAll s R.2
  (w1.setS s { w1.site s with pending := some S0.clock, noted := fun t => (w1.chan s t).sent.length }).settle s
/-- the objects that a root of any site leads to -/
inductive Live (w : World) : Rf → Prop
  | root {s : Int} {r : Rf} (h : s ∈ w.sites) (g : r ∈ (w.site s).roots) : Live w r
  | step {r r' : Rf} {o : Obj} (h : Live w r) (g : get (w.site r.1).objs r.2 = some o) (m : some r' ∈ o.flds) : Live w r'
end World
end Wd

/-! A world as it stands in the heap: each of its objects has a place; M says where the place lies. -/
namespace Wo
open PySem PySem.Spec PyProof.Rows L2 Fh Sx
abbrev Rf := Int × Int
def dRf (r : Rf) : PyData := .tuple [.int r.1, .int r.2]
def dOr : Option Rf → PyData
  | none => .none
  | some r => dRf r
def dOi : Option Int → PyData
  | none => .none
  | some i => .int i
def vOi : Option Int → V
  | none => .non
  | some i => .int i
def kRf (r : Rf) : List Key := [.inl r.1, .inl r.2]
/-- places of a site -/
inductive Sl where
  | site | mail | ages | objs | objD | vars | inbox | parc | parD | ques | queD | arr | hold | ents | awt | noted | others | outD | incD
  | out (j : Int) | outL (j : Int) | inc (j : Int) | item (n : Int) | itemL (n : Int)
  deriving DecidableEq
inductive WS where
  | world | sites | net | netL | of (i : Int) (s : Sl)
  deriving DecidableEq
structure Itm where
  mark : Int
  flds : List (Option Rf)
structure OutS where
  ack : Int
  lets : List Wd.Let
def dLet : Wd.Let → PyData
  | .give p r q => .tuple [.str "give", .int p, dRf r, dOi q]
  | .enter n g => .tuple [.str "enter", .int n, .int g]
  | .entered n => .tuple [.str "entered", .int n]
  | .got p => .tuple [.str "got", .int p]
  | .leave n => .tuple [.str "leave", .int n]
  | .stamp n v => .tuple [.str "stamp", .int n, .int v]
  | .fetch q n f => .tuple [.str "fetch", .int q, .int n, .int f]
  | .none q => .tuple [.str "none", .int q]
  | .ask w b => .tuple [.str "ask", .int w, .int b]
  | .tell w l => .tuple [.str "tell", .int w, .int l]
def dPk : Wd.Pkt → PyData
  | .data s t n l => .tuple [.int s, .int t, .str "data", .int (n : Int), dLet l]
  | .ack s t n => .tuple [.int s, .int t, .str "ack", .int (n : Int), .none]
structure Arr where
  giver : Int
  par : Int
  ref : Rf
  que : Option Int
def dArr (a : Arr) : PyData := .tuple [.int a.giver, .int a.par, dRf a.ref, dOi a.que]
structure SSt where
  objs : List Int
  itm : Int → Itm
  oc : Int
  vars : List (Option Rf)
  inbox : List Rf
  parc : List (Int × (Int × Rf))
  pc : Int
  ques : List (Int × (Rf × Int))
  qc : Int
  arrs : List Arr
  hold : List (Rf × Option Int)
  ents : List (Rf × Option Int)
  awt : List (Int × Int)
  noted : List Int
  waves : Int
  clock : Int
  bound : Int
  settled : Int
  low : Int
  pend : Option Int
  outs : Int → OutS
  incs : Int → Int
structure WSt where
  n : Nat
  st : Int → SSt
  net : List Wd.Pkt
def WSt.set (W : WSt) (i : Int) (S : SSt) : WSt := { W with st := fun j => if j = i then S else W.st j }
theorem WSt.set_same {W : WSt} {i : Int} {S : SSt} : (W.set i S).st i = S := if_pos rfl
theorem WSt.set_ne {W : WSt} {i j : Int} {S : SSt} (h : j ≠ i) : (W.set i S).st j = W.st j := if_neg h
def sitesL (n : Nat) : List Int := (List.range n).map fun (k : Nat) => (k : Int)
def othersL (n : Nat) (i : Int) : List Int := (sitesL n).filter fun j => decide (j ≠ i)
theorem mem_sitesL {n : Nat} {i : Int} : i ∈ sitesL n ↔ 0 ≤ i ∧ i < n := by
  unfold sitesL
  rw [List.mem_map]
  constructor
  · rintro ⟨k, hk, rfl⟩
    have := List.mem_range.mp hk
    omega
  · rintro ⟨h0, h1⟩
    exact ⟨i.toNat, List.mem_range.mpr (by omega), Int.toNat_of_nonneg h0⟩
theorem mem_othersL {n : Nat} {i j : Int} : j ∈ othersL n i ↔ (0 ≤ j ∧ j < n) ∧ j ≠ i := by
  unfold othersL
  rw [List.mem_filter, mem_sitesL]
  simp
section
variable (K : PySem.W.Frag) (M : WS → Addr)
def siteL (i : Int) (S : SSt) : List (Str × V) := [("number", .int i), ("mail", .ref (M (.of i .mail))), ("ages", .ref (M (.of i .ages))), ("objects", .ref (M (.of i .objs))), ("variables", .ref (M (.of i .vars))), ("inbox", .ref (M (.of i .inbox))),
  ("parcels", .ref (M (.of i .parc))), ("questions", .ref (M (.of i .ques))), ("arrivals", .ref (M (.of i .arr))), ("holdings", .ref (M (.of i .hold))), ("entries", .ref (M (.of i .ents))), ("_awaited", .ref (M (.of i .awt))), ("_noted", .ref (M (.of i .noted))), ("_waves", .int S.waves)]
def mailL (i : Int) : List (Str × V) := [("_number", .int i), ("others", .ref (M (.of i .others))), ("_outgoing", .ref (M (.of i .outD))), ("_incoming", .ref (M (.of i .incD)))]
def agesL (S : SSt) : List (Str × V) := [("clock", .int S.clock), ("bound", .int S.bound), ("settled", .int S.settled), ("low", .int S.low), ("pending", vOi S.pend)]
def numL (d : Addr) (c : Int) : List (Str × V) := [("things", .ref d), ("_created", .int c)]
def outgL (l : Addr) (a : Int) : List (Str × V) := [("_letters", .ref l), ("_acknowledged", .int a)]
def itemF (l : Addr) (m : Int) : List (Str × V) := [("mark", .int m), ("fields", .ref l)]
def incmL (c : Int) : List (Str × V) := [("count", .int c)]
def netwL (d : Addr) : List (Str × V) := [("_packets", .ref d)]
def worldL : List (Str × V) := [("_sites", .ref (M .sites)), ("_network", .ref (M .net))]
/-- what stands at a place of site i -/
def Cs (n : Nat) (i : Int) (S : SSt) (H : Hp) : Sl → HO → Prop
  | .site, o => ∃ dx, o = .ins (He.ga K "Site") dx (siteL M i S)
  | .mail, o => ∃ dx, o = .ins (He.ga K "Mail") dx (mailL M i)
  | .ages, o => ∃ dx, o = .ins (He.ga K "Ages") dx (agesL S)
  | .objs, o => ∃ dx, o = .ins (He.ga K "Numbered") dx (numL (M (.of i .objD)) S.oc)
  | .objD, o => o = .dK (S.objs.map fun n => (Sum.inl n, V.ref (M (.of i (.item n)))))
  | .vars, o => ∃ vs, o = .lst vs ∧ TDs H vs (S.vars.map dOr)
  | .inbox, o => ∃ vs, o = .lst vs ∧ TDs H vs (S.inbox.map dRf)
  | .parc, o => ∃ dx, o = .ins (He.ga K "Numbered") dx (numL (M (.of i .parD)) S.pc)
  | .parD, o => ∃ vs, o = .dK ((S.parc.map fun p => (Sum.inl p.1 : Key)).zip vs) ∧ TDs H vs (S.parc.map fun p => PyData.tuple [.int p.2.1, dRf p.2.2])
  | .ques, o => ∃ dx, o = .ins (He.ga K "Numbered") dx (numL (M (.of i .queD)) S.qc)
  | .queD, o => ∃ vs, o = .dK ((S.ques.map fun p => (Sum.inl p.1 : Key)).zip vs) ∧ TDs H vs (S.ques.map fun p => PyData.tuple [dRf p.2.1, .int p.2.2])
  | .arr, o => ∃ vs, o = .lst vs ∧ TDs H vs (S.arrs.map dArr)
  | .hold, o => o = .dT (S.hold.map fun p => (kRf p.1, vOi p.2))
  | .ents, o => o = .dT (S.ents.map fun p => (kRf p.1, vOi p.2))
  | .awt, o => o = .dK (S.awt.map fun p => (Sum.inl p.1, V.int p.2))
  | .noted, o => o = .lst (S.noted.map V.int)
  | .others, o => o = .lst ((othersL n i).map V.int)
  | .outD, o => o = .dK ((othersL n i).map fun j => (Sum.inl j, V.ref (M (.of i (.out j)))))
  | .incD, o => o = .dK ((othersL n i).map fun j => (Sum.inl j, V.ref (M (.of i (.inc j)))))
  | .out j, o => ∃ dx, o = .ins (He.ga K "Outgoing") dx (outgL (M (.of i (.outL j))) (S.outs j).ack)
  | .outL j, o => ∃ vs, o = .lst vs ∧ TDs H vs ((S.outs j).lets.map dLet)
  | .inc j, o => ∃ dx, o = .ins (He.ga K "Incoming") dx (incmL (S.incs j))
  | .item m, o => ∃ dx, o = .ins (He.ga K "Item") dx (itemF (M (.of i (.itemL m))) (S.itm m).mark)
  | .itemL m, o => ∃ vs, o = .lst vs ∧ TDs H vs ((S.itm m).flds.map dOr)
def Ds (n : Nat) (i : Int) (S : SSt) : Sl → Prop
  | .out j => j ∈ othersL n i
  | .outL j => j ∈ othersL n i
  | .inc j => j ∈ othersL n i
  | .item m => m ∈ S.objs
  | .itemL m => m ∈ S.objs
  | _ => True
def Cn (W : WSt) (H : Hp) : WS → HO → Prop
  | .world, o => ∃ dx, o = .ins (He.ga K "World") dx (worldL M)
  | .sites, o => o = .lst ((sitesL W.n).map fun i => V.ref (M (.of i .site)))
  | .net, o => ∃ dx, o = .ins (He.ga K "Network") dx (netwL (M .netL))
  | .netL, o => ∃ vs, o = .lst vs ∧ TDs H vs (W.net.map dPk)
  | .of i s, o => Cs K M W.n i (W.st i) H s o
def Dom (W : WSt) : WS → Prop
  | .of i s => i ∈ sitesL W.n ∧ Ds W.n i (W.st i) s
  | _ => True
structure WAt (H : Hp) (W : WSt) : Prop where
  at_ : ∀ s, Dom W s → ∃ o, H (M s) = some o ∧ Cn K M W H s o
  inj : ∀ s t, Dom W s → Dom W t → M s = M t → s = t
end
section
variable {K : PySem.W.Frag} {M M' : WS → Addr} {H H' H1 : Hp} {W W' W1 : WSt} {s t : WS} {o o' : HO} {n : Nat} {i : Int} {S S' : SSt} {x y : Sl}
theorem Cs.tl (tl : TSame H H') (c : Cs K M n i S H x o) : Cs K M n i S H' x o := by
  cases x <;> first
    | exact c
    | (obtain ⟨vs, e, h⟩ := c; exact ⟨vs, e, h.mono tl⟩)
theorem Cn.tl (tl : TSame H H') (c : Cn K M W H s o) : Cn K M W H' s o := by
  cases s with
  | of i x => exact Cs.tl tl c
  | netL => obtain ⟨vs, e, h⟩ := c; exact ⟨vs, e, h.mono tl⟩
  | _ => exact c
theorem Cs.nc (c : Cs K M n i S H x o) : NC o = true ∧ ∀ xs, o ≠ .tup xs := by
  cases x <;> first
    | (obtain ⟨a, rfl⟩ := c; exact ⟨rfl, fun xs z => (nomatch z)⟩)
    | (obtain ⟨a, rfl, _⟩ := c; exact ⟨rfl, fun xs z => (nomatch z)⟩)
    | (cases (show o = _ from c); exact ⟨rfl, fun xs z => (nomatch z)⟩)
theorem Cn.nc (c : Cn K M W H s o) : NC o = true ∧ ∀ xs, o ≠ .tup xs := by
  cases s with
  | of i x => exact Cs.nc c
  | netL => obtain ⟨a, rfl, _⟩ := c; exact ⟨rfl, fun xs z => (nomatch z)⟩
  | sites => cases (show o = _ from c); exact ⟨rfl, fun xs z => (nomatch z)⟩
  | _ => obtain ⟨a, rfl⟩ := c; exact ⟨rfl, fun xs z => (nomatch z)⟩
/-- what changed is a part of the world, or new -/
structure Ch (T : Addr × Str) (M : WS → Addr) (W : WSt) (H : Hp) (M' : WS → Addr) (W' : WSt) (H' : Hp) : Prop where
  kp : ∀ b o, H b = some o → NT o = true → (∀ s, Dom W s → b ≠ M s) → H' b = some o
  fr : ∀ s, Dom W' s → (∃ t, Dom W t ∧ M' s = M t) ∨ H (M' s) = none
  tl : TSame H H'
  isT : ∀ P ps, H P = some (.tbl ps) → ∃ ps', H' P = some (.tbl ps')
  tb : LamX.TabS H T.1 T.2 → LamX.TabS H' T.1 T.2
variable {T : Addr × Str}
theorem Ch.refl : Ch T M W H M W H := ⟨fun _ _ h _ _ => h, fun s h => .inl ⟨s, h, rfl⟩, fun _ _ h => h, fun _ ps h => ⟨ps, h⟩, fun h => h⟩
theorem Ch.trans {M1 : WS → Addr} (a : Ch T M W H M1 W1 H1) (b : Ch T M1 W1 H1 M' W' H') : Ch T M W H M' W' H' where
  kp := fun c o h n hn => b.kp c o (a.kp c o h n hn) n fun s hs e => by
    rcases a.fr s hs with ⟨t, ht, e2⟩ | e2
    · exact hn t ht (e.trans e2)
    · rw [← e, h] at e2
      cases e2
  fr := fun s hs => by
    rcases b.fr s hs with ⟨t, ht, e⟩ | e
    · rcases a.fr t ht with ⟨u, hu, e2⟩ | e2
      · exact .inl ⟨u, hu, e.trans e2⟩
      · exact .inr (by rw [e]; exact e2)
    · refine Classical.byContradiction fun z => ?_
      have z := not_or.mp z
      cases q : H (M' s) with
      | none => exact z.2 q
      | some o =>
        have nw : ∀ t, Dom W t → M' s ≠ M t := fun t ht e3 => z.1 ⟨t, ht, e3⟩
        cases nt : NT o with
        | true =>
          have := a.kp _ o q nt nw
          rw [e] at this
          cases this
        | false =>
          cases o with
          | tbl ps =>
            obtain ⟨ps', h1⟩ := a.isT _ ps q
            rw [e] at h1
            cases h1
          | _ => cases nt
  tl := fun c xs h => b.tl c xs (a.tl c xs h)
  isT := fun P ps h => by
    obtain ⟨ps', h1⟩ := a.isT P ps h
    exact b.isT P ps' h1
  tb := fun h => b.tb (a.tb h)
theorem Ch.sm (s : Sm T H H') : Ch T M W H M W H' := ⟨fun b o h n _ => s.at_ b o h n, fun s h => .inl ⟨s, h, rfl⟩, s.tups, s.isT, s.tb⟩
/-- a thing apart from the world stays, and stays apart -/
theorem Ch.keep (c : Ch T M W H M' W' H') {b : Addr} {o : HO} (h : H b = some o) (hn : ∀ s, Dom W s → b ≠ M s) (nt : NT o = true := by rfl) : H' b = some o ∧ ∀ s, Dom W' s → b ≠ M' s := by
  refine ⟨c.kp b o h nt hn, fun s hs e => ?_⟩
  rcases c.fr s hs with ⟨t, ht, e2⟩ | e2
  · exact hn t ht (e.trans e2)
  · rw [← e, h] at e2
    cases e2
theorem WAt.tl (R : WAt K M H W) (h : ∀ s, Dom W s → H' (M s) = H (M s)) (tl : TSame H H') : WAt K M H' W := ⟨fun s hs => by
  obtain ⟨o, e, c⟩ := R.at_ s hs
  exact ⟨o, (h s hs).trans e, c.tl tl⟩, R.inj⟩
theorem WAt.sm (R : WAt K M H W) (s : Sm T H H') : WAt K M H' W := ⟨fun t ht => by
  obtain ⟨o, e, c⟩ := R.at_ t ht
  have nc := c.nc.1
  refine ⟨o, s.at_ _ _ e ?_, c.tl s.tups⟩
  cases o <;> (first | rfl | (cases nc)), R.inj⟩
theorem WAt.same (R : WAt K M H W) (s : Same H H') : WAt K M H' W := R.sm (T := (0, "")) (.of s)
/-- one place changes -/
theorem WAt.put (R : WAt K M H W) (W' : WSt) {s0 : WS} (hD : ∀ s, Dom W' s → Dom W s) (h0 : Dom W s0) (hc : Cn K M W' H s0 o') (hs : ∀ s o, s ≠ s0 → Dom W s → Cn K M W H s o → Cn K M W' H s o) : WAt K M (upd H (M s0) o') W' ∧ Ch T M W H M W' (upd H (M s0) o') := by
  obtain ⟨u, eu, cu⟩ := R.at_ s0 h0
  have tl : TSame H (upd H (M s0) o') := fun b xs h => by
    rw [upd_ne]
    · exact h
    · rintro rfl
      rw [eu] at h
      exact cu.nc.2 xs (Option.some.inj h)
  have nt : ∀ P ps, H P = some (.tbl ps) → P ≠ M s0 := fun P ps h z => by
    subst z
    rw [eu] at h
    have := cu.nc.1
    cases h
    cases this
  refine ⟨⟨fun s hs' => ?_, fun s t h1 h2 => R.inj s t (hD s h1) (hD t h2)⟩, ⟨fun b o h _ hn => ?_, fun s h => .inl ⟨s, hD s h, rfl⟩, tl, fun P ps h => ⟨ps, by rw [upd_ne (nt P ps h)]; exact h⟩, fun h => ?_⟩⟩
  · by_cases e : s = s0
    · subst e
      exact ⟨o', upd_same, hc.tl tl⟩
    · obtain ⟨o, e1, c1⟩ := R.at_ s (hD s hs')
      refine ⟨o, ?_, (hs s o e (hD s hs') c1).tl tl⟩
      rw [upd_ne fun z => e (R.inj s s0 (hD s hs') h0 z)]
      exact e1
  · rw [upd_ne (hn s0 h0)]
    exact h
  · obtain ⟨ps, a1, a2, a3⟩ := h
    refine ⟨ps, by rw [upd_ne (nt _ _ a1)]; exact a1, a2, fun pos cv hcv => ?_⟩
    obtain ⟨c, e1, e2⟩ := a3 pos cv hcv
    refine ⟨c, e1, ?_⟩
    rw [upd_ne]
    · exact e2
    · rintro rfl
      rw [eu] at e2
      have := cu.nc.1
      cases e2
      cases this
theorem dom_set {i : Int} (h : (S'.objs = (W.st i).objs)) : ∀ s, Dom (W.set i S') s → Dom W s := fun s hs => by
  cases s with
  | of j x =>
    refine ⟨hs.1, ?_⟩
    by_cases e : j = i
    · subst e
      have q := hs.2
      rw [WSt.set_same] at q
      cases x <;> first | exact q | exact (show _ ∈ _ from h ▸ q)
    · have q := hs.2
      rw [WSt.set_ne e] at q
      exact q
  | _ => trivial
/-- one place of site i changes -/
theorem WAt.putS (R : WAt K M H W) {i : Int} {x : Sl} (S' : SSt) (hi : i ∈ sitesL W.n) (hx : Ds W.n i (W.st i) x) (ho : S'.objs = (W.st i).objs) (hc : Cs K M W.n i S' H x o') (hs : ∀ y o, y ≠ x → Cs K M W.n i (W.st i) H y o → Cs K M W.n i S' H y o) :
    WAt K M (upd H (M (.of i x)) o') (W.set i S') ∧ Ch T M W H M (W.set i S') (upd H (M (.of i x)) o') := by
  refine R.put (W.set i S') (dom_set ho) ⟨hi, hx⟩ ?_ fun s o ne hD c => ?_
  · show Cs K M W.n i ((W.set i S').st i) H x o'
    rw [WSt.set_same]
    exact hc
  · cases s with
    | of j y =>
      show Cs K M W.n j ((W.set i S').st j) H y o
      by_cases e : j = i
      · subst e
        rw [WSt.set_same]
        exact hs y o (fun z => ne (by rw [z])) c
      · rw [WSt.set_ne e]
        exact c
    | _ => exact c
/-- what stands at a place of site i -/
theorem WAt.of (R : WAt K M H W) {i : Int} (hi : i ∈ sitesL W.n) (x : Sl) (hx : Ds W.n i (W.st i) x) : ∃ o, H (M (.of i x)) = some o ∧ Cs K M W.n i (W.st i) H x o := R.at_ (.of i x) ⟨hi, hx⟩
end
end Wo

/-! A site, then a world, is built. -/
namespace Wo
open PySem PySem.Spec PyProof.Rows L2 Fh Sx
def mkS (m : Sl → Addr) : WS → Addr
  | .of _ x => m x
  | _ => 0
def upm (m : Sl → Addr) (x : Sl) (a : Addr) : Sl → Addr := fun y => if y = x then a else m y
theorem upm_same {m : Sl → Addr} {x : Sl} {a : Addr} : upm m x a x = a := if_pos rfl
theorem upm_ne {m : Sl → Addr} {x y : Sl} {a : Addr} (h : y ≠ x) : upm m x a y = m y := if_neg h
/-- which places the object at a place refers to -/
def Ref (n : Nat) (i : Int) (S : SSt) : Sl → Sl → Prop
  | .site, y => y ∈ [Sl.mail, .ages, .objs, .vars, .inbox, .parc, .ques, .arr, .hold, .ents, .awt, .noted]
  | .mail, y => y ∈ [Sl.others, .outD, .incD]
  | .objs, y => y = .objD
  | .objD, y => ∃ k ∈ S.objs, y = .item k
  | .parc, y => y = .parD
  | .ques, y => y = .queD
  | .outD, y => ∃ j ∈ othersL n i, y = .out j
  | .incD, y => ∃ j ∈ othersL n i, y = .inc j
  | .out j, y => y = .outL j
  | .item k, y => y = .itemL k
  | _, _ => False
section
variable {K : PySem.W.Frag} {M M' : WS → Addr} {H H' H0 : Hp} {n : Nat} {i : Int} {S : SSt} {x y : Sl} {o : HO} {m m' : Sl → Addr}
theorem Cs.congr (h : ∀ y, Ref n i S x y → M (.of i y) = M' (.of i y)) (c : Cs K M n i S H x o) : Cs K M' n i S H x o := by
  cases x with
  | site =>
    have e : siteL M i S = siteL M' i S := by
      unfold siteL
      rw [h .mail (by simp [Ref]), h .ages (by simp [Ref]), h .objs (by simp [Ref]), h .vars (by simp [Ref]), h .inbox (by simp [Ref]), h .parc (by simp [Ref]), h .ques (by simp [Ref]), h .arr (by simp [Ref]), h .hold (by simp [Ref]), h .ents (by simp [Ref]), h .awt (by simp [Ref]), h .noted (by simp [Ref])]
    obtain ⟨dx, c⟩ := c
    exact ⟨dx, by rw [← e]; exact c⟩
  | mail =>
    have e : mailL M i = mailL M' i := by
      unfold mailL
      rw [h .others (by simp [Ref]), h .outD (by simp [Ref]), h .incD (by simp [Ref])]
    obtain ⟨dx, c⟩ := c
    exact ⟨dx, by rw [← e]; exact c⟩
  | objs => obtain ⟨dx, c⟩ := c; exact ⟨dx, by rw [← h .objD rfl]; exact c⟩
  | parc => obtain ⟨dx, c⟩ := c; exact ⟨dx, by rw [← h .parD rfl]; exact c⟩
  | ques => obtain ⟨dx, c⟩ := c; exact ⟨dx, by rw [← h .queD rfl]; exact c⟩
  | out j => obtain ⟨dx, c⟩ := c; exact ⟨dx, by rw [← h (.outL j) rfl]; exact c⟩
  | item k => obtain ⟨dx, c⟩ := c; exact ⟨dx, by rw [← h (.itemL k) rfl]; exact c⟩
  | objD =>
    show o = _
    rw [show o = _ from c]
    exact congrArg HO.dK (List.map_congr_left fun k hk => by rw [h (.item k) ⟨k, hk, rfl⟩])
  | outD =>
    show o = _
    rw [show o = _ from c]
    exact congrArg HO.dK (List.map_congr_left fun k hk => by rw [h (.out k) ⟨k, hk, rfl⟩])
  | incD =>
    show o = _
    rw [show o = _ from c]
    exact congrArg HO.dK (List.map_congr_left fun k hk => by rw [h (.inc k) ⟨k, hk, rfl⟩])
  | _ => exact c
/-- the places P of site i stand in H, new since H0, in which the thing at p is being built -/
structure Part (K : PySem.W.Frag) (n : Nat) (i : Int) (S : SSt) (p : Addr) (H0 H : Hp) (m : Sl → Addr) (P : Sl → Prop) : Prop where
  at_ : ∀ x, P x → ∃ o, H (m x) = some o ∧ Cs K (mkS m) n i S H x o
  inj : ∀ x y, P x → P y → m x = m y → x = y
  fr : ∀ x, P x → H0 (m x) = none
  cl : ∀ x y, P x → Ref n i S x y → P y
  kp : ∀ b o, H0 b = some o → b ≠ p → H b = some o
  p0 : H0 p ≠ none
  p1 : H p ≠ none
  pt : ∀ xs, H0 p ≠ some (.tup xs)
variable {p : Addr} {P P' : Sl → Prop}
theorem Part.start (h : H p ≠ none) (ht : ∀ xs, H p ≠ some (.tup xs)) : Part K n i S p H H m (fun _ => False) :=
  ⟨fun _ h => h.elim, fun _ _ h => h.elim, fun _ h => h.elim, fun _ _ h => h.elim, fun _ _ h _ => h, h, h, ht⟩
theorem Part.ts (A : Part K n i S p H0 H m P) : TSame H0 H := fun b xs h => A.kp b _ h fun e => A.pt xs (e ▸ h)
theorem Part.free (A : Part K n i S p H0 H m P) {a : Addr} (h : H a = none) : H0 a = none := by
  cases q : H0 a with
  | none => rfl
  | some o =>
    by_cases e : a = p
    · subst e
      exact absurd h A.p1
    · rw [A.kp a o q e] at h
      cases h
theorem Part.ne (A : Part K n i S p H0 H m P) (hx : P x) : m x ≠ p := fun e => A.p0 (by rw [← e]; exact A.fr x hx)
/-- all stays -/
theorem Part.same (A : Part K n i S p H0 H m P) (s : Same H H') : Part K n i S p H0 H' m P := by
  refine ⟨fun x hx => ?_, A.inj, A.fr, A.cl, fun b o h n => s _ _ (A.kp b o h n), A.p0, fun z => ?_, A.pt⟩
  · obtain ⟨o, e, c⟩ := A.at_ x hx
    exact ⟨o, s _ _ e, c.tl fun b xs h => s b _ h⟩
  · exact A.p1 (s.free z)
/-- the thing at p changes -/
theorem Part.own (A : Part K n i S p H0 H m P) (hp : ∀ xs, H p ≠ some (.tup xs)) (o : HO) : Part K n i S p H0 (upd H p o) m P := by
  refine ⟨fun x hx => ?_, A.inj, A.fr, A.cl, fun b u h n => by rw [upd_ne n]; exact A.kp b u h n, A.p0, by rw [upd_same]; exact fun z => (nomatch z), A.pt⟩
  obtain ⟨u, e, c⟩ := A.at_ x hx
  refine ⟨u, by rw [upd_ne (A.ne hx)]; exact e, c.tl fun b xs h => ?_⟩
  rw [upd_ne]
  · exact h
  · rintro rfl
    exact hp xs h
/-- a thing apart changes -/
theorem Part.off (A : Part K n i S p H0 H m P) {a : Addr} (h0 : H0 a = none) (hn : ∀ y, P y → m y ≠ a) (ht : ∀ xs, H a ≠ some (.tup xs)) (o : HO) : Part K n i S p H0 (upd H a o) m P := by
  have nap : p ≠ a := fun e => A.p0 (e ▸ h0)
  refine ⟨fun x hx => ?_, A.inj, A.fr, A.cl, fun b u h n => ?_, A.p0, by rw [upd_ne nap]; exact A.p1, A.pt⟩
  · obtain ⟨u, e, c⟩ := A.at_ x hx
    refine ⟨u, by rw [upd_ne (hn x hx)]; exact e, c.tl fun b xs h => ?_⟩
    rw [upd_ne]
    · exact h
    · rintro rfl
      exact ht xs h
  · rw [upd_ne (ne_of_none h h0)]
    exact A.kp b u h n
/-- one more place, at a thing that stands already -/
theorem Part.put (A : Part K n i S p H0 H m P) {a : Addr} (x : Sl) (ha : H a = some o) (h0 : H0 a = none) (hn : ∀ y, P y → m y ≠ a) (hx : ¬ P x) (hr : ∀ y, Ref n i S x y → P y) (hc : Cs K (mkS (upm m x a)) n i S H x o) : Part K n i S p H0 H (upm m x a) (fun y => y = x ∨ P y) := by
  have ne : ∀ y, P y → y ≠ x := fun y hy e => hx (e ▸ hy)
  refine ⟨fun y hy => ?_, fun y z hy hz e => ?_, fun y hy => ?_, fun y z hy hr' => ?_, A.kp, A.p0, A.p1, A.pt⟩
  · rcases hy with rfl | hy
    · exact ⟨o, by rw [upm_same]; exact ha, hc⟩
    · obtain ⟨u, e, c⟩ := A.at_ y hy
      refine ⟨u, by rw [upm_ne (ne y hy)]; exact e, c.congr fun z hz => ?_⟩
      show m z = upm m x a z
      rw [upm_ne (ne z (A.cl y z hy hz))]
  · rcases hy with rfl | hy <;> rcases hz with rfl | hz
    · rfl
    · rw [upm_same, upm_ne (ne z hz)] at e
      exact absurd e.symm (hn z hz)
    · rw [upm_same, upm_ne (ne y hy)] at e
      exact absurd e (hn y hy)
    · rw [upm_ne (ne y hy), upm_ne (ne z hz)] at e
      exact A.inj y z hy hz e
  · rcases hy with rfl | hy
    · rw [upm_same]
      exact h0
    · rw [upm_ne (ne y hy)]
      exact A.fr y hy
  · rcases hy with rfl | hy
    · exact .inr (hr z hr')
    · exact .inr (A.cl y z hy hr')
/-- one more place, at a new thing -/
theorem Part.add (A : Part K n i S p H0 H m P) {a : Addr} (x : Sl) (s : Same H H') (ha : H a = none) (h' : H' a = some o) (hx : ¬ P x) (hr : ∀ y, Ref n i S x y → P y) (hc : Cs K (mkS (upm m x a)) n i S H' x o) : Part K n i S p H0 H' (upm m x a) (fun y => y = x ∨ P y) :=
  (A.same s).put x h' (A.free ha) (fun y hy e => by
    obtain ⟨o, e1, _⟩ := A.at_ y hy
    rw [e, ha] at e1
    cases e1) hx hr hc
theorem Part.imp (A : Part K n i S p H0 H m P) (h : ∀ x, P' x ↔ P x) : Part K n i S p H0 H m P' :=
  ⟨fun x hx => A.at_ x ((h x).mp hx), fun x y hx hy => A.inj x y ((h x).mp hx) ((h y).mp hy), fun x hx => A.fr x ((h x).mp hx), fun x y hx hr => (h y).mpr (A.cl x y ((h x).mp hx) hr), A.kp, A.p0, A.p1, A.pt⟩
/-- a part that was built by itself, at q, a place of its own -/
theorem Part.join {q : Addr} {H1 : Hp} {m1 : Sl → Addr} {P1 : Sl → Prop} (A : Part K n i S p H0 H m P) (B : Part K n i S q H1 H' m1 P1) (x : Sl) (s : ∀ b o, H b = some o → H1 b = some o) (hq : H q = none) (hx : P1 x ↔ False) (hpx : ¬ P x) (hr : ∀ y, Ref n i S x y → P1 y)
    (dj : ∀ y, P y → ¬ P1 y) (hc : ∃ o, H' q = some o ∧ Cs K (mkS (upm m1 x q)) n i S H' x o) : Part K n i S p H0 H' (fun y => open Classical in if P1 y then m1 y else if y = x then q else m y) (fun y => (y = x ∨ P1 y) ∨ P y) := by
  have e1 : ∀ y, P1 y → (open Classical in if P1 y then m1 y else if y = x then q else m y) = m1 y := fun y hy => if_pos hy
  have nx : ∀ y, P1 y → y ≠ x := fun y hy e => hx.mp (e ▸ hy)
  have ex : (open Classical in if P1 x then m1 x else if x = x then q else m x) = q := by rw [if_neg hx.mp, if_pos rfl]
  have e2 : ∀ y, P y → (open Classical in if P1 y then m1 y else if y = x then q else m y) = m y := fun y hy => by rw [if_neg (dj y hy), if_neg (show ¬ y = x from fun e => hpx (e ▸ hy))]
  have up : ∀ b o, H b = some o → H' b = some o := fun b o h => B.kp b o (s b o h) fun e => by rw [e, hq] at h; cases h
  have f1 : ∀ y, P1 y → H (m1 y) = none := fun y hy => by
    cases qq : H (m1 y) with
    | none => rfl
    | some o =>
      have := s _ _ qq
      rw [B.fr y hy] at this
      cases this
  have ne1 : ∀ y z, P1 y → P z → m1 y ≠ m z := fun y z hy hz e => by
    obtain ⟨o, h, _⟩ := A.at_ z hz
    rw [← e, f1 y hy] at h
    cases h
  have ne2 : ∀ z, P z → m z ≠ q := fun z hz e => by
    obtain ⟨o, h, _⟩ := A.at_ z hz
    rw [e, hq] at h
    cases h
  refine ⟨fun y hy => ?_, fun y z hy hz e => ?_, fun y hy => ?_, fun y z hy hr' => ?_, fun b u h n => ?_, A.p0, ?_, A.pt⟩
  · rcases hy with (rfl | hy) | hy
    · obtain ⟨o, h1, c⟩ := hc
      refine ⟨o, by rw [ex]; exact h1, c.congr fun z hz => ?_⟩
      show upm m1 y q z = _
      rw [upm_ne (nx z (hr z hz))]
      exact (e1 z (hr z hz)).symm
    · obtain ⟨o, h1, c⟩ := B.at_ y hy
      refine ⟨o, by rw [e1 y hy]; exact h1, c.congr fun z hz => ?_⟩
      show m1 z = _
      exact (e1 z (B.cl y z hy hz)).symm
    · obtain ⟨o, h1, c⟩ := A.at_ y hy
      refine ⟨o, by rw [e2 y hy]; exact up _ _ h1, (c.tl fun b xs h => up b _ h).congr fun z hz => ?_⟩
      show m z = _
      exact (e2 z (A.cl y z hy hz)).symm
  · rcases hy with (rfl | hy) | hy <;> rcases hz with (rfl | hz) | hz
    · rfl
    · rw [ex, e1 z hz] at e
      exact absurd e.symm (B.ne hz)
    · rw [ex, e2 z hz] at e
      exact absurd e.symm (ne2 z hz)
    · rw [ex, e1 y hy] at e
      exact absurd e (B.ne hy)
    · rw [e1 y hy, e1 z hz] at e
      exact B.inj y z hy hz e
    · rw [e1 y hy, e2 z hz] at e
      exact absurd e (ne1 y z hy hz)
    · rw [ex, e2 y hy] at e
      exact absurd e (ne2 y hy)
    · rw [e1 z hz, e2 y hy] at e
      exact absurd e.symm (ne1 z y hz hy)
    · rw [e2 y hy, e2 z hz] at e
      exact A.inj y z hy hz e
  · rcases hy with (rfl | hy) | hy
    · rw [ex]
      exact A.free hq
    · rw [e1 y hy]
      exact A.free (f1 y hy)
    · rw [e2 y hy]
      exact A.fr y hy
  · rcases hy with (rfl | hy) | hy
    · exact .inl (.inr (hr z hr'))
    · exact .inl (.inr (B.cl y z hy hr'))
    · exact .inr (A.cl y z hy hr')
  · exact up _ _ (A.kp b u h n)
  · intro z
    cases qq : H p with
    | none => exact A.p1 qq
    | some o => rw [up _ _ qq] at z; cases z
end
end Wo

/-! Own methods called with keywords, whole numbers of the module, dict comprehensions over lists. -/
namespace Wo
open PySem PySem.Spec PyProof.Rows L2
def tMethN (C : Addr) (m : Str) (sp : Sp) (n k : Nat) (gV : List V → List V → List V) (E : XK) (ta : TE) (t tk : TA) : TE := fun σ H Q => ta σ H fun x H1 => ∃ a dx fs, x = .ref a ∧ H1 a = some (.ins C dx fs) ∧ fs.lookup m = none ∧
  t σ H1 fun vs H2 => tk σ H2 fun zs H3 => vs.length = n ∧ zs.length = k ∧ sp (gV (x :: vs) zs) H3 Q E
section
variable {X : Cx} {CX : CXT} {k n : Nat} {f C : Addr} {fd : FuncData} {ps ks : List Str} {sp : Sp} {E : XK} {m x : Str} {apos pos : Pos} {o e : Expr} {es : List Expr} {kws : List Keyword} {ta : TE} {t tk : TA} {g : List Value → List Value → List Value} {gV : List V → List V → List V}
/-- o.m(e, .., k = v, ..) -/
theorem pe_methN {pl : Sem Bool} (he : PE X o ta) (c : Cls X.K C) (hm : Meth X.K C m f) (F : FnOk X.prog X.w X.K X.mg X.base CX k f fd ps sp) (hr : Room k X.A) (hb : KBn X.K fd ps (n + 1) ks g gV) (hx : Passes CX X E) (ha : PA X (e :: es) t) (hkw : PK X kws tk)
    (hall : (backToKw pos (keywordEach kws X.env)).all (·.1.isSome) = true := by rfl) (hks : (backToKw pos (keywordEach kws X.env)).filterMap (·.1) = ks := by rfl) (hst : starEach (e :: es) X.env = (false, eval e X.env) :: starEach es X.env := by rfl)
    (hpl : ((backTo pos (starEach (e :: es) X.env)).any (·.1) || (backToKw pos (keywordEach kws X.env)).any (·.1.isNone)) = false := by rfl)
    (ht : eval (.Call (.Attribute o m apos) (e :: es) kws pos) X.env = (do
      let ov ← eval o X.env
      standAt apos.atName
      let (f, first) ← holding [ov] (getMethod ov m pl)
      callWith pos f first (backTo pos (starEach (e :: es) X.env)) (backToKw pos (keywordEach kws X.env))) := by rfl) :
    PE X (.Call (.Attribute o m apos) (e :: es) kws pos) (tMethN C m sp n ks.length gV E ta t tk) := by
  refine ⟨fun pins s σ H Q I h => ?_⟩
  refine PySem.W.methodCall_KW (pl := pl) (thn (he.run pins s σ H _ I h) fun u s1 ⟨x, H1, I1, rx, a, dx, fs, ex, ea, l, q⟩ => ?_) ht
  subst ex
  obtain rfl : u = Value.ref a := rx
  refine getmeth_ok I1 ea c hm l ?_
  refine PySem.W.callWith_KW (h₀ := X.base) (first := [.ref a]) I.ok.mod.kin hm.kp hall (thn (ha.run pos pins s1 σ H1 _ I1 q) fun us s2 ⟨vs, H2, I2, r, q2⟩ => ?_) hpl hst
  refine thn (hkw.run pos pins s2 σ H2 _ I2 q2) fun ws s3 ⟨zs, H3, I3, rz, l1, l2, q3⟩ => ⟨I3.kIn, ?_⟩
  rw [hks]
  exact run_fnN (us := .ref a :: us) (vs := .ref a :: vs) F hr hb hx I3 (.cons rfl r) rz (by rw [List.length_cons, l1]) l2 q3
/-- a whole number of the module -/
theorem pe_gint {i : Int} {p : Pos} (hg : Gl X x) (h : ∃ t, X.mg x = some (.int i t)) (hd : (x == ("__debug__" : Str)) = false := by decide) : PE X (.Name x p) (tC (.int i)) := by
  obtain ⟨t, h⟩ := h
  exact pe_glob (v := .int i) hg h ⟨t, rfl⟩ hd
end
/-- a dict comprehension over a list that stays -/
theorem dc_list {K : PySem.W.Frag} {a : Addr} {xs : List V} {g : TG} {tt : TT} {tk tv : TE} {vs : List Nat} {σ : L2.St} {H1 : Hp} {D : Addr} {Qd : Hp → Prop} (Pv : Nat → Hp → Prop) (h0 : Pv 0 (upd H1 D (.dK []))) (hl : ∀ i H, i ≤ xs.length → Pv i H → SqL K H a xs)
    (turn : ∀ i x H, xs[i]? = some x → Pv i H → g x (wipe σ vs) H fun σ2 H2 => wipe σ2 vs = wipe σ vs ∧ tt σ2 H2 fun b H3 =>
      if b = true then tk σ2 H3 fun y H4 => tv σ2 H4 fun z H5 => ∃ kvs k, y = kV k ∧ H5 D = some (.dK kvs) ∧ kvs.length < sizeLine ∧ Pv (i + 1) (upd H5 D (.dK (putK kvs k z))) else Pv (i + 1) H3) (fin : ∀ H, Pv xs.length H → Qd H) :
    ∃ W : Nat → Nat → Hp → Prop, (∃ m, W 0 m (upd H1 D (.dK []))) ∧ ∀ i m H, W i m H →
      ((Itl K a).stop i H ∧ Qd H) ∨ ((Itl K a).go i H ∧ ∃ Nx : Hp → Prop, (∀ H', Nx H' → ∃ m', m' < m ∧ W (i + 1) m' H') ∧ ∀ x H', (Itl K a).yld i H x H' → g x (wipe σ vs) H' fun σ2 H2 => wipe σ2 vs = wipe σ vs ∧ tt σ2 H2 fun b H3 =>
        if b = true then tk σ2 H3 fun y H4 => tv σ2 H4 fun z H5 => ∃ kvs k, y = kV k ∧ H5 D = some (.dK kvs) ∧ kvs.length < sizeLine ∧ Nx (upd H5 D (.dK (putK kvs k z))) else Nx H3) := by
  refine ⟨fun j m G => m + j = xs.length ∧ Pv j G, ⟨xs.length, by simp, h0⟩, ?_⟩
  rintro j m G ⟨hm, pv⟩
  have sq := hl j G (by omega) pv
  rcases Nat.lt_or_ge j xs.length with lt | ge
  · obtain ⟨x, hx⟩ : ∃ x, xs[j]? = some x := ⟨_, List.getElem?_eq_getElem lt⟩
    refine .inr ⟨⟨xs, x, sq, hx⟩, Pv (j + 1), fun G' p' => ⟨xs.length - (j + 1), by omega, by omega, p'⟩, fun y G' hy => ?_⟩
    obtain ⟨rfl, hy⟩ := hy
    exact turn j y _ (hy xs sq) pv
  · have e : j = xs.length := by omega
    subst e
    exact .inl ⟨⟨xs, sq, Nat.le_refl _⟩, fin G pv⟩
end Wo

/-! The attributes of each class, read. -/
namespace Wo
open PySem PySem.Spec PyProof.Rows L2
section
variable {M : WS → Addr} {i : Int} {S : SSt} {d : Addr} {c : Int} {a b : Int} {m : Str}
abbrev siteK : List Str := ["number", "mail", "ages", "objects", "variables", "inbox", "parcels", "questions", "arrivals", "holdings", "entries", "_awaited", "_noted", "_waves"]
theorem lk_site_number : (siteL M i S).lookup ("number" : Str) = some (.int i) := lookup_ix 0 siteK rfl rfl (by decide +kernel)
theorem lk_site_mail : (siteL M i S).lookup ("mail" : Str) = some (.ref (M (.of i .mail))) := lookup_ix 1 siteK rfl rfl (by decide +kernel)
theorem lk_site_ages : (siteL M i S).lookup ("ages" : Str) = some (.ref (M (.of i .ages))) := lookup_ix 2 siteK rfl rfl (by decide +kernel)
theorem lk_site_objects : (siteL M i S).lookup ("objects" : Str) = some (.ref (M (.of i .objs))) := lookup_ix 3 siteK rfl rfl (by decide +kernel)
theorem lk_site_variables : (siteL M i S).lookup ("variables" : Str) = some (.ref (M (.of i .vars))) := lookup_ix 4 siteK rfl rfl (by decide +kernel)
theorem lk_site_inbox : (siteL M i S).lookup ("inbox" : Str) = some (.ref (M (.of i .inbox))) := lookup_ix 5 siteK rfl rfl (by decide +kernel)
theorem lk_site_parcels : (siteL M i S).lookup ("parcels" : Str) = some (.ref (M (.of i .parc))) := lookup_ix 6 siteK rfl rfl (by decide +kernel)
theorem lk_site_questions : (siteL M i S).lookup ("questions" : Str) = some (.ref (M (.of i .ques))) := lookup_ix 7 siteK rfl rfl (by decide +kernel)
theorem lk_site_arrivals : (siteL M i S).lookup ("arrivals" : Str) = some (.ref (M (.of i .arr))) := lookup_ix 8 siteK rfl rfl (by decide +kernel)
theorem lk_site_holdings : (siteL M i S).lookup ("holdings" : Str) = some (.ref (M (.of i .hold))) := lookup_ix 9 siteK rfl rfl (by decide +kernel)
theorem lk_site_entries : (siteL M i S).lookup ("entries" : Str) = some (.ref (M (.of i .ents))) := lookup_ix 10 siteK rfl rfl (by decide +kernel)
theorem lk_site_awaited : (siteL M i S).lookup ("_awaited" : Str) = some (.ref (M (.of i .awt))) := lookup_ix 11 siteK rfl rfl (by decide +kernel)
theorem lk_site_noted : (siteL M i S).lookup ("_noted" : Str) = some (.ref (M (.of i .noted))) := lookup_ix 12 siteK rfl rfl (by decide +kernel)
theorem lk_site_waves : (siteL M i S).lookup ("_waves" : Str) = some (.int S.waves) := lookup_ix 13 siteK rfl rfl (by decide +kernel)
theorem no_site (h : m ∉ siteK) : (siteL M i S).lookup m = none := lookup_no siteK rfl h
abbrev mailK : List Str := ["_number", "others", "_outgoing", "_incoming"]
theorem lk_mail_number : (mailL M i).lookup ("_number" : Str) = some (.int i) := lookup_ix 0 mailK rfl rfl (by decide +kernel)
theorem lk_mail_others : (mailL M i).lookup ("others" : Str) = some (.ref (M (.of i .others))) := lookup_ix 1 mailK rfl rfl (by decide +kernel)
theorem lk_mail_outgoing : (mailL M i).lookup ("_outgoing" : Str) = some (.ref (M (.of i .outD))) := lookup_ix 2 mailK rfl rfl (by decide +kernel)
theorem lk_mail_incoming : (mailL M i).lookup ("_incoming" : Str) = some (.ref (M (.of i .incD))) := lookup_ix 3 mailK rfl rfl (by decide +kernel)
theorem no_mail (h : m ∉ mailK) : (mailL M i).lookup m = none := lookup_no mailK rfl h
abbrev agesK : List Str := ["clock", "bound", "settled", "low", "pending"]
theorem lk_ages_clock : (agesL S).lookup ("clock" : Str) = some (.int S.clock) := lookup_ix 0 agesK rfl rfl (by decide +kernel)
theorem lk_ages_bound : (agesL S).lookup ("bound" : Str) = some (.int S.bound) := lookup_ix 1 agesK rfl rfl (by decide +kernel)
theorem lk_ages_settled : (agesL S).lookup ("settled" : Str) = some (.int S.settled) := lookup_ix 2 agesK rfl rfl (by decide +kernel)
theorem lk_ages_low : (agesL S).lookup ("low" : Str) = some (.int S.low) := lookup_ix 3 agesK rfl rfl (by decide +kernel)
theorem lk_ages_pending : (agesL S).lookup ("pending" : Str) = some (vOi S.pend) := lookup_ix 4 agesK rfl rfl (by decide +kernel)
theorem no_ages (h : m ∉ agesK) : (agesL S).lookup m = none := lookup_no agesK rfl h
abbrev numK : List Str := ["things", "_created"]
theorem lk_num_things : (numL d c).lookup ("things" : Str) = some (.ref d) := lookup_ix 0 numK rfl rfl (by decide +kernel)
theorem lk_num_created : (numL d c).lookup ("_created" : Str) = some (.int c) := lookup_ix 1 numK rfl rfl (by decide +kernel)
theorem no_num (h : m ∉ numK) : (numL d c).lookup m = none := lookup_no numK rfl h
abbrev outgK : List Str := ["_letters", "_acknowledged"]
theorem lk_outg_letters : (outgL d c).lookup ("_letters" : Str) = some (.ref d) := lookup_ix 0 outgK rfl rfl (by decide +kernel)
theorem lk_outg_acknowledged : (outgL d c).lookup ("_acknowledged" : Str) = some (.int c) := lookup_ix 1 outgK rfl rfl (by decide +kernel)
theorem no_outg (h : m ∉ outgK) : (outgL d c).lookup m = none := lookup_no outgK rfl h
abbrev itemK : List Str := ["mark", "fields"]
theorem lk_item_mark : (itemF d c).lookup ("mark" : Str) = some (.int c) := lookup_ix 0 itemK rfl rfl (by decide +kernel)
theorem lk_item_fields : (itemF d c).lookup ("fields" : Str) = some (.ref d) := lookup_ix 1 itemK rfl rfl (by decide +kernel)
theorem no_item (h : m ∉ itemK) : (itemF d c).lookup m = none := lookup_no itemK rfl h
abbrev worldK : List Str := ["_sites", "_network"]
theorem lk_world_sites : (worldL M).lookup ("_sites" : Str) = some (.ref (M .sites)) := lookup_ix 0 worldK rfl rfl (by decide +kernel)
theorem lk_world_network : (worldL M).lookup ("_network" : Str) = some (.ref (M .net)) := lookup_ix 1 worldK rfl rfl (by decide +kernel)
theorem no_world (h : m ∉ worldK) : (worldL M).lookup m = none := lookup_no worldK rfl h
abbrev incK : List Str := ["count"]
theorem lk_inc_count : (incmL c).lookup ("count" : Str) = some (.int c) := lookup_ix 0 incK rfl rfl (by decide +kernel)
theorem no_inc (h : m ∉ incK) : (incmL c).lookup m = none := lookup_no incK rfl h
abbrev netK : List Str := ["_packets"]
theorem lk_net_packets : (netwL d).lookup ("_packets" : Str) = some (.ref d) := lookup_ix 0 netK rfl rfl (by decide +kernel)
theorem no_net (h : m ∉ netK) : (netwL d).lookup m = none := lookup_no netK rfl h
end
end Wo

/-! A dict whose keys are ints and tuples, both: where a key stands, what is there, what is stored. -/
namespace Mix
open PySem PySem.Spec PyProof.Rows L2
/-- a key: an int, or a tuple of ints and texts -/
abbrev MK := Sum Int (List L2.Key)
section
variable (P : Program) (w : World)
def mH : MK → Int
  | .inl i => hashInt i
  | .inr ks => (tupleKind (mixKind P w)).hash ks
def mIs (h : Heap) : MK → Value → Prop
  | .inl i, v => ∃ t, v = Value.int i t
  | .inr ks, v => ∃ b, v = Value.ref b ∧ (tupleKind (mixKind P w)).is h ks b
def Ent (h : Heap) (k : MK) (e : DictEntry) : Prop := e.hash = mH P w k ∧ mIs P w h k e.key
end
section
variable {P : Program} {w : World} {A : Around} {E : Value → Shared → Prop} {s : Shared}
theorem mIs_inj {h : Heap} {v : Value} : ∀ {k l : MK}, mIs P w h k v → mIs P w h l v → k = l
  | .inl i, .inl j, ⟨t, a⟩, ⟨u, b⟩ => by rw [a] at b; injection b with b1 _; rw [b1]
  | .inl i, .inr ks, ⟨t, a⟩, ⟨b, c, _⟩ => by rw [a] at c; cases c
  | .inr ks, .inl j, ⟨b, c, _⟩, ⟨t, a⟩ => by rw [a] at c; cases c
  | .inr ks, .inr ls, ⟨b, c, d⟩, ⟨b', c', d'⟩ => by
    rw [c] at c'
    injection c' with e
    subst e
    rw [(tupleKind (mixKind P w)).inj d d']
theorem m_hash {k : MK} {v : Value} {Q : Int → Shared → Prop} (hu : A.units < cLine) (hk : mIs P w s.heap k v) (h : ∀ t, Q (mH P w k) { s with toks := t }) :
    wpAny (model P w) A (PySem.pyHash v) Q E s := by
  cases k with
  | inl i =>
    obtain ⟨t, rfl⟩ := hk
    exact wpAny_pyHash_int (h _)
  | inr ks =>
    obtain ⟨b, rfl, hb⟩ := hk
    exact (tupleKind (mixKind P w)).pyHash hu hb (h _)
theorem m_tup {h : Heap} {ks : List L2.Key} {b : Addr} (x : (tupleKind (mixKind P w)).is h ks b) : ∃ items, h.IsTuple b items := by
  obtain ⟨o, items, n, ho, hc, hd, hi⟩ := x
  exact ⟨items, o, ho, hc, n, hd⟩
theorem m_eq {k l : MK} {u v : Value} {Q : Bool → Shared → Prop} (hu : A.units < cLine) (hk : mIs P w s.heap k u) (hl : mIs P w s.heap l v) (h : Q (decide (k = l)) s) :
    wpAny (model P w) A (PySem.eqBool u v) Q E s := by
  cases k with
  | inl i =>
    obtain ⟨t, rfl⟩ := hk
    cases l with
    | inl j =>
      obtain ⟨u, rfl⟩ := hl
      have e : decide ((Sum.inl i : MK) = Sum.inl j) = (i == j) := by
        by_cases q : i = j
        · subst q; simp
        · rw [decide_eq_false fun z => q (Sum.inl.inj z)]; exact (beq_eq_false_iff_ne.mpr q).symm
      rw [e] at h
      exact wpAny_eqBool_int h
    | inr ls =>
      obtain ⟨b, rfl, hb⟩ := hl
      obtain ⟨items, hi⟩ := m_tup hb
      rw [decide_eq_false (fun z => nomatch z)] at h
      exact SeqAt.EqAt.int_tuple i t hi hu _ _ _ _ h
  | inr ks =>
    obtain ⟨b, rfl, hb⟩ := hk
    cases l with
    | inl j =>
      obtain ⟨u, rfl⟩ := hl
      obtain ⟨items, hi⟩ := m_tup hb
      rw [decide_eq_false (fun z => nomatch z)] at h
      exact SeqAt.EqAt.tuple_int j u hi hu _ _ _ _ h
    | inr ls =>
      obtain ⟨c, rfl, hc⟩ := hl
      have e : decide ((Sum.inr ks : MK) = Sum.inr ls) = decide (ks = ls) := by
        by_cases q : ks = ls
        · subst q; simp
        · rw [decide_eq_false q, decide_eq_false fun z => q (Sum.inr.inj z)]
      rw [e] at h
      exact (tupleKind (mixKind P w)).eqBool hu hb hc h
theorem m_quiet {k : MK} {v : Value} {Q : Bool → Shared → Prop} (hk : mIs P w s.heap k v) (h : Q true s) : wpAny (model P w) A (eqIsQuiet 8 v) Q E s := by
  cases k with
  | inl i =>
    obtain ⟨t, rfl⟩ := hk
    unfold eqIsQuiet
    exact wpAny_pure h
  | inr ks =>
    obtain ⟨b, rfl, hb⟩ := hk
    exact (tupleKind (mixKind P w)).quiet hb h
theorem m_tells {k : MK} {v : Value} {sto : List Value} {Q : Bool → Shared → Prop} (hk : mIs P w s.heap k v) (hs : ∀ u ∈ sto, ∃ l, mIs P w s.heap l u) (h : Q false s) :
    wpAny (model P w) A (tableMayTell v sto) Q E s := by
  unfold tableMayTell
  split
  · exact wpAny_pure h
  · refine wpAny_bind (m_quiet hk ?_)
    simp only [Bool.not_true, Bool.false_eq_true, if_false]
    refine wpAny_bind (wpAny_forIn_list _ (fun rest r s1 => s1 = s ∧ r = (none, ()) ∧ ∀ u ∈ rest, ∃ l, mIs P w s.heap l u) _ (fun x rest b s1 hI => ?_) (fun b s1 hI => ?_) _ _ ⟨rfl, rfl, hs⟩)
    · obtain ⟨e1, e2, hr⟩ := hI
      subst e1 e2
      obtain ⟨l, hl⟩ := hr x List.mem_cons_self
      refine wpAny_bind (m_quiet hl ?_)
      simp only [Bool.not_true, Bool.false_eq_true, if_false]
      exact wpAny_pure ⟨rfl, rfl, fun u hu => hr u (List.mem_cons_of_mem _ hu)⟩
    · obtain ⟨e1, e2, _⟩ := hI
      subst e1 e2
      exact wpAny_pure h
/-- the places with a hash -/
theorem pl_lt {n : Nat} {g : Nat → Option Int} {x : Int} {i : Nat} (h : i ∈ placesWithHash n g x) : i < n ∧ g i = some x := by
  unfold placesWithHash at h
  obtain ⟨a, b⟩ := List.mem_filter.mp h
  exact ⟨List.mem_range.mp a, by simpa using b⟩
theorem pl_nd {n : Nat} {g : Nat → Option Int} {x : Int} : (placesWithHash n g x).Nodup := by
  unfold placesWithHash
  exact List.Nodup.sublist List.filter_sublist List.nodup_range
theorem pl_mem {n : Nat} {g : Nat → Option Int} {x : Int} {i : Nat} (h : i < n) (e : g i = some x) : i ∈ placesWithHash n g x := by
  unfold placesWithHash
  exact List.mem_filter.mpr ⟨List.mem_range.mpr h, by simp [e]⟩
theorem pr_get {α β : Type} {F : α → β → Prop} : ∀ {l : List α} {m : List β} {j : Nat} {y : β}, Paired F l m → m[j]? = some y → ∃ x, l[j]? = some x ∧ F x y
  | _, _, _, _, .nil, e => by simp at e
  | _, _, 0, _, .cons r _, e => by simp at e; subst e; exact ⟨_, rfl, r⟩
  | _, _, j + 1, _, .cons _ t, e => by
    obtain ⟨x, h1, h2⟩ := pr_get t (by simpa using e)
    exact ⟨x, by simpa using h1, h2⟩
theorem pr_get' {α β : Type} {F : α → β → Prop} : ∀ {l : List α} {m : List β} {j : Nat} {x : α}, Paired F l m → l[j]? = some x → ∃ y, m[j]? = some y ∧ F x y
  | _, _, _, _, .nil, e => by simp at e
  | _, _, 0, _, .cons r _, e => by simp at e; subst e; exact ⟨_, rfl, r⟩
  | _, _, j + 1, _, .cons _ t, e => by
    obtain ⟨x, h1, h2⟩ := pr_get' t (by simpa using e)
    exact ⟨x, by simpa using h1, h2⟩
theorem nd_at {α : Type} : ∀ {l : List α} {i j : Nat} {x : α}, l.Nodup → l[i]? = some x → l[j]? = some x → i = j := by
  intro l i j x hn hi hj
  exact (List.getElem?_inj (List.getElem?_eq_some_iff.mp hi).1 hn).mp (hi.trans hj.symm)
/-- where a key stands -/
theorem m_find {d : Addr} {o : Obj} {es : Array DictEntry} {ep : Nat} {ks : List MK} {k : MK} {v : Value} {Q : Option Nat → Shared → Prop} (hu : A.units < cLine) (hk : mIs P w s.heap k v)
    (ho : s.heap.get? d = some o) (hd : o.data = .dict es ep) (hp : Paired (Ent P w s.heap) ks es.toList) (hn : ks.Nodup)
    (h0 : k ∉ ks → Q none s) (h1 : ∀ j : Nat, ks[j]? = some k → Q (some j) s) : wpAny (model P w) A (dictFind d v (mH P w k)) Q E s := by
  obtain ⟨pl, hpl⟩ : ∃ pl, pl = placesWithHash es.size (fun i => es[i]?.map (·.hash)) (mH P w k) := ⟨_, rfl⟩
  obtain ⟨sto, hsto⟩ : ∃ sto, sto = pl.filterMap (fun i => es[i]?.map (·.key)) := ⟨_, rfl⟩
  have ent : ∀ i, i ∈ pl → ∃ e l, es[i]? = some e ∧ ks[i]? = some l ∧ Ent P w s.heap l e ∧ e.hash = mH P w k := by
    intro i hi
    rw [hpl] at hi
    obtain ⟨a, b⟩ := pl_lt hi
    obtain ⟨e, he, heq⟩ := Option.map_eq_some_iff.mp b
    obtain ⟨l, hl, hE⟩ := pr_get (j := i) (y := e) hp (by rw [Array.getElem?_toList]; exact he)
    exact ⟨e, l, he, hl, hE, heq⟩
  have all : ∀ j, ks[j]? = some k → j ∈ pl := by
    intro j hj
    obtain ⟨e, he, hE⟩ := pr_get' hp hj
    rw [Array.getElem?_toList] at he
    rw [hpl]
    exact pl_mem (Array.getElem?_eq_some_iff.mp he).1 (by show es[j]?.map (·.hash) = _; rw [he]; exact congrArg some hE.1)
  have none_of : (∀ j, ks[j]? = some k → False) → k ∉ ks := fun q hm => by
    obtain ⟨j, hj⟩ := List.mem_iff_getElem?.mp hm
    exact q j hj
  have pnd : pl.Nodup := by rw [hpl]; exact pl_nd
  have hst : ∀ u ∈ sto, ∃ l, mIs P w s.heap l u := by
    intro u hu'
    rw [hsto] at hu'
    obtain ⟨i, hi, e⟩ := List.mem_filterMap.mp hu'
    obtain ⟨x, l, hx, _, hE, _⟩ := ent i hi
    rw [hx] at e
    obtain rfl : x.key = u := by simpa using e
    exact ⟨l, hE.2⟩
  have stale : ¬ (es.any fun e => e.key == v && e.hash != mH P w k) = true := by
    intro q
    rw [← Array.any_toList, List.any_eq_true] at q
    obtain ⟨e, he, hc⟩ := q
    obtain ⟨i, hi⟩ := List.mem_iff_getElem?.mp he
    obtain ⟨l, hl, hE⟩ := pr_get hp hi
    simp only [Bool.and_eq_true, beq_iff_eq, bne_iff_ne, ne_eq] at hc
    have hI := hE.2
    rw [hc.1] at hI
    rw [mIs_inj hk hI] at hc
    exact hc.2 hE.1
  -- the search over the places, a hit stops it at once
  have plain : wpAny (model P w) A (dictWalkPlain d v (mH P w k) es pl) Q E s := by
    unfold dictWalkPlain
    refine wpAny_bind (wpAny_forIn_list _ (fun rest r s1 => s1 = s ∧ r = (none, ()) ∧ (∀ i ∈ rest, i ∈ pl) ∧ ∀ j, ks[j]? = some k → j ∈ rest) _ (fun x rest b s1 hI => ?_) (fun b s1 hI => ?_) _ _ ⟨rfl, rfl, fun _ z => z, all⟩)
    · obtain ⟨e1, e2, hsub, hin⟩ := hI
      subst e1 e2
      obtain ⟨e, l, he, hl, hE, heq⟩ := ent x (hsub x List.mem_cons_self)
      simp only [he]
      rw [if_pos (by rw [heq]; exact beq_self_eq_true _)]
      refine wpAny_bind (wpAny_dictEpoch ho hd (wpAny_bind (m_eq hu hE.2 hk (wpAny_bind (wpAny_dictEpoch ho hd ?_)))))
      rw [if_neg (by simp)]
      by_cases q : l = k
      · rw [decide_eq_true q]
        subst q
        exact wpAny_bind (wpAny_rule (wpAny_pure (wpAny_pure (h1 x hl))))
      · rw [decide_eq_false q]
        refine wpAny_bind (wpAny_rule (wpAny_pure ⟨rfl, rfl, fun i hi => hsub i (List.mem_cons_of_mem _ hi), fun j hj => ?_⟩))
        rcases List.mem_cons.mp (hin j hj) with z | z
        · subst z
          rw [hl] at hj
          exact absurd (Option.some.inj hj) q
        · exact z
    · obtain ⟨e1, e2, _, hin⟩ := hI
      subst e1 e2
      exact wpAny_pure (h0 (none_of fun j hj => nomatch hin j hj))
  unfold dictFind
  try with_reducible refine wpAny_holding ?_
  refine wpAny_bind (wpAny_dictEntries ho hd ?_)
  cases k with
  | inl i =>
    have hk' := hk
    obtain ⟨t, rfl⟩ := hk'
    dsimp only
    rw [← hpl, ← hsto]
    by_cases c : ((Value.int i t :: sto).all carriedByValue) = true
    · rw [if_pos c]
      exact plain
    · rw [if_neg c]
      by_cases c2 : (sto == [Value.int i t]) = true
      · rw [if_pos c2]
        refine wpAny_bind (wpAny_pure ?_)
        rw [if_neg (by simp)]
        refine wpAny_bind (wpAny_forIn_list _ (fun rest b s1 => s1 = s ∧ ∃ hit, b = (none, hit) ∧ rest.Nodup ∧ (∀ i ∈ rest, i ∈ pl) ∧
          ((hit = none ∧ ∀ j, ks[j]? = some (Sum.inl i) → j ∈ rest) ∨ ∃ j, hit = some j ∧ ks[j]? = some (Sum.inl i) ∧ j ∉ rest)) _ (fun x rest b s1 hI => ?_) (fun b s1 hI => ?_) _ _ ⟨rfl, none, rfl, pnd, fun _ z => z, .inl ⟨rfl, all⟩⟩)
        · obtain ⟨e1, hit, e2, rnd, hsub, hin⟩ := hI
          subst e1 e2
          obtain ⟨e, l, he, hl, hE, heq⟩ := ent x (hsub x List.mem_cons_self)
          rw [List.nodup_cons] at rnd
          simp only [he]
          rw [if_pos (by rw [heq]; exact beq_self_eq_true _)]
          refine wpAny_bind (wpAny_dictEpoch ho hd (wpAny_bind (m_eq hu hE.2 hk (wpAny_bind (wpAny_dictEpoch ho hd ?_)))))
          rw [if_neg (by simp)]
          by_cases q : l = Sum.inl i
          · subst q
            rw [decide_eq_true rfl, if_pos rfl]
            rcases hin with ⟨z, hin⟩ | ⟨j, z, hj, hjn⟩
            · subst z
              rw [if_neg (by simp)]
              refine wpAny_bind (wpAny_rule ?_)
              split
              · exact wpAny_pure (wpAny_pure (h1 x hl))
              · exact wpAny_pure ⟨rfl, some x, rfl, rnd.2, fun i hi => hsub i (List.mem_cons_of_mem _ hi), .inr ⟨x, rfl, hl, rnd.1⟩⟩
            · exact absurd List.mem_cons_self (nd_at hn hj hl ▸ hjn)
          · rw [decide_eq_false q, if_neg (by simp)]
            refine wpAny_bind (wpAny_rule ?_)
            rw [if_neg (by simp)]
            refine wpAny_pure ⟨rfl, hit, rfl, rnd.2, fun i hi => hsub i (List.mem_cons_of_mem _ hi), ?_⟩
            rcases hin with ⟨z, hin⟩ | ⟨j, z, hj, hjn⟩
            · refine .inl ⟨z, fun j hj => ?_⟩
              rcases List.mem_cons.mp (hin j hj) with y | y
              · subst y
                rw [hl] at hj
                exact absurd (Option.some.inj hj) q
              · exact y
            · exact .inr ⟨j, z, hj, fun y => hjn (List.mem_cons_of_mem _ y)⟩
        · obtain ⟨e1, hit, e2, _, _, hin⟩ := hI
          subst e1 e2
          rcases hin with ⟨z, hin⟩ | ⟨j, z, hj, _⟩
          · subst z
            exact wpAny_pure (h0 (none_of fun j hj => nomatch hin j hj))
          · subst z
            exact wpAny_pure (h1 j hj)
      · rw [if_neg c2]
        refine wpAny_bind (m_tells hk hst ?_)
        rw [if_neg (by simp)]
        refine wpAny_bind (wpAny_forIn_list _ (fun rest b s1 => s1 = s ∧ ∃ hit, b = (none, hit) ∧ rest.Nodup ∧ (∀ i ∈ rest, i ∈ pl) ∧
          ((hit = none ∧ ∀ j, ks[j]? = some (Sum.inl i) → j ∈ rest) ∨ ∃ j, hit = some j ∧ ks[j]? = some (Sum.inl i) ∧ j ∉ rest)) _ (fun x rest b s1 hI => ?_) (fun b s1 hI => ?_) _ _ ⟨rfl, none, rfl, pnd, fun _ z => z, .inl ⟨rfl, all⟩⟩)
        · obtain ⟨e1, hit, e2, rnd, hsub, hin⟩ := hI
          subst e1 e2
          obtain ⟨e, l, he, hl, hE, heq⟩ := ent x (hsub x List.mem_cons_self)
          rw [List.nodup_cons] at rnd
          simp only [he]
          rw [if_pos (by rw [heq]; exact beq_self_eq_true _)]
          refine wpAny_bind (wpAny_dictEpoch ho hd (wpAny_bind (m_eq hu hE.2 hk (wpAny_bind (wpAny_dictEpoch ho hd ?_)))))
          rw [if_neg (by simp)]
          by_cases q : l = Sum.inl i
          · subst q
            rw [decide_eq_true rfl, if_pos rfl]
            rcases hin with ⟨z, hin⟩ | ⟨j, z, hj, hjn⟩
            · subst z
              rw [if_neg (by simp)]
              refine wpAny_bind (wpAny_rule ?_)
              split
              · exact wpAny_pure (wpAny_pure (h1 x hl))
              · exact wpAny_pure ⟨rfl, some x, rfl, rnd.2, fun i hi => hsub i (List.mem_cons_of_mem _ hi), .inr ⟨x, rfl, hl, rnd.1⟩⟩
            · exact absurd List.mem_cons_self (nd_at hn hj hl ▸ hjn)
          · rw [decide_eq_false q, if_neg (by simp)]
            refine wpAny_bind (wpAny_rule ?_)
            rw [if_neg (by simp)]
            refine wpAny_pure ⟨rfl, hit, rfl, rnd.2, fun i hi => hsub i (List.mem_cons_of_mem _ hi), ?_⟩
            rcases hin with ⟨z, hin⟩ | ⟨j, z, hj, hjn⟩
            · refine .inl ⟨z, fun j hj => ?_⟩
              rcases List.mem_cons.mp (hin j hj) with y | y
              · subst y
                rw [hl] at hj
                exact absurd (Option.some.inj hj) q
              · exact y
            · exact .inr ⟨j, z, hj, fun y => hjn (List.mem_cons_of_mem _ y)⟩
        · obtain ⟨e1, hit, e2, _, _, hin⟩ := hI
          subst e1 e2
          rcases hin with ⟨z, hin⟩ | ⟨j, z, hj, _⟩
          · subst z
            exact wpAny_pure (h0 (none_of fun j hj => nomatch hin j hj))
          · subst z
            exact wpAny_pure (h1 j hj)
  | inr q =>
    have hk' := hk
    obtain ⟨b, rfl, hb⟩ := hk'
    dsimp only
    rw [← hpl, ← hsto]
    rw [if_neg (show ¬ ((Value.ref b :: sto).all carriedByValue) = true by simp [carriedByValue]), if_neg stale]
    by_cases c2 : (sto == [Value.ref b]) = true
    · rw [if_pos c2]
      refine wpAny_bind (wpAny_pure ?_)
      rw [if_neg (by simp)]
      refine wpAny_bind (wpAny_forIn_list _ (fun rest b s1 => s1 = s ∧ ∃ hit, b = (none, hit) ∧ rest.Nodup ∧ (∀ i ∈ rest, i ∈ pl) ∧
        ((hit = none ∧ ∀ j, ks[j]? = some (Sum.inr q) → j ∈ rest) ∨ ∃ j, hit = some j ∧ ks[j]? = some (Sum.inr q) ∧ j ∉ rest)) _ (fun x rest b s1 hI => ?_) (fun b s1 hI => ?_) _ _ ⟨rfl, none, rfl, pnd, fun _ z => z, .inl ⟨rfl, all⟩⟩)
      · obtain ⟨e1, hit, e2, rnd, hsub, hin⟩ := hI
        subst e1 e2
        obtain ⟨e, l, he, hl, hE, heq⟩ := ent x (hsub x List.mem_cons_self)
        rw [List.nodup_cons] at rnd
        simp only [he]
        rw [if_pos (by rw [heq]; exact beq_self_eq_true _)]
        refine wpAny_bind (wpAny_dictEpoch ho hd (wpAny_bind (m_eq hu hE.2 hk (wpAny_bind (wpAny_dictEpoch ho hd ?_)))))
        rw [if_neg (by simp)]
        by_cases qq : l = Sum.inr q
        · subst qq
          rw [decide_eq_true rfl, if_pos rfl]
          rcases hin with ⟨z, hin⟩ | ⟨j, z, hj, hjn⟩
          · subst z
            rw [if_neg (by simp)]
            refine wpAny_bind (wpAny_rule ?_)
            split
            · exact wpAny_pure (wpAny_pure (h1 x hl))
            · exact wpAny_pure ⟨rfl, some x, rfl, rnd.2, fun i hi => hsub i (List.mem_cons_of_mem _ hi), .inr ⟨x, rfl, hl, rnd.1⟩⟩
          · exact absurd List.mem_cons_self (nd_at hn hj hl ▸ hjn)
        · rw [decide_eq_false qq, if_neg (by simp)]
          refine wpAny_bind (wpAny_rule ?_)
          rw [if_neg (by simp)]
          refine wpAny_pure ⟨rfl, hit, rfl, rnd.2, fun i hi => hsub i (List.mem_cons_of_mem _ hi), ?_⟩
          rcases hin with ⟨z, hin⟩ | ⟨j, z, hj, hjn⟩
          · refine .inl ⟨z, fun j hj => ?_⟩
            rcases List.mem_cons.mp (hin j hj) with y | y
            · subst y
              rw [hl] at hj
              exact absurd (Option.some.inj hj) qq
            · exact y
          · exact .inr ⟨j, z, hj, fun y => hjn (List.mem_cons_of_mem _ y)⟩
      · obtain ⟨e1, hit, e2, _, _, hin⟩ := hI
        subst e1 e2
        rcases hin with ⟨z, hin⟩ | ⟨j, z, hj, _⟩
        · subst z
          exact wpAny_pure (h0 (none_of fun j hj => nomatch hin j hj))
        · subst z
          exact wpAny_pure (h1 j hj)
    · rw [if_neg c2]
      refine wpAny_bind (m_tells hk hst ?_)
      rw [if_neg (by simp)]
      refine wpAny_bind (wpAny_forIn_list _ (fun rest b s1 => s1 = s ∧ ∃ hit, b = (none, hit) ∧ rest.Nodup ∧ (∀ i ∈ rest, i ∈ pl) ∧
        ((hit = none ∧ ∀ j, ks[j]? = some (Sum.inr q) → j ∈ rest) ∨ ∃ j, hit = some j ∧ ks[j]? = some (Sum.inr q) ∧ j ∉ rest)) _ (fun x rest b s1 hI => ?_) (fun b s1 hI => ?_) _ _ ⟨rfl, none, rfl, pnd, fun _ z => z, .inl ⟨rfl, all⟩⟩)
      · obtain ⟨e1, hit, e2, rnd, hsub, hin⟩ := hI
        subst e1 e2
        obtain ⟨e, l, he, hl, hE, heq⟩ := ent x (hsub x List.mem_cons_self)
        rw [List.nodup_cons] at rnd
        simp only [he]
        rw [if_pos (by rw [heq]; exact beq_self_eq_true _)]
        refine wpAny_bind (wpAny_dictEpoch ho hd (wpAny_bind (m_eq hu hE.2 hk (wpAny_bind (wpAny_dictEpoch ho hd ?_)))))
        rw [if_neg (by simp)]
        by_cases qq : l = Sum.inr q
        · subst qq
          rw [decide_eq_true rfl, if_pos rfl]
          rcases hin with ⟨z, hin⟩ | ⟨j, z, hj, hjn⟩
          · subst z
            rw [if_neg (by simp)]
            refine wpAny_bind (wpAny_rule ?_)
            split
            · exact wpAny_pure (wpAny_pure (h1 x hl))
            · exact wpAny_pure ⟨rfl, some x, rfl, rnd.2, fun i hi => hsub i (List.mem_cons_of_mem _ hi), .inr ⟨x, rfl, hl, rnd.1⟩⟩
          · exact absurd List.mem_cons_self (nd_at hn hj hl ▸ hjn)
        · rw [decide_eq_false qq, if_neg (by simp)]
          refine wpAny_bind (wpAny_rule ?_)
          rw [if_neg (by simp)]
          refine wpAny_pure ⟨rfl, hit, rfl, rnd.2, fun i hi => hsub i (List.mem_cons_of_mem _ hi), ?_⟩
          rcases hin with ⟨z, hin⟩ | ⟨j, z, hj, hjn⟩
          · refine .inl ⟨z, fun j hj => ?_⟩
            rcases List.mem_cons.mp (hin j hj) with y | y
            · subst y
              rw [hl] at hj
              exact absurd (Option.some.inj hj) qq
            · exact y
          · exact .inr ⟨j, z, hj, fun y => hjn (List.mem_cons_of_mem _ y)⟩
      · obtain ⟨e1, hit, e2, _, _, hin⟩ := hI
        subst e1 e2
        rcases hin with ⟨z, hin⟩ | ⟨j, z, hj, _⟩
        · subst z
          exact wpAny_pure (h0 (none_of fun j hj => nomatch hin j hj))
        · subst z
          exact wpAny_pure (h1 j hj)
end
end Mix

/-! The same dict as an object of the hand layer, and its rules: y not in d, y in d, d[y] = v for a new key, {y: v}. -/
namespace Mix
open PySem PySem.Spec PyProof.Rows L2
/-- a key with the place of its tuple -/
abbrev MKA := Sum Int (List L2.Key × Addr)
def mkey : MKA → MK
  | .inl i => .inl i
  | .inr (ks, _) => .inr ks
def mval : MKA → V
  | .inl i => .int i
  | .inr (_, b) => .ref b
def keys (kvs : List (MKA × V)) : List MK := kvs.map fun p => mkey p.1
/-- the key is there -/
def hasK (kvs : List (MKA × V)) (k : MKA) : Bool := (keys kvs).any fun l => decide (l = mkey k)
theorem hasK_iff {kvs : List (MKA × V)} {k : MKA} : hasK kvs k = true ↔ mkey k ∈ keys kvs := by
  unfold hasK
  rw [List.any_eq_true]
  constructor
  · rintro ⟨l, hl, e⟩
    rw [← of_decide_eq_true e]
    exact hl
  · exact fun h => ⟨_, h, decide_eq_true rfl⟩
theorem hasK_no {kvs : List (MKA × V)} {k : MKA} (h : mkey k ∉ keys kvs) : hasK kvs k = false := by
  cases e : hasK kvs k with
  | false => rfl
  | true => exact absurd (hasK_iff.mp e) h
section
variable (P : Program) (w : World)
def EntV (p : MKA × V) (e : DictEntry) : Prop := e.hash = mH P w (mkey p.1) ∧ RelV (mval p.1) e.key ∧ RelV p.2 e.val
def MixAt (a : Addr) (kvs : List (MKA × V)) (h : Heap) : Prop :=
  (a == sysModules) = false ∧ kvs.length ≤ sizeLine ∧ (keys kvs).Nodup ∧ ∃ o es ep, h.get? a = some o ∧ o.ExactDict ∧ o.data = .dict es ep ∧ Paired (EntV P w) kvs es.toList
/-- the dict -/
def mixO (a : Addr) (kvs : List (MKA × V)) : HO := .ext (MixAt P w a kvs)
end
/-- the tuples of the keys stand -/
def MOk (H : Hp) (kvs : List (MKA × V)) : Prop := ∀ p ∈ kvs, ∀ ks b, p.1 = .inr (ks, b) → H b = some (.tup (ks.map kV))
/-- the value y is the key k -/
def MKey (H : Hp) (y : V) : MKA → Prop
  | .inl i => y = .int i
  | .inr (ks, b) => y = .ref b ∧ H b = some (.tup (ks.map kV))
theorem MOk.nil {H : Hp} : MOk H [] := fun _ h => nomatch h
theorem MOk.snoc {H : Hp} {kvs : List (MKA × V)} {y v : V} {k : MKA} (m : MOk H kvs) (hk : MKey H y k) : MOk H (kvs ++ [(k, v)]) := by
  intro p hp ks b e
  rcases List.mem_append.mp hp with q | q
  · exact m p q ks b e
  · rw [List.mem_singleton.mp q] at e
    subst e
    exact hk.2
theorem MOk.keep {H H' : Hp} {kvs : List (MKA × V)} (m : MOk H kvs) (k : ∀ b xs, H b = some (.tup xs) → H' b = some (.tup xs)) : MOk H' kvs :=
  fun p hp ks b e => k _ _ (m p hp ks b e)
theorem MKey.keep {H H' : Hp} {y : V} : ∀ {k : MKA}, MKey H y k → (∀ b xs, H b = some (.tup xs) → H' b = some (.tup xs)) → MKey H' y k
  | .inl _, m, _ => m
  | .inr _, ⟨m, e⟩, k => ⟨m, k _ _ e⟩
section
variable {P : Program} {w : World}
theorem mixO_ok {H : Hp} {h : Heap} {a : Addr} {kvs : List (MKA × V)} (x : MixAt P w a kvs h) : ObjOk P w H h a (mixO P w a kvs) := by
  refine ⟨x, ?_, fun h1 h2 y st => ?_⟩
  · obtain ⟨_, _, _, o, _, _, e, _⟩ := x
    exact ⟨o, e⟩
  · obtain ⟨a1, a2, a3, o, es, ep, e, r⟩ := y
    exact ⟨a1, a2, a3, o, es, ep, st o e, r⟩
theorem mIs_of {H : Hp} {h : Heap} {y : V} {u : Value} : ∀ {k : MKA}, HOk P w H h → MKey H y k → RelV y u → mIs P w h (mkey k) u
  | .inl i, ok, m, r => by
    cases (show y = .int i from m)
    exact r
  | .inr (ks, b), ok, ⟨m, e⟩, r => by
    cases m
    exact ⟨b, r, key_of ok e⟩
theorem ents {H : Hp} {h : Heap} {kvs : List (MKA × V)} {es : List DictEntry} (ok : HOk P w H h) (r : Paired (EntV P w) kvs es) : MOk H kvs → Paired (Ent P w h) (keys kvs) es := by
  induction r with
  | nil => exact fun _ => .nil
  | @cons p e ps l q t ih =>
    intro m
    refine .cons ⟨q.1, ?_⟩ (ih fun p' hp' => m p' (List.mem_cons_of_mem _ hp'))
    have mk : MKey H (mval p.1) p.1 := by
      cases e1 : p.1 with
      | inl i => exact rfl
      | inr z => exact ⟨rfl, m p List.mem_cons_self z.1 z.2 e1⟩
    exact mIs_of ok mk q.2.1
theorem pr_snoc {α β : Type} {F : α → β → Prop} {x : α} {y : β} (q : F x y) : ∀ {l : List α} {m : List β}, Paired F l m → Paired F (l ++ [x]) (m ++ [y])
  | _, _, .nil => .cons q .nil
  | _, _, .cons r t => .cons r (pr_snoc q t)
theorem pr_len {α β : Type} {F : α → β → Prop} : ∀ {l : List α} {m : List β}, Paired F l m → l.length = m.length
  | _, _, .nil => rfl
  | _, _, .cons _ t => congrArg (· + 1) (pr_len t)
end
section
variable {X : Cx} {pins : List (Addr × Obj)} {σ : List (Option V)} {H : Hp} {s : Shared} {a : Addr} {y v : V} {u r : Value} {kvs : List (MKA × V)} {k : MKA} {A : Around} {E : Value → Shared → Prop}
theorem mx_type (I : Inv X pins σ H s) (e : H a = some (mixO X.prog X.w a kvs)) : s.TypeIs (.ref a) "dict" := by
  obtain ⟨⟨_, _, _, o, es, ep, ho, hc, _⟩, _⟩ := (show ObjOk X.prog X.w H s.heap a (mixO X.prog X.w a kvs) from I.hok a _ e)
  exact ⟨o, ho, hc.1⟩
theorem mx_get {Q : Option Value → Shared → Prop} (hu : A.units < cLine) (I : Inv X pins σ H s) (e : H a = some (mixO X.prog X.w a kvs)) (mo : MOk H kvs) (ky : MKey H y k) (ry : RelV y u)
    (h : ∀ s' o, Inv X pins σ H s' → o.isSome = hasK kvs k → Q o s') : wpAny (model X.prog X.w) A (dictGet a u) Q E s := by
  obtain ⟨⟨hm, hz, hn, o, es, ep, ho, hc, hd, hp⟩, _⟩ := (show ObjOk X.prog X.w H s.heap a (mixO X.prog X.w a kvs) from I.hok a _ e)
  have hk := mIs_of I.hok ky ry
  have hp' := ents I.hok hp mo
  unfold dictGet
  try with_reducible refine wpAny_holding ?_
  refine wpAny_bind (m_hash hu hk fun t => wpAny_bind ?_)
  refine m_find (s := { s with toks := t }) hu hk ho hd hp' hn (fun no => ?_) (fun j hj => ?_)
  · exact wpAny_pure (h _ _ (I.tok t) (by rw [hasK_no no]; rfl))
  · refine wpAny_bind (wpAny_dictEntries (s := { s with toks := t }) ho hd ?_)
    obtain ⟨x, hx, _⟩ := pr_get' hp' hj
    rw [Array.getElem?_toList] at hx
    rw [hx]
    exact wpAny_pure (h _ _ (I.tok t) (by rw [hasK_iff.mpr (List.mem_of_getElem? hj)]; rfl))
theorem mx_contains {Q : Bool → Shared → Prop} (hu : A.units + 1 < cLine) (I : Inv X pins σ H s) (e : H a = some (mixO X.prog X.w a kvs)) (mo : MOk H kvs) (ky : MKey H y k) (ry : RelV y u)
    (h : ∀ s', Inv X pins σ H s' → Q (hasK kvs k) s') : wpAny (model X.prog X.w) A (contains (.ref a) u) Q E s := by
  have hT := mx_type I e
  have hm : (a == sysModules) = false := (show ObjOk X.prog X.w H s.heap a (mixO X.prog X.w a kvs) from I.hok a _ e).1.1
  refine wpAny_contains_slot hT PySem.F.slot_dict_contains (wpAny_call_entry PySem.F.slot_dict_contains hT PySem.F.entry_dict_contains ?_ (PySem.F.args_dict_contains_2 _ _))
  show wpAny _ _ (dictGet a u >>= _) _ _ _
  refine wpAny_bind (mx_get (show A.in1.units < cLine from hu) I e mo ky ry fun s' o I' eo => ?_)
  cases o with
  | some x =>
    have eo' : hasK kvs k = true := by rw [← eo]; rfl
    show wpAny _ _ (ret (.bool true)) _ _ _
    exact wpAny_pure ⟨_, rfl, wpAny_truthy_bool (by have q := h s' I'; rw [eo'] at q; exact q)⟩
  | none =>
    have eo' : hasK kvs k = false := by rw [← eo]; rfl
    show wpAny _ _ (Builtin.Dict.pendingKey? a u >>= _) _ _ _
    exact wpAny_bind (wpAny_pendingKey_other hm (wpAny_pure ⟨_, rfl, wpAny_truthy_bool (by have q := h s' I'; rw [eo'] at q; exact q)⟩))
theorem mx_set {Q : Unit → Shared → Prop} (hu : A.units < cLine) (I : Inv X pins σ H s) (e : H a = some (mixO X.prog X.w a kvs)) (mo : MOk H kvs) (ky : MKey H y k) (ry : RelV y u) (rv : RelV v r)
    (new : mkey k ∉ keys kvs) (hl : kvs.length < sizeLine) (h : ∀ s', Inv X pins σ (upd H a (mixO X.prog X.w a (kvs ++ [(k, v)]))) s' → Q () s') : wpAny (model X.prog X.w) A (dictSet a u r) Q E s := by
  obtain ⟨⟨hm, hz, hn, o, es, ep, ho, hc, hd, hp⟩, _⟩ := (show ObjOk X.prog X.w H s.heap a (mixO X.prog X.w a kvs) from I.hok a _ e)
  have hk := mIs_of I.hok ky ry
  have hp' := ents I.hok hp mo
  have hes : es.size ≤ sizeLine := by
    have q : kvs.length = es.size := (pr_len hp).trans Array.length_toList
    omega
  unfold dictSet
  try with_reducible refine wpAny_holding ?_
  refine wpAny_bind (m_hash hu hk fun t => ?_)
  unfold dictSetHashed
  try with_reducible refine wpAny_holding ?_
  refine wpAny_bind (m_find (s := { s with toks := t }) hu hk ho hd hp' hn (fun no => ?_) (fun j hj => absurd (List.mem_of_getElem? hj) new))
  refine wpAny_bind (wpAny_rule (wpAny_updateDictKeys (hz := hes) (s := { s with toks := t }) ho hd (h _ ?_)))
  refine I.write (x := a) (e := a) (by rw [e]; exact True.intro) (.inl rfl) (fun b q hb z => ?_) ?_ (mixO_ok ⟨hm, by rw [List.length_append]; exact hl, ?_, _, _, ep + 1, Heap.get?_update_self _ ho (Obj.isFreed_of_dict (Obj.data_mapDictKeys hd _)), hc.mapDictKeys _, Obj.data_mapDictKeys hd _, ?_⟩)
  · exact ((Heap.SameBut.update ..).2 b hb).trans z
  · exact ⟨_, Heap.get?_update_self _ ho (Obj.isFreed_of_dict (Obj.data_mapDictKeys hd _))⟩
  · show (keys (kvs ++ [(k, v)])).Nodup
    unfold keys
    rw [List.map_append, List.nodup_append]
    refine ⟨hn, by simp, fun x hx y hy => ?_⟩
    rw [List.map_cons, List.map_nil, List.mem_singleton] at hy
    subst hy
    exact fun z => new (z ▸ hx)
  · rw [Array.toList_push]
    refine pr_snoc ⟨rfl, ?_, rv⟩ hp
    cases k with
    | inl i => cases (show y = .int i from ky); exact ry
    | inr z => cases ky.1; exact ry
theorem mx_setItem {Q : Unit → Shared → Prop} (hu : A.units + 1 < cLine) (I : Inv X pins σ H s) (e : H a = some (mixO X.prog X.w a kvs)) (mo : MOk H kvs) (ky : MKey H y k) (ry : RelV y u) (rv : RelV v r)
    (new : mkey k ∉ keys kvs) (hl : kvs.length < sizeLine) (h : ∀ s', Inv X pins σ (upd H a (mixO X.prog X.w a (kvs ++ [(k, v)]))) s' → Q () s') : wpAny (model X.prog X.w) A (setItem (.ref a) u r) Q E s := by
  have hT := mx_type I e
  unfold setItem
  try with_reducible refine wpAny_holding ?_
  refine wpAny_bind (wpAny_sequenceKey hT (by decide) (wpAny_bind (wpAny_callSpecial?_slot (name := Str.ofString "__setitem__") hT PySem.F.slot_dict_setitem
    (wpAny_call_entry PySem.F.slot_dict_setitem hT PySem.F.entry_dict_setitem ?_ (PySem.F.args_dict_setitem_3 _ _ _)))))
  show wpAny _ _ (Builtin.Dict.notOrdered "__setitem__" ⟨[.ref a, u, r], []⟩ >>= _) _ _ s
  refine wpAny_bind (wpAny_notOrdered_dict hT ?_)
  show wpAny _ _ (dictSet a u r >>= _) _ _ s
  exact wpAny_bind (mx_set (show A.in1.units < cLine from hu) I e mo ky ry rv new hl fun s' I' => wpAny_pure ⟨.none, rfl, wpAny_pure (h s' I')⟩)
end
/-- y in d, y not in d -/
def tMIn (P : Program) (w : World) (ty td : TE) : TE := fun σ H Q => ty σ H fun y H1 => td σ H1 fun x H2 => ∃ a kvs k, x = .ref a ∧ H2 a = some (mixO P w a kvs) ∧ MOk H2 kvs ∧ MKey H2 y k ∧ Q (.bl (hasK kvs k)) H2
def tMNotIn (P : Program) (w : World) (ty td : TE) : TE := fun σ H Q => ty σ H fun y H1 => td σ H1 fun x H2 => ∃ a kvs k, x = .ref a ∧ H2 a = some (mixO P w a kvs) ∧ MOk H2 kvs ∧ MKey H2 y k ∧ Q (.bl (!hasK kvs k)) H2
/-- d[y] = v, y new -/
def sMPut (P : Program) (w : World) (td ty tv : TE) : TS := fun D σ H => tv σ H fun v H1 => td σ H1 fun x H2 => ty σ H2 fun y H3 => ∃ a kvs k, x = .ref a ∧ H3 a = some (mixO P w a kvs) ∧ MOk H3 kvs ∧ MKey H3 y k ∧
  mkey k ∉ keys kvs ∧ kvs.length < sizeLine ∧ D.nx σ (upd H3 a (mixO P w a (kvs ++ [(k, v)])))
/-- {y: v} -/
def tMDisp (P : Program) (w : World) (ty tv : TE) : TE := fun σ H Q => ∀ p, H p = none → ty σ (upd H p (mixO P w p [])) fun y H1 => tv σ H1 fun v H2 => ∃ k, H2 p = some (mixO P w p []) ∧ MKey H2 y k ∧ Q (.ref p) (upd H2 p (mixO P w p [(k, v)]))
/-- {} -/
def tMNew (P : Program) (w : World) : TE := fun _ H Q => ∀ p, H p = none → Q (.ref p) (upd H p (mixO P w p []))
section
variable {X : Cx} {o i e value : Expr} {pos pos' tpos : Pos} {td ty tv : TE}
theorem pc_min (hu : X.A.units + 1 < cLine) (hi : PE X i ty) (ho : PE X o td) : PC X .In i o (tMIn X.prog X.w ty td) := by
  refine ⟨fun pins s σ H Q I h => thn (hi.run pins s σ H _ I h) fun iv s1 ⟨y, H1, I1, ry, q1⟩ => thn (ho.run pins s1 σ H1 _ I1 q1) fun u s2 ⟨x, H2, I2, rx, a, kvs, k, ex, g, mo, ky, q2⟩ => ?_⟩
  subst ex
  obtain rfl : u = Value.ref a := rx
  show wpAny _ _ (contains (.ref a) iv >>= fun z => pure (Value.bool z)) _ _ _
  exact wpAny_bind (mx_contains hu I2 g mo ky ry fun s3 I3 => wpAny_pure ⟨.bl _, H2, I3, rfl, q2⟩)
theorem pc_mnotin (hu : X.A.units + 1 < cLine) (hi : PE X i ty) (ho : PE X o td) : PC X .NotIn i o (tMNotIn X.prog X.w ty td) := by
  refine ⟨fun pins s σ H Q I h => thn (hi.run pins s σ H _ I h) fun iv s1 ⟨y, H1, I1, ry, q1⟩ => thn (ho.run pins s1 σ H1 _ I1 q1) fun u s2 ⟨x, H2, I2, rx, a, kvs, k, ex, g, mo, ky, q2⟩ => ?_⟩
  subst ex
  obtain rfl : u = Value.ref a := rx
  show wpAny _ _ (contains (.ref a) iv >>= fun z => pure (Value.bool (!z))) _ _ _
  exact wpAny_bind (mx_contains hu I2 g mo ky ry fun s3 I3 => wpAny_pure ⟨.bl _, H2, I3, rfl, q2⟩)
theorem ps_mput (hu : X.A.units + 1 < cLine) (ho : PE X o td) (hi : PE X i ty) (hv : PE X value tv) (hs : swapsWith value (some (.Subscript o i pos')) pos.line X.env = pure false) :
    PS X (.Assign [.Subscript o i pos'] value pos) (sMPut X.prog X.w td ty tv) := by
  refine ⟨fun pins s σ H D I h => wpAny_Assign_Subscript (thn (hv.run pins s σ H _ I h) fun r s1 ⟨v, H1, I1, rv, q1⟩ => thn (ho.run pins s1 σ H1 _ I1 q1) fun u s2 ⟨x, H2, I2, rx, q2⟩ =>
    thn (hi.run pins s2 σ H2 _ I2 q2) fun iv s3 ⟨y, H3, I3, ry, a, kvs, k, ex, g, mo, ky, new, hl, q3⟩ => ?_) hs⟩
  subst ex
  obtain rfl : u = Value.ref a := rx
  exact mx_setItem hu I3 g mo ky ry rv new hl fun s4 I4 => ⟨σ, _, I4, q3⟩
theorem mx_empty {P : Program} {w : World} {H : Hp} (h : Heap) (hb : sysModules < h.objs.size) : ObjOk P w H (h.push { cls := .type "dict", data := .dict #[] }) h.objs.size (mixO P w h.objs.size []) :=
  mixO_ok ⟨beq_eq_false_iff_ne.mpr (Ne.symm (Nat.ne_of_lt hb)), Nat.zero_le _, List.nodup_nil, _, #[], 0, Heap.get?_push_size _ rfl, ⟨rfl, rfl, rfl⟩, rfl, .nil⟩
theorem pe_mnew : PE X (.Dict [] [] pos) (tMNew X.prog X.w) := ⟨fun pins s σ H Q I h =>
  wpAny_Dict_empty ⟨.ref s.heap.objs.size, _, I.laid (a := s.heap.objs.size) (t' := s.toks) (fun _ _ q => Heap.get?_push_of_some _ q) (Nat.le_refl _) (mx_empty s.heap I.big), rfl, h _ (I.hok.fresh (Nat.le_refl _))⟩⟩
theorem pe_mdisp (hu : X.A.units + 1 < cLine) (hk : PE X i ty) (hv : PE X e tv) : PE X (.Dict [some i] [e] pos) (tMDisp X.prog X.w ty tv) := by
  refine ⟨fun pins s σ H Q I q => ?_⟩
  have hn := I.hok.fresh (Nat.le_refl s.heap.objs.size)
  have I1 := I.laid (a := s.heap.objs.size) (h' := s.heap.push { cls := .type "dict", data := .dict #[] }) (t' := s.toks) (fun _ _ q => Heap.get?_push_of_some _ q) (Nat.le_refl _) (mx_empty s.heap I.big)
  refine wpAny_Dict_any (by rfl) (by rfl) (fun z => by cases z) (by show 1 ≤ 15; decide) ?_
  refine pairTrees_cons_walk (thn (hk.run pins _ σ _ _ I1 (q _ hn)) fun u s1 ⟨y, H1, I1, ry, q1⟩ => thn (hv.run pins s1 σ H1 _ I1 q1) fun r s2 ⟨v, H2, I2, rv, k, e, ky, q2⟩ => pairTrees_nil_walk ?_)
  unfold storeAll
  rw [List.forIn_cons]
  refine wpAny_bind (wpAny_bind (mx_set (show X.A.units < cLine by omega) I2 e MOk.nil ky ry rv (fun z => nomatch z) (by show 0 < sizeLine; decide) fun s3 I3 => wpAny_pure ?_))
  exact wpAny_pure ⟨.ref s.heap.objs.size, _, I3, rfl, q2⟩
end
/-! ### the same, the program and the world by their own names -/
section
variable {X : Cx} {P : Program} {w : World} {o i e value : Expr} {pos pos' tpos : Pos} {td ty tv : TE}
theorem pc_minK (h1 : X.prog = P) (h2 : X.w = w) (hu : X.A.units + 1 < cLine) (hi : PE X i ty) (ho : PE X o td) : PC X .In i o (tMIn P w ty td) := by
  subst h1 h2
  exact pc_min hu hi ho
theorem pc_mnotinK (h1 : X.prog = P) (h2 : X.w = w) (hu : X.A.units + 1 < cLine) (hi : PE X i ty) (ho : PE X o td) : PC X .NotIn i o (tMNotIn P w ty td) := by
  subst h1 h2
  exact pc_mnotin hu hi ho
theorem ps_mputK (h1 : X.prog = P) (h2 : X.w = w) (hu : X.A.units + 1 < cLine) (ho : PE X o td) (hi : PE X i ty) (hv : PE X value tv) (hs : swapsWith value (some (.Subscript o i pos')) pos.line X.env = pure false) :
    PS X (.Assign [.Subscript o i pos'] value pos) (sMPut P w td ty tv) := by
  subst h1 h2
  exact ps_mput hu ho hi hv hs
theorem pe_mnewK (h1 : X.prog = P) (h2 : X.w = w) : PE X (.Dict [] [] pos) (tMNew P w) := by
  subst h1 h2
  exact pe_mnew
theorem pe_mdispK (h1 : X.prog = P) (h2 : X.w = w) (hu : X.A.units + 1 < cLine) (hk : PE X i ty) (hv : PE X e tv) : PE X (.Dict [some i] [e] pos) (tMDisp P w ty tv) := by
  subst h1 h2
  exact pe_mdisp hu hk hv
end
end Mix

/-! Small lemmas for every text. -/
namespace Hl
open PySem PySem.Spec PyProof.Rows L2
theorem hu1 {n : Nat} (h : n + 64 < cLine) : n < cLine := by omega
theorem hu2 {n : Nat} (h : n + 64 < cLine) : n + 1 < cLine := by omega
theorem ix_listK {X : Cx} {K : PySem.W.Frag} (h : X.K = K) : IxR X (rIxL K) := h ▸ ix_list
theorem ix_tupK {X : Cx} {K : PySem.W.Frag} (h : X.K = K) : IxR X (rIxT K) := h ▸ ix_tup
theorem call_lenW {X : Cx} {K : PySem.W.Frag} (h : X.K = K) : CallR X (.builtin "len") (fun xs H Q => ∃ p ys, xs = [.ref p] ∧ (SqL K H p ys ∨ SqT K H p ys) ∧ Q (.int ys.length) H) := h ▸ call_len_seq
theorem call_isiW {X : Cx} {K : PySem.W.Frag} (h : X.K = K) : CallR X (.builtin "isinstance") (rIsi K) := h ▸ call_isi
theorem at_map {α : Type} {f : α → V} {xs : List α} {i : Int} {j : Nat} {a : α} (e : i = (j : Int)) (h : xs[j]? = some a) : atI (xs.map f) i = some (f a) :=
  at_of e (by rw [List.getElem?_map, h]; all_goals rfl)
/-- an item at an int that is within the list -/
theorem at_in {α : Type} {f : α → V} {xs : List α} {i : Int} (h0 : 0 ≤ i) (h1 : i < xs.length) : ∃ a ∈ xs, atI (xs.map f) i = some (f a) := by
  obtain ⟨j, rfl⟩ := Int.eq_ofNat_of_zero_le h0
  have hj : j < xs.length := by omega
  exact ⟨xs[j], List.getElem_mem hj, at_map rfl (List.getElem?_eq_getElem hj)⟩
theorem at_inV {xs : List V} {i : Int} (h0 : 0 ≤ i) (h1 : i < xs.length) : ∃ a ∈ xs, atI xs i = some a := by
  obtain ⟨j, rfl⟩ := Int.eq_ofNat_of_zero_le h0
  have hj : j < xs.length := by omega
  exact ⟨xs[j], List.getElem_mem hj, at_of rfl (List.getElem?_eq_getElem hj)⟩
theorem sm_new {H : Hp} {p : Addr} {o : HO} (h : H p = none) : Same H (upd H p o) := fun b u e => by
  rw [upd_ne (ne_of_none e h)]
  exact e
/-- a store at what was new -/
theorem sm_put {H H' : Hp} {p : Addr} {o : HO} (s : Same H H') (h : H p = none) : Same H (upd H' p o) := fun b u e => by
  rw [upd_ne (ne_of_none e h)]
  exact s b u e
end Hl

/-! A walk's list and its dict of what was seen. -/
namespace Ce
open PySem PySem.Spec PyProof.Rows L2 Hl
def ckey : Cell → Mix.MK
  | .non => .inr []
  | .obj n => .inl n
  | .far a b => .inr [.inl a, .inl b]
theorem ckey_inj : ∀ {c d : Cell}, ckey c = ckey d → c = d
  | .non, .non, _ => rfl
  | .non, .obj _, h => nomatch h
  | .non, .far _ _, h => by injection h with h; cases h
  | .obj _, .non, h => nomatch h
  | .obj _, .obj _, h => by injection h with h; rw [h]
  | .obj _, .far _ _, h => nomatch h
  | .far _ _, .non, h => by injection h with h; cases h
  | .far _ _, .obj _, h => nomatch h
  | .far _ _, .far _ _, h => by
    injection h with h
    injection h with h1 h2
    injection h2 with h2 _
    injection h1 with h1
    injection h2 with h2
    rw [h1, h2]
theorem mkey_of {H : Hp} {v : V} : ∀ {c : Cell}, CV H c v → c ≠ .non → ∃ ka, Mix.MKey H v ka ∧ Mix.mkey ka = ckey c
  | .non, _, h => absurd rfl h
  | .obj n, h, _ => ⟨.inl n, h, rfl⟩
  | .far a b, ⟨t, h1, h2⟩, _ => ⟨.inr ([.inl a, .inl b], t), ⟨h1, h2⟩, rfl⟩
/-- the list at lw and the dict at as hold the cells ws -/
structure RI (P : Program) (w : World) (H0 H2 : Hp) (lw as : Addr) (ws : List Cell) (vs : List V) (kvs : List (Mix.MKA × V)) : Prop where
  sm : Same H0 H2
  lst : H2 lw = some (.lst vs)
  cv : CVs H2 ws vs
  dic : H2 as = some (Mix.mixO P w as kvs)
  mo : Mix.MOk H2 kvs
  ks : Mix.keys kvs = ws.map ckey
  nn : ∀ c ∈ ws, c ≠ .non
  fl : H0 lw = none
  fa : H0 as = none
  ne : lw ≠ as
section
variable {P : Program} {w : World} {H0 H2 H3 : Hp} {lw as : Addr} {ws : List Cell} {vs : List V} {kvs : List (Mix.MKA × V)}
theorem RI.same (R : RI P w H0 H2 lw as ws vs kvs) (s : Same H2 H3) : RI P w H0 H3 lw as ws vs kvs :=
  ⟨R.sm.trans s, s _ _ R.lst, R.cv.tl (TL.same s), s _ _ R.dic, R.mo.keep fun _ _ h => s _ _ h, R.ks, R.nn, R.fl, R.fa, R.ne⟩
theorem RI.has (R : RI P w H0 H2 lw as ws vs kvs) {c : Cell} {ka : Mix.MKA} (e : Mix.mkey ka = ckey c) : Mix.hasK kvs ka = true ↔ c ∈ ws := by
  rw [Mix.hasK_iff, R.ks, e, List.mem_map]
  constructor
  · rintro ⟨d, hd, h⟩
    rw [← ckey_inj h]
    exact hd
  · exact fun h => ⟨c, h, rfl⟩
theorem RI.len (R : RI P w H0 H2 lw as ws vs kvs) : kvs.length = ws.length := by
  have := congrArg List.length R.ks
  rw [List.length_map] at this
  unfold Mix.keys at this
  rw [List.length_map] at this
  exact this
/-- one more -/
theorem RI.add (R : RI P w H0 H2 lw as ws vs kvs) {c : Cell} {v : V} {ka : Mix.MKA} (hv : CV H2 c v) (hc : c ≠ .non) (hk : Mix.MKey H2 v ka) (e : Mix.mkey ka = ckey c) :
    (upd H2 as (Mix.mixO P w as (kvs ++ [(ka, .bl true)]))) lw = some (.lst vs) ∧
    RI P w H0 (upd (upd H2 as (Mix.mixO P w as (kvs ++ [(ka, .bl true)]))) lw (.lst (vs ++ [v]))) lw as (ws ++ [c]) (vs ++ [v]) (kvs ++ [(ka, .bl true)]) := by
  have h1 : (upd H2 as (Mix.mixO P w as (kvs ++ [(ka, .bl true)]))) lw = some (.lst vs) := by rw [upd_ne R.ne]; exact R.lst
  have t1 : TL H2 (upd H2 as (Mix.mixO P w as (kvs ++ [(ka, .bl true)]))) := TL.put R.dic fun xs z => nomatch z
  have t2 : TL H2 (upd (upd H2 as (Mix.mixO P w as (kvs ++ [(ka, .bl true)]))) lw (.lst (vs ++ [v]))) := t1.trans (TL.put h1 fun xs z => nomatch z)
  refine ⟨h1, sm_put (sm_put R.sm R.fa) R.fl, upd_same, pr_app (R.cv.tl t2) (.cons (hv.tl t2) .nil), by rw [upd_ne R.ne.symm, upd_same], (R.mo.snoc hk).keep t2, ?_, fun d hd => ?_, R.fl, R.fa, R.ne⟩
  · unfold Mix.keys
    rw [List.map_append, List.map_append]
    show Mix.keys kvs ++ [Mix.mkey ka] = ws.map ckey ++ [ckey c]
    rw [R.ks, e]
  · rcases List.mem_append.mp hd with h | h
    · exact R.nn d h
    · rw [List.mem_singleton.mp h]
      exact hc
end
end Ce

/-! Lists of ints and of pairs as data that is compared. -/
namespace Ce
open PySem PySem.Spec PyProof.Rows L2 Hl
def dI (ns : List Int) : PyData := .list (ns.map PyData.int)
def dR (rs : List (Int × Int)) : PyData := .list (rs.map fun r => PyData.tuple [.int r.1, .int r.2])
theorem depthAll_le {k : Nat} : ∀ {ds : List PyData}, (∀ d ∈ ds, d.depth ≤ k) → PyData.depthAll ds ≤ k
  | [], _ => by simp [PyData.depthAll]
  | d :: ds, h => by
    have h1 := h d List.mem_cons_self
    have h2 := depthAll_le (k := k) (ds := ds) fun e he => h e (List.mem_cons_of_mem _ he)
    simp only [PyData.depthAll]
    omega
section
variable {K : PySem.W.Frag} {H : Hp} {l : Addr} {ns : List Int} {rs : List (Int × Int)} {bs : List V}
theorem tds_I : ∀ ns : List Int, Fh.TDs H (ns.map V.int) (ns.map PyData.int)
  | [] => .nil
  | n :: ns => .cons (.int n) (tds_I ns)
theorem tds_R (h : RVs H rs bs) : Fh.TDs H bs (rs.map fun r => PyData.tuple [.int r.1, .int r.2]) := by
  induction h with
  | nil => exact .nil
  | cons q _ ih =>
    obtain ⟨t, rfl, e⟩ := q
    exact .cons (.tup e (.cons (.int _) (.cons (.int _) .nil))) ih
theorem dp_I (h : SqL K H l (ns.map V.int)) : Dp K H (.ref l) (dI ns) := .lst h (Fh.TDs.dp (tds_I ns))
theorem dp_R (h : SqL K H l bs) (r : RVs H rs bs) : Dp K H (.ref l) (dR rs) := .lst h (Fh.TDs.dp (tds_R r))
theorem lay_I : (dI ns).canLay0 = true := by
  unfold dI
  rw [PyData.canLay0]
  exact Fh.TDs.lay (H := fun _ => none) (tds_I ns)
theorem lay_R : ∀ {rs : List (Int × Int)}, (dR rs).canLay0 = true := by
  intro rs
  unfold dR
  rw [PyData.canLay0]
  induction rs with
  | nil => rfl
  | cons r rs ih =>
    rw [List.map_cons, PyData.canLayAll0, ih]
    rfl
theorem shaped_I : SeqAt.shaped (dI ns) = true := by
  refine Fh.shaped_of lay_I ?_
  unfold dI
  have : PyData.depthAll (ns.map PyData.int) ≤ 10 := depthAll_le fun d hd => by
    obtain ⟨n, _, rfl⟩ := List.mem_map.mp hd
    simp [PyData.depth]
  simp only [PyData.depth]
  omega
theorem shaped_R : SeqAt.shaped (dR rs) = true := by
  refine Fh.shaped_of lay_R ?_
  unfold dR
  have : PyData.depthAll (rs.map fun r => PyData.tuple [.int r.1, .int r.2]) ≤ 10 := depthAll_le fun d hd => by
    obtain ⟨n, _, rfl⟩ := List.mem_map.mp hd
    simp [PyData.depth, PyData.depthAll]
  simp only [PyData.depth]
  omega
theorem eqv_I : PyData.eqv (dI ns) (dI ns) = true := SeqAt.eqv_refl _ lay_I
theorem eqv_R : PyData.eqv (dR rs) (dR rs) = true := SeqAt.eqv_refl _ lay_R
end
end Ce

/-! A long chain or ring of objects: what a start reaches in it. -/
namespace Ce
open PySem PySem.Spec PyProof.Rows L2
def cnC (r1 : Int) : Int := 1000 + r1 % 2001
def stp (r2 : Int) : Int := 1 + r2 % 3
def rev (r2 : Int) : Prop := r2 / 12 % 2 = 1
def ring (r2 : Int) : Prop := r2 / 6 % 2 = 1
instance (r2 : Int) : Decidable (rev r2) := inferInstanceAs (Decidable (_ = _))
instance (r2 : Int) : Decidable (ring r2) := inferInstanceAs (Decidable (_ = _))
def plc (r1 r2 at_ : Int) : Int := (if rev r2 ∧ at_ < cnC r1 then cnC r1 - 1 - at_ else at_) * stp r2
def nxt (r1 r2 at_ : Int) : Int := if at_ = cnC r1 - 1 ∧ ring r2 then plc r1 r2 0 else plc r1 r2 (at_ + 1)
def ent (r1 r2 mid at_ : Int) : Int × List Cell := (plc r1 r2 at_, if at_ = mid then [.non, .far (at_ % 8) (stp r2), .obj (nxt r1 r2 at_)] else [.obj (nxt r1 r2 at_)])
section
variable {r1 r2 mid : Int}
theorem cnC_lo : 1000 ≤ cnC r1 := by unfold cnC; have := Int.emod_nonneg r1 (b := 2001) (by decide); omega
theorem cnC_hi : cnC r1 ≤ 3000 := by unfold cnC; have := Int.emod_lt_of_pos r1 (b := 2001) (by decide); omega
theorem stp_lo : 1 ≤ stp r2 := by unfold stp; have := Int.emod_nonneg r2 (b := 3) (by decide); omega
theorem stp_hi : stp r2 ≤ 3 := by unfold stp; have := Int.emod_lt_of_pos r2 (b := 3) (by decide); omega
theorem mul_inj {a b s : Int} (hs : 1 ≤ s) (h : a * s = b * s) : a = b := Int.eq_of_mul_eq_mul_right (by omega) h
theorem plc_inj {a b : Int} (a0 : 0 ≤ a) (a1 : a ≤ cnC r1) (b0 : 0 ≤ b) (b1 : b ≤ cnC r1) (h : plc r1 r2 a = plc r1 r2 b) : a = b := by
  unfold plc at h
  have h := mul_inj stp_lo h
  by_cases hr : rev r2
  · by_cases ha : a < cnC r1
    · by_cases hb : b < cnC r1
      · rw [if_pos ⟨hr, ha⟩, if_pos ⟨hr, hb⟩] at h
        omega
      · rw [if_pos ⟨hr, ha⟩, if_neg fun z => hb z.2] at h
        omega
    · by_cases hb : b < cnC r1
      · rw [if_neg fun z => ha z.2, if_pos ⟨hr, hb⟩] at h
        omega
      · omega
  · rw [if_neg fun z => hr z.1, if_neg fun z => hr z.1] at h
    exact h
/-- the fields are those of the chain -/
structure Chain (r1 r2 mid : Int) (fs : Fields) : Prop where
  mem : ∀ p, p ∈ fs ↔ ∃ a, 0 ≤ a ∧ a < cnC r1 ∧ p = ent r1 r2 mid a
  len : (fs.length : Int) = cnC r1
theorem Chain.at_ {fs : Fields} (C : Chain r1 r2 mid fs) {a : Int} (a0 : 0 ≤ a) (a1 : a < cnC r1) {cs : List Cell} (h : (plc r1 r2 a, cs) ∈ fs) : cs = (ent r1 r2 mid a).2 := by
  obtain ⟨b, b0, b1, e⟩ := (C.mem _).mp h
  unfold ent at e
  injection e with e1 e2
  have := plc_inj a0 (by omega) b0 (by omega) e1
  subst this
  exact e2
theorem Chain.key {fs : Fields} (C : Chain r1 r2 mid fs) {n : Int} : IsKey fs n ↔ ∃ a, 0 ≤ a ∧ a < cnC r1 ∧ n = plc r1 r2 a := by
  constructor
  · rintro ⟨cs, h⟩
    obtain ⟨a, a0, a1, e⟩ := (C.mem _).mp h
    exact ⟨a, a0, a1, congrArg Prod.fst e⟩
  · rintro ⟨a, a0, a1, rfl⟩
    exact ⟨_, (C.mem _).mpr ⟨a, a0, a1, rfl⟩⟩
def low (r2 first : Int) : Int := if ring r2 then 0 else first
theorem nxt_obj {a : Int} : Cell.obj (nxt r1 r2 a) ∈ (ent r1 r2 mid a).2 := by
  unfold ent
  dsimp only
  split
  · exact List.mem_cons_of_mem _ (List.mem_cons_of_mem _ List.mem_cons_self)
  · exact List.mem_cons_self
theorem Chain.up {fs : Fields} (C : Chain r1 r2 mid fs) {s : Cell} {a : Int} (a0 : 0 ≤ a) (h : RC fs s (.obj (plc r1 r2 a))) : ∀ n : Nat, a + n < cnC r1 → RC fs s (.obj (plc r1 r2 (a + n)))
  | 0, _ => by
    have e : a + ((0 : Nat) : Int) = a := by omega
    rw [e]
    exact h
  | n + 1, hl => by
    have ih := Chain.up C a0 h n (by omega)
    have hm : (plc r1 r2 (a + n), (ent r1 r2 mid (a + n)).2) ∈ fs := (C.mem _).mpr ⟨a + n, by omega, by omega, rfl⟩
    have st := RC.step ih hm (nxt_obj (mid := mid)) (fun z => nomatch z)
    have e : nxt r1 r2 (a + n) = plc r1 r2 (a + ((n + 1 : Nat) : Int)) := by
      unfold nxt
      rw [if_neg (by omega)]
      congr 1
      omega
    rw [e] at st
    exact st
theorem Chain.all {fs : Fields} (C : Chain r1 r2 mid fs) {first : Int} (f0 : 0 ≤ first) (f1 : first < cnC r1) (m0 : 0 ≤ mid) (m1 : mid < cnC r1) (c : Cell) :
    RC fs (.obj (plc r1 r2 first)) c ↔ (∃ a, low r2 first ≤ a ∧ a < cnC r1 ∧ c = .obj (plc r1 r2 a)) ∨ (low r2 first ≤ mid ∧ c = .far (mid % 8) (stp r2)) ∨ (¬ ring r2 ∧ c = .obj (plc r1 r2 (cnC r1))) := by
  have lo0 : 0 ≤ low r2 first := by
    unfold low
    split <;> omega
  have lof : low r2 first ≤ first := by
    unfold low
    split <;> omega
  have reach : ∀ a, low r2 first ≤ a → a < cnC r1 → RC fs (.obj (plc r1 r2 first)) (.obj (plc r1 r2 a)) := by
    intro a h1 h2
    by_cases hr : ring r2
    · have top := C.up f0 RC.here (cnC r1 - 1 - first).toNat (by omega)
      have et : first + (((cnC r1 - 1 - first).toNat : Nat) : Int) = cnC r1 - 1 := by omega
      rw [et] at top
      have hm : (plc r1 r2 (cnC r1 - 1), (ent r1 r2 mid (cnC r1 - 1)).2) ∈ fs := (C.mem _).mpr ⟨cnC r1 - 1, by omega, by omega, rfl⟩
      have st := RC.step top hm (nxt_obj (mid := mid)) (fun z => nomatch z)
      have e : nxt r1 r2 (cnC r1 - 1) = plc r1 r2 0 := by
        unfold nxt
        rw [if_pos ⟨rfl, hr⟩]
      rw [e] at st
      have fin := C.up (Int.le_refl 0) st a.toNat (by omega)
      have ea : (0 : Int) + ((a.toNat : Nat) : Int) = a := by omega
      rw [ea] at fin
      exact fin
    · have el : low r2 first = first := by
        unfold low
        rw [if_neg hr]
      have fin := C.up f0 RC.here (a - first).toNat (by omega)
      have ea : first + (((a - first).toNat : Nat) : Int) = a := by omega
      rw [ea] at fin
      exact fin
  constructor
  · intro h
    induction h with
    | here => exact .inl ⟨first, lof, f1, rfl⟩
    | @step m cs c _ h2 h3 h4 ih =>
      obtain ⟨b, b0, b1, eb⟩ := C.key.mp ⟨cs, h2⟩
      have hb : low r2 first ≤ b := by
        rcases ih with ⟨a, a0, a1, e⟩ | ⟨_, e⟩ | ⟨_, e⟩
        · injection e with e
          rw [eb] at e
          have := plc_inj b0 (by omega) (by omega) (by omega) e
          omega
        · exact nomatch e
        · injection e with e
          rw [eb] at e
          have := plc_inj b0 (by omega) (by omega) (Int.le_refl _) e
          omega
      rw [eb] at h2
      have ec := C.at_ b0 b1 h2
      rw [ec] at h3
      have hn : c = .obj (nxt r1 r2 b) ∨ (b = mid ∧ c = .far (b % 8) (stp r2)) := by
        unfold ent at h3
        dsimp only at h3
        split at h3
        · rename_i em
          rcases List.mem_cons.mp h3 with e | h3
          · exact absurd e h4
          rcases List.mem_cons.mp h3 with e | h3
          · exact .inr ⟨em, e⟩
          · exact .inl (List.mem_singleton.mp h3)
        · exact .inl (List.mem_singleton.mp h3)
      rcases hn with e | ⟨em, e⟩
      · subst e
        unfold nxt
        split
        · rename_i hq
          refine .inl ⟨0, ?_, by omega, rfl⟩
          unfold low
          rw [if_pos hq.2]
          exact Int.le_refl _
        · rename_i hq
          by_cases hl : b + 1 < cnC r1
          · exact .inl ⟨b + 1, by omega, hl, rfl⟩
          · have e1 : b + 1 = cnC r1 := by omega
            refine .inr (.inr ⟨fun z => hq ⟨by omega, z⟩, by rw [e1]⟩)
      · subst em
        exact .inr (.inl ⟨hb, e⟩)
  · rintro (⟨a, a0, a1, rfl⟩ | ⟨hl, rfl⟩ | ⟨hr, rfl⟩)
    · exact reach a a0 a1
    · have hm : (plc r1 r2 mid, (ent r1 r2 mid mid).2) ∈ fs := (C.mem _).mpr ⟨mid, m0, m1, rfl⟩
      refine RC.step (reach mid hl m1) hm ?_ (fun z => nomatch z)
      unfold ent
      rw [if_pos rfl]
      exact List.mem_cons_of_mem _ List.mem_cons_self
    · have el : low r2 first = first := by
        unfold low
        rw [if_neg hr]
      have hm : (plc r1 r2 (cnC r1 - 1), (ent r1 r2 mid (cnC r1 - 1)).2) ∈ fs := (C.mem _).mpr ⟨cnC r1 - 1, by omega, by omega, rfl⟩
      have st := RC.step (reach (cnC r1 - 1) (by omega) (by omega)) hm (nxt_obj (mid := mid)) (fun z => nomatch z)
      have e : nxt r1 r2 (cnC r1 - 1) = plc r1 r2 (cnC r1) := by
        unfold nxt
        rw [if_neg fun z => hr z.2]
        congr 1
        omega
      rw [e] at st
      exact st
/-- what reach answers in the chain -/
theorem Chain.objs {fs : Fields} (C : Chain r1 r2 mid fs) {first : Int} (f0 : 0 ≤ first) (f1 : first < cnC r1) (m0 : 0 ≤ mid) (m1 : mid < cnC r1) (n : Int) :
    (RC fs (.obj (plc r1 r2 first)) (.obj n) ∧ IsKey fs n) ↔ ∃ a, low r2 first ≤ a ∧ a < cnC r1 ∧ n = plc r1 r2 a := by
  rw [C.all f0 f1 m0 m1, C.key]
  have lo0 : 0 ≤ low r2 first := by
    unfold low
    split <;> omega
  constructor
  · rintro ⟨h | ⟨_, h⟩ | ⟨_, h⟩, b, b0, b1, e⟩
    · obtain ⟨a, a0, a1, h⟩ := h
      injection h with h
      exact ⟨a, a0, a1, h⟩
    · exact nomatch h
    · injection h with h
      rw [e] at h
      have := plc_inj b0 (by omega) (by omega) (Int.le_refl _) h
      omega
  · rintro ⟨a, a0, a1, rfl⟩
    exact ⟨.inl ⟨a, a0, a1, rfl⟩, a, by omega, a1, rfl⟩
theorem Chain.refs {fs : Fields} (C : Chain r1 r2 mid fs) {first : Int} (f0 : 0 ≤ first) (f1 : first < cnC r1) (m0 : 0 ≤ mid) (m1 : mid < cnC r1) (r : Int × Int) :
    RC fs (.obj (plc r1 r2 first)) (.far r.1 r.2) ↔ low r2 first ≤ mid ∧ r = (mid % 8, stp r2) := by
  rw [C.all f0 f1 m0 m1]
  constructor
  · rintro (⟨_, _, _, h⟩ | ⟨hl, h⟩ | ⟨_, h⟩)
    · exact nomatch h
    · injection h with h1 h2
      exact ⟨hl, Prod.ext h1 h2⟩
    · exact nomatch h
  · rintro ⟨hl, rfl⟩
    exact .inr (.inl ⟨hl, rfl⟩)
end
end Ce

/-! Tables of greatest values, as dicts. -/
namespace Ce
open PySem PySem.Spec PyProof.Rows L2
section
variable {α κ : Type} [DecidableEq α] [DecidableEq κ]
def enc (f : α → κ) (L : List (α × Int)) : List (κ × V) := L.map fun p => (f p.1, V.int p.2)
def getL (L : List (α × Int)) (k : α) : Option Int := (L.find? fun p => decide (p.1 = k)).map (·.2)
def putL (L : List (α × Int)) (k : α) (v : Int) : List (α × Int) := if L.any (fun p => decide (p.1 = k)) then L.map (fun p => if p.1 = k then (p.1, v) else p) else L ++ [(k, v)]
variable {f : α → κ} (hf : ∀ a b, f a = f b → a = b)
include hf
theorem enc_val (k : α) : ∀ L : List (α × Int), valV (enc f L) (f k) = (getL L k).map V.int
  | [] => rfl
  | p :: L => by
    by_cases e : p.1 = k
    · unfold enc getL
      rw [List.map_cons, valV_pos (show f p.1 = f k by rw [e]), List.find?_cons_of_pos (by exact decide_eq_true e)]
      rfl
    · have ih := enc_val k L
      unfold enc getL at ih ⊢
      rw [List.map_cons, valV_neg (fun z => e (hf _ _ z)), List.find?_cons_of_neg (by rw [decide_eq_false e]; exact Bool.false_ne_true)]
      exact ih
theorem enc_put (L : List (α × Int)) (k : α) (v : Int) : putK (enc f L) (f k) (.int v) = enc f (putL L k v) := by
  have ha : ((enc f L).any fun kv => decide (kv.1 = f k)) = L.any fun p => decide (p.1 = k) := by
    unfold enc
    rw [List.any_map]
    congr 1
    funext p
    show decide (f p.1 = f k) = decide (p.1 = k)
    by_cases e : p.1 = k
    · rw [e, decide_eq_true rfl, decide_eq_true rfl]
    · rw [decide_eq_false e, decide_eq_false fun z => e (hf _ _ z)]
  unfold putK putL
  rw [ha]
  split
  · unfold enc
    rw [List.map_map, List.map_map]
    refine List.map_congr_left fun p _ => ?_
    show (if f p.1 = f k then (f p.1, V.int v) else (f p.1, V.int p.2)) = (f (if p.1 = k then (p.1, v) else p).1, V.int (if p.1 = k then (p.1, v) else p).2)
    by_cases e : p.1 = k
    · rw [if_pos e, if_pos (by rw [e])]
    · rw [if_neg e, if_neg fun z => e (hf _ _ z)]
  · unfold enc
    rw [List.map_append]
    rfl
end
section
variable {α : Type} [DecidableEq α]
theorem getL_some {L : List (α × Int)} {k : α} {v : Int} (h : getL L k = some v) : (k, v) ∈ L := by
  unfold getL at h
  obtain ⟨p, hp, rfl⟩ := Option.map_eq_some_iff.mp h
  have e : p.1 = k := by simpa using List.find?_some hp
  rw [← e]
  exact List.mem_of_find?_eq_some hp
theorem getL_none {L : List (α × Int)} {k : α} (h : getL L k = none) : ∀ v, (k, v) ∉ L := by
  intro v hm
  unfold getL at h
  have z := List.find?_eq_none.mp (Option.map_eq_none_iff.mp h) _ hm
  simp at z
theorem getL_nd {L : List (α × Int)} (hn : (L.map (·.1)).Nodup) {k : α} {v : Int} (h : (k, v) ∈ L) : getL L k = some v := by
  induction L with
  | nil => exact nomatch h
  | cons p L ih =>
    rw [List.map_cons, List.nodup_cons] at hn
    unfold getL
    rcases List.mem_cons.mp h with e | e
    · subst e
      rw [List.find?_cons_of_pos (by exact decide_eq_true rfl)]
      rfl
    · have ne : ¬ p.1 = k := fun z => hn.1 (z ▸ List.mem_map.mpr ⟨_, e, rfl⟩)
      rw [List.find?_cons_of_neg (by rw [decide_eq_false ne]; exact Bool.false_ne_true)]
      exact ih hn.2 e
theorem putL_nd {L : List (α × Int)} (h : (L.map (·.1)).Nodup) (k : α) (v : Int) : ((putL L k v).map (·.1)).Nodup := by
  unfold putL
  split
  · have e : (L.map fun p => if p.1 = k then (p.1, v) else p).map (·.1) = L.map (·.1) := by
      rw [List.map_map]
      refine List.map_congr_left fun p _ => ?_
      show (if p.1 = k then (p.1, v) else p).1 = p.1
      split <;> rfl
    rw [e]
    exact h
  · rename_i hn
    rw [List.map_append, List.nodup_append]
    refine ⟨h, by simp, fun x hx y hy z => hn ?_⟩
    rw [List.map_cons, List.map_nil, List.mem_singleton] at hy
    subst z hy
    obtain ⟨p, hp, e⟩ := List.mem_map.mp hx
    exact List.any_eq_true.mpr ⟨p, hp, decide_eq_true e⟩
theorem putL_mem {L : List (α × Int)} (hn : (L.map (·.1)).Nodup) {k k' : α} {v v' : Int} : (k', v') ∈ putL L k v ↔ (k' = k ∧ v' = v) ∨ (k' ≠ k ∧ (k', v') ∈ L) := by
  unfold putL
  split
  · rename_i ha
    rw [List.mem_map]
    constructor
    · rintro ⟨p, hp, e⟩
      by_cases ek : p.1 = k
      · rw [if_pos ek] at e
        cases e
        exact .inl ⟨ek, rfl⟩
      · rw [if_neg ek] at e
        subst e
        exact .inr ⟨ek, hp⟩
    · rintro (⟨rfl, rfl⟩ | ⟨hk, hm⟩)
      · obtain ⟨p, hp, e⟩ := List.any_eq_true.mp ha
        have e := of_decide_eq_true e
        exact ⟨p, hp, by rw [if_pos e, e]⟩
      · exact ⟨_, hm, by rw [if_neg hk]⟩
  · rename_i ha
    rw [List.mem_append, List.mem_singleton]
    constructor
    · rintro (h | h)
      · refine .inr ⟨fun e => ha (List.any_eq_true.mpr ⟨_, h, decide_eq_true e⟩), h⟩
      · cases h
        exact .inl ⟨rfl, rfl⟩
    · rintro (⟨rfl, rfl⟩ | ⟨_, h⟩)
      · exact .inr rfl
      · exact .inl h
theorem putL_len (L : List (α × Int)) (k : α) (v : Int) : (putL L k v).length ≤ L.length + 1 := by
  unfold putL
  split
  · rw [List.length_map]; omega
  · rw [List.length_append]; exact Nat.le_refl _
/-- the greatest of what each key is offered -/
structure TabP (P : α → Int → Prop) (L : List (α × Int)) : Prop where
  nd : (L.map (·.1)).Nodup
  mem : ∀ k v, (k, v) ∈ L ↔ P k v ∧ ∀ w, P k w → w ≤ v
  full : ∀ k w, P k w → ∃ v, (k, v) ∈ L
variable {P P' : α → Int → Prop} {L L' : List (α × Int)}
theorem TabP.nil (h : ∀ k v, ¬ P k v) : TabP P [] := ⟨List.nodup_nil, fun k v => ⟨fun z => (nomatch z), fun z => absurd z.1 (h k v)⟩, fun k v z => absurd z (h k v)⟩
theorem TabP.congr (T : TabP P L) (h : ∀ k v, P k v ↔ P' k v) : TabP P' L :=
  ⟨T.nd, fun k v => by
    rw [T.mem, h]
    exact ⟨fun ⟨a, b⟩ => ⟨a, fun w hw => b w ((h k w).mpr hw)⟩, fun ⟨a, b⟩ => ⟨a, fun w hw => b w ((h k w).mp hw)⟩⟩,
    fun k w z => T.full k w ((h k w).mpr z)⟩
/-- what is offered has a greatest -/
theorem TabP.has (T : TabP P L) {k : α} {v : Int} (h : getL L k = some v) : P k v ∧ ∀ w, P k w → w ≤ v := (T.mem k v).mp (getL_some h)
theorem TabP.put (T : TabP P L) (k0 : α) (v0 : Int) :
    TabP (fun k v => P k v ∨ (k = k0 ∧ v = v0)) (putL L k0 (match getL L k0 with | some w => if w > v0 then w else v0 | none => v0)) := by
  have hb : ∀ k w, P k w → ∃ v, getL L k = some v := fun k w h => by
    obtain ⟨v, hv⟩ := T.full k w h
    exact ⟨v, getL_nd T.nd hv⟩
  refine ⟨putL_nd T.nd _ _, fun k v => ?_, fun k w hw => ?_⟩
  rotate_left
  · by_cases hk : k = k0
    · exact ⟨_, (putL_mem T.nd).mpr (.inl ⟨hk, rfl⟩)⟩
    · rcases hw with hw | ⟨hw, _⟩
      · obtain ⟨v, hv⟩ := T.full k w hw
        exact ⟨v, (putL_mem T.nd).mpr (.inr ⟨hk, hv⟩)⟩
      · exact absurd hw hk
  rw [putL_mem T.nd]
  constructor
  · rintro (⟨rfl, rfl⟩ | ⟨hk, hm⟩)
    · cases e : getL L k with
      | none =>
        refine ⟨.inr ⟨rfl, rfl⟩, fun w hw => ?_⟩
        rcases hw with hw | ⟨_, hw⟩
        · obtain ⟨u, hu⟩ := hb k w hw
          rw [e] at hu
          cases hu
        · rw [hw]
          exact Int.le_refl _
      | some u =>
        obtain ⟨h1, h2⟩ := T.has e
        dsimp only
        split
        · rename_i hg
          refine ⟨.inl h1, fun w hw => ?_⟩
          rcases hw with hw | ⟨_, hw⟩
          · exact h2 w hw
          · omega
        · rename_i hg
          refine ⟨.inr ⟨rfl, rfl⟩, fun w hw => ?_⟩
          rcases hw with hw | ⟨_, hw⟩
          · have := h2 w hw
            omega
          · omega
    · obtain ⟨h1, h2⟩ := (T.mem k v).mp hm
      refine ⟨.inl h1, fun w hw => ?_⟩
      rcases hw with hw | ⟨hw, _⟩
      · exact h2 w hw
      · exact absurd hw hk
  · rintro ⟨h1, h2⟩
    by_cases hk : k = k0
    · subst hk
      refine .inl ⟨rfl, ?_⟩
      cases e : getL L k with
      | none =>
        rcases h1 with h1 | ⟨_, h1⟩
        · obtain ⟨u, hu⟩ := hb k v h1
          rw [e] at hu
          cases hu
        · exact h1
      | some u =>
        obtain ⟨h3, h4⟩ := T.has e
        dsimp only
        have h5 := h2 u (.inl h3)
        have h6 := h2 v0 (.inr ⟨rfl, rfl⟩)
        split
        · rcases h1 with h1 | ⟨_, h1⟩
          · have := h4 v h1
            omega
          · omega
        · rcases h1 with h1 | ⟨_, h1⟩
          · have := h4 v h1
            omega
          · exact h1
    · refine .inr ⟨hk, (T.mem k v).mpr ⟨?_, fun w hw => h2 w (.inl hw)⟩⟩
      rcases h1 with h1 | ⟨h1, _⟩
      · exact h1
      · exact absurd h1 hk
theorem TabP.get_eq (T : TabP P L) (T' : TabP P L') (k : α) : getL L k = getL L' k := by
  cases e : getL L k with
  | some v => exact (getL_nd T'.nd ((T'.mem k v).mpr (T.has e))).symm
  | none =>
    cases e' : getL L' k with
    | none => rfl
    | some v => exact absurd ((T.mem k v).mpr (T'.has e')) (getL_none e v)
theorem TabP.len_le (T : TabP P L) (T' : TabP P L') : L.length ≤ L'.length := by
  have h := nd_len (l := L.map (·.1)) (m := L'.map (·.1)) T.nd fun k hk => by
    obtain ⟨p, hp, rfl⟩ := List.mem_map.mp hk
    exact List.mem_map.mpr ⟨p, (T'.mem _ _).mpr ((T.mem _ _).mp hp), rfl⟩
  rw [List.length_map, List.length_map] at h
  exact h
theorem TabP.len_eq (T : TabP P L) (T' : TabP P L') : L.length = L'.length := Nat.le_antisymm (T.len_le T') (T'.len_le T)
end
/-! ### sources -/
abbrev Srcs := List (Cell × Int)
/-- offered by the sources: an object, a far reference -/
def offO (fs : Fields) (ss : Srcs) (n v : Int) : Prop := ∃ s, (s, v) ∈ ss ∧ RC fs s (.obj n) ∧ IsKey fs n
def offR (fs : Fields) (ss : Srcs) (r : Int × Int) (v : Int) : Prop := ∃ s, (s, v) ∈ ss ∧ RC fs s (.far r.1 r.2)
/-- a source in the heap -/
def SrcV (H : Hp) (p : Cell × Int) (v : V) : Prop := p.1 ≠ .non ∧ ∃ t sv, v = .ref t ∧ H t = some (.tup [sv, .int p.2]) ∧ CV H p.1 sv
theorem SrcV.tl {H H' : Hp} (t : TL H H') {p : Cell × Int} {v : V} (h : SrcV H p v) : SrcV H' p v := by
  obtain ⟨h1, a, sv, h2, h3, h4⟩ := h
  exact ⟨h1, a, sv, h2, t _ _ h3, h4.tl t⟩
abbrev SrcVs (H : Hp) : Srcs → List V → Prop := Paired (SrcV H)
theorem SrcVs.tl {H H' : Hp} (t : TL H H') {ss : Srcs} {vs : List V} (h : SrcVs H ss vs) : SrcVs H' ss vs := Paired.mapP h fun _ _ q => q.tl t
def kO (n : Int) : L2.Key := .inl n
def kR (r : Int × Int) : List L2.Key := [.inl r.1, .inl r.2]
theorem kO_inj (a b : Int) (h : kO a = kO b) : a = b := Sum.inl.inj h
theorem kR_inj (a b : Int × Int) (h : kR a = kR b) : a = b := by
  unfold kR at h
  injection h with h1 h2
  injection h2 with h2 _
  exact Prod.ext (Sum.inl.inj h1) (Sum.inl.inj h2)
/-- what greatest answers: a new pair of new dicts -/
structure Tops (H H' : Hp) (p : Addr) (fs : Fields) (ss : Srcs) (d1 d2 : Addr) (os : List (Int × Int)) (rs : List ((Int × Int) × Int)) : Prop where
  pt : H' p = some (.tup [.ref d1, .ref d2])
  h1 : H' d1 = some (.dK (enc kO os))
  h2 : H' d2 = some (.dT (enc kR rs))
  np : H p = none
  n1 : H d1 = none
  n2 : H d2 = none
  n12 : d1 ≠ d2
  t1 : TabP (offO fs ss) os
  t2 : TabP (offR fs ss) rs
section
variable {α : Type} [DecidableEq α] {P : α → Int → Prop} {L : List (α × Int)}
theorem TabP.bound (T : TabP P L) {m : List α} (h : ∀ k v, P k v → k ∈ m) : L.length ≤ m.length := by
  have q := nd_len (l := L.map (·.1)) (m := m) T.nd fun k hk => by
    obtain ⟨p, hp, rfl⟩ := List.mem_map.mp hk
    exact h _ _ ((T.mem _ _).mp hp).1
  rw [List.length_map] at q
  exact q
end
theorem mem_take1 {α : Type} {l : List α} {i : Nat} {x y : α} (h : l[i]? = some x) : y ∈ l.take (i + 1) ↔ y ∈ l.take i ∨ y = x := by
  rw [List.take_add_one, h, List.mem_append]
  show (_ ∨ y ∈ [x]) ↔ _
  rw [List.mem_singleton]
section
variable {fs : Fields} {ss : Srcs} {i : Nat} {c : Cell} {v0 : Int}
theorem offO_take (h : ss[i]? = some (c, v0)) (k v : Int) : offO fs (ss.take (i + 1)) k v ↔ offO fs (ss.take i) k v ∨ (RC fs c (.obj k) ∧ IsKey fs k ∧ v = v0) := by
  constructor
  · rintro ⟨s, hs, h1, h2⟩
    rcases (mem_take1 h).mp hs with e | e
    · exact .inl ⟨s, e, h1, h2⟩
    · cases e
      exact .inr ⟨h1, h2, rfl⟩
  · rintro (⟨s, hs, h1, h2⟩ | ⟨h1, h2, rfl⟩)
    · exact ⟨s, (mem_take1 h).mpr (.inl hs), h1, h2⟩
    · exact ⟨c, (mem_take1 h).mpr (.inr rfl), h1, h2⟩
theorem offR_take (h : ss[i]? = some (c, v0)) (r : Int × Int) (v : Int) : offR fs (ss.take (i + 1)) r v ↔ offR fs (ss.take i) r v ∨ (RC fs c (.far r.1 r.2) ∧ v = v0) := by
  constructor
  · rintro ⟨s, hs, h1⟩
    rcases (mem_take1 h).mp hs with e | e
    · exact .inl ⟨s, e, h1⟩
    · cases e
      exact .inr ⟨h1, rfl⟩
  · rintro (⟨s, hs, h1⟩ | ⟨h1, rfl⟩)
    · exact ⟨s, (mem_take1 h).mpr (.inl hs), h1⟩
    · exact ⟨c, (mem_take1 h).mpr (.inr rfl), h1⟩
/-- all that may be a far reference here -/
theorem offR_mem {r : Int × Int} {v : Int} (h : offR fs ss r v) : r ∈ refsOf (ss.map (·.1) ++ allC fs) := by
  obtain ⟨s, hs, h1⟩ := h
  refine Ce.mem_refs.mpr ?_
  rcases h1.src with e | e
  · rw [e]
    exact List.mem_append_left _ (List.mem_map.mpr ⟨_, hs, rfl⟩)
  · exact List.mem_append_right _ e
theorem refs_len (w : ∀ p ∈ fs, p.2.length ≤ 8) : (refsOf (ss.map (·.1) ++ allC fs)).length ≤ ss.length + 8 * fs.length := by
  have h := List.length_filterMap_le refF (ss.map (·.1) ++ allC fs)
  rw [List.length_append, List.length_map] at h
  have h2 := allC_len w
  unfold refsOf
  omega
theorem offO_key {k v : Int} (h : offO fs ss k v) : k ∈ fs.map (·.1) := by
  obtain ⟨_, _, _, h⟩ := h
  exact isKey_iff.mp h
end
/-! ### lists of sources as data -/
def cellD : Cell → PyData
  | .non => .none
  | .obj n => .int n
  | .far a b => .tuple [.int a, .int b]
def dS (ss : Srcs) : PyData := .list (ss.map fun q => PyData.tuple [cellD q.1, .int q.2])
section
variable {K : PySem.W.Frag} {H : Hp} {l : Addr} {ss : Srcs} {us : List V}
theorem td_cell : ∀ {c : Cell} {v : V}, CV H c v → Fh.TD H v (cellD c)
  | .non, _, h => by cases (show _ = V.non from h); exact .non
  | .obj n, _, h => by cases (show _ = V.int n from h); exact .int n
  | .far a b, _, ⟨t, e, h⟩ => by cases e; exact .tup h (.cons (.int a) (.cons (.int b) .nil))
theorem tds_S (h : SrcVs H ss us) : Fh.TDs H us (ss.map fun q => PyData.tuple [cellD q.1, .int q.2]) := by
  induction h with
  | nil => exact .nil
  | cons q _ ih =>
    obtain ⟨_, t, sv, rfl, e, h⟩ := q
    exact .cons (.tup e (.cons (td_cell h) (.cons (.int _) .nil))) ih
theorem dp_S (h : SqL K H l us) (r : SrcVs H ss us) : Dp K H (.ref l) (dS ss) := .lst h (Fh.TDs.dp (tds_S r))
theorem lay_cell : ∀ c : Cell, (cellD c).canLay0 = true
  | .non => rfl
  | .obj _ => rfl
  | .far _ _ => rfl
theorem depth_cell : ∀ c : Cell, (cellD c).depth ≤ 1
  | .non => by simp [cellD, PyData.depth]
  | .obj _ => by simp [cellD, PyData.depth]
  | .far _ _ => by simp [cellD, PyData.depth, PyData.depthAll]
theorem lay_S : ∀ {ss : Srcs}, (dS ss).canLay0 = true := by
  intro ss
  unfold dS
  rw [PyData.canLay0]
  induction ss with
  | nil => rfl
  | cons r rs ih =>
    rw [List.map_cons, PyData.canLayAll0, ih, PyData.canLay0, PyData.canLayAll0, lay_cell]
    rfl
theorem shaped_S : SeqAt.shaped (dS ss) = true := by
  refine Fh.shaped_of lay_S ?_
  unfold dS
  have : PyData.depthAll (ss.map fun q => PyData.tuple [cellD q.1, .int q.2]) ≤ 10 := depthAll_le fun d hd => by
    obtain ⟨n, _, rfl⟩ := List.mem_map.mp hd
    have := depth_cell n.1
    simp only [PyData.depth, PyData.depthAll]
    omega
  simp only [PyData.depth]
  omega
theorem eqv_S : PyData.eqv (dS ss) (dS ss) = true := SeqAt.eqv_refl _ lay_S
end
theorem pr_rev {α β : Type} {F : α → β → Prop} {l : List α} {m : List β} (h : Paired F l m) : Paired F l.reverse m.reverse := by
  induction h with
  | nil => exact .nil
  | cons q _ ih =>
    rw [List.reverse_cons, List.reverse_cons]
    exact pr_app ih (.cons q .nil)
theorem pr_take {α β : Type} {F : α → β → Prop} : ∀ (n : Nat) {l : List α} {m : List β}, Paired F l m → Paired F (l.take n) (m.take n)
  | 0, _, _, _ => .nil
  | _ + 1, _, _, .nil => .nil
  | n + 1, _, _, .cons q t => .cons q (pr_take n t)
theorem pr_drop {α β : Type} {F : α → β → Prop} : ∀ (n : Nat) {l : List α} {m : List β}, Paired F l m → Paired F (l.drop n) (m.drop n)
  | 0, _, _, h => h
  | _ + 1, _, _, .nil => .nil
  | n + 1, _, _, .cons _ t => pr_drop n t
section
variable {α : Type} [DecidableEq α] {P : α → Int → Prop} {L : List (α × Int)}
/-- a key that was not offered yet -/
theorem TabP.put1 (T : TabP P L) {k0 : α} {v0 : Int} {G : Int → Prop} (hn : ∀ v, ¬ P k0 v) (h0 : G v0) (h1 : ∀ w, G w → w ≤ v0) : TabP (fun k v => P k v ∨ (k = k0 ∧ G v)) (putL L k0 v0) := by
  refine ⟨putL_nd T.nd _ _, fun k v => ?_, fun k w hw => ?_⟩
  · rw [putL_mem T.nd]
    constructor
    · rintro (⟨rfl, rfl⟩ | ⟨hk, hm⟩)
      · exact ⟨.inr ⟨rfl, h0⟩, fun w hw => hw.elim (fun z => absurd z (hn w)) fun z => h1 w z.2⟩
      · obtain ⟨a, b⟩ := (T.mem k v).mp hm
        exact ⟨.inl a, fun w hw => hw.elim (b w) fun z => absurd z.1 hk⟩
    · rintro ⟨a, b⟩
      by_cases hk : k = k0
      · subst hk
        rcases a with a | ⟨_, a⟩
        · exact absurd a (hn v)
        · have := b v0 (.inr ⟨rfl, h0⟩)
          have := h1 v a
          exact .inl ⟨rfl, by omega⟩
      · refine .inr ⟨hk, (T.mem k v).mpr ⟨a.elim id fun z => absurd z.1 hk, fun w hw => b w (.inl hw)⟩⟩
  · by_cases hk : k = k0
    · exact ⟨v0, (putL_mem T.nd).mpr (.inl ⟨hk, rfl⟩)⟩
    · rcases hw with hw | ⟨hw, _⟩
      · obtain ⟨v, hv⟩ := T.full k w hw
        exact ⟨v, (putL_mem T.nd).mpr (.inr ⟨hk, hv⟩)⟩
      · exact absurd hw hk
end
/-! ### two sources in the chain, and others that are nowhere -/
theorem RC_nokey {fs : Fields} {m : Int} (h : ¬ IsKey fs m) {c : Cell} (r : RC fs (.obj m) c) : c = .obj m := by
  induction r with
  | here => rfl
  | step _ h2 _ _ ih =>
    injection ih with ih
    subst ih
    exact absurd ⟨_, h2⟩ h
section
variable {r1 r2 mid : Int} {fs : Fields}
theorem Chain.no (C : Chain r1 r2 mid fs) {k : Int} (h : 0 ≤ k) : ¬ IsKey fs ((cnC r1 + 1 + k) * stp r2) := by
  rw [C.key]
  rintro ⟨a, a0, a1, e⟩
  unfold plc at e
  have e := mul_inj stp_lo e
  split at e <;> omega
def offA (r2 f1 f2 v2 a w : Int) : Prop := (low r2 f1 ≤ a ∧ w = 3) ∨ (low r2 f2 ≤ a ∧ w = v2)
/-- the sources: two in the chain, others nowhere -/
structure Two (r1 r2 f1 f2 v2 : Int) (ss : Srcs) : Prop where
  a : (Cell.obj (plc r1 r2 f1), (3 : Int)) ∈ ss
  b : (Cell.obj (plc r1 r2 f2), v2) ∈ ss
  all : ∀ q ∈ ss, q = (Cell.obj (plc r1 r2 f1), (3 : Int)) ∨ q = (Cell.obj (plc r1 r2 f2), v2) ∨ ∃ k, 0 ≤ k ∧ q.1 = Cell.obj ((cnC r1 + 1 + k) * stp r2)
theorem Chain.offO (C : Chain r1 r2 mid fs) {f1 f2 v2 : Int} {ss : Srcs} (T : Two r1 r2 f1 f2 v2 ss) (f10 : 0 ≤ f1) (f11 : f1 < cnC r1) (f20 : 0 ≤ f2) (f21 : f2 < cnC r1) (m0 : 0 ≤ mid) (m1 : mid < cnC r1) (n w : Int) :
    Ce.offO fs ss n w ↔ ∃ a, 0 ≤ a ∧ a < cnC r1 ∧ n = plc r1 r2 a ∧ offA r2 f1 f2 v2 a w := by
  have lo : ∀ f, 0 ≤ f → 0 ≤ low r2 f := fun f h => by
    unfold low
    split <;> omega
  constructor
  · rintro ⟨s, hs, h⟩
    rcases T.all _ hs with e | e | ⟨k, k0, e⟩
    · cases e
      obtain ⟨a, a0, a1, rfl⟩ := (C.objs f10 f11 m0 m1 n).mp h
      have := lo f1 f10
      exact ⟨a, by omega, a1, rfl, .inl ⟨a0, rfl⟩⟩
    · cases e
      obtain ⟨a, a0, a1, rfl⟩ := (C.objs f20 f21 m0 m1 n).mp h
      have := lo f2 f20
      exact ⟨a, by omega, a1, rfl, .inr ⟨a0, rfl⟩⟩
    · have e : s = Cell.obj ((cnC r1 + 1 + k) * stp r2) := e
      subst e
      have := RC_nokey (C.no k0) h.1
      injection this with this
      rw [this] at h
      exact absurd h.2 (C.no k0)
  · rintro ⟨a, a0, a1, rfl, ⟨h, rfl⟩ | ⟨h, rfl⟩⟩
    · exact ⟨_, T.a, (C.objs f10 f11 m0 m1 _).mpr ⟨a, h, a1, rfl⟩⟩
    · exact ⟨_, T.b, (C.objs f20 f21 m0 m1 _).mpr ⟨a, h, a1, rfl⟩⟩
theorem Chain.offR (C : Chain r1 r2 mid fs) {f1 f2 v2 : Int} {ss : Srcs} (T : Two r1 r2 f1 f2 v2 ss) (f10 : 0 ≤ f1) (f11 : f1 < cnC r1) (f20 : 0 ≤ f2) (f21 : f2 < cnC r1) (m0 : 0 ≤ mid) (m1 : mid < cnC r1) (r : Int × Int) (w : Int) :
    Ce.offR fs ss r w ↔ r = (mid % 8, stp r2) ∧ offA r2 f1 f2 v2 mid w := by
  constructor
  · rintro ⟨s, hs, h⟩
    rcases T.all _ hs with e | e | ⟨k, k0, e⟩
    · cases e
      obtain ⟨a, b⟩ := (C.refs f10 f11 m0 m1 r).mp h
      exact ⟨b, .inl ⟨a, rfl⟩⟩
    · cases e
      obtain ⟨a, b⟩ := (C.refs f20 f21 m0 m1 r).mp h
      exact ⟨b, .inr ⟨a, rfl⟩⟩
    · have e : s = Cell.obj ((cnC r1 + 1 + k) * stp r2) := e
      subst e
      exact nomatch RC_nokey (C.no k0) h
  · rintro ⟨rfl, ⟨h, rfl⟩ | ⟨h, rfl⟩⟩
    · exact ⟨_, T.a, (C.refs f10 f11 m0 m1 _).mpr ⟨h, rfl⟩⟩
    · exact ⟨_, T.b, (C.refs f20 f21 m0 m1 _).mpr ⟨h, rfl⟩⟩
def stepA (r2 at_ v f w : Int) : Int := if low r2 f ≤ at_ then (if w > v then w else v) else v
def valA (r2 f1 f2 v2 at_ : Int) : Int := stepA r2 at_ (stepA r2 at_ 0 f1 3) f2 v2
theorem valA_max {f1 f2 v2 a w : Int} (h : offA r2 f1 f2 v2 a w) : w ≤ valA r2 f1 f2 v2 a := by
  unfold valA stepA
  rcases h with ⟨h, rfl⟩ | ⟨h, rfl⟩
  · rw [if_pos h]
    split <;> (try split) <;> omega
  · split <;> split <;> (try split) <;> (try split) <;> omega
theorem valA_off {f1 f2 v2 a : Int} (hv : 0 < valA r2 f1 f2 v2 a) : offA r2 f1 f2 v2 a (valA r2 f1 f2 v2 a) := by
  unfold valA stepA at hv ⊢
  unfold offA
  by_cases h1 : low r2 f1 ≤ a
  · by_cases h2 : low r2 f2 ≤ a
    · rw [if_pos h1, if_pos h2]
      rw [if_pos (show (3 : Int) > 0 by decide)]
      by_cases h3 : v2 > 3
      · rw [if_pos h3]
        exact .inr ⟨h2, rfl⟩
      · rw [if_neg h3]
        exact .inl ⟨h1, rfl⟩
    · rw [if_pos h1, if_neg h2, if_pos (show (3 : Int) > 0 by decide)]
      exact .inl ⟨h1, rfl⟩
  · by_cases h2 : low r2 f2 ≤ a
    · rw [if_neg h1, if_pos h2] at hv ⊢
      by_cases h3 : v2 > 0
      · rw [if_pos h3]
        exact .inr ⟨h2, rfl⟩
      · rw [if_neg h3] at hv
        omega
    · rw [if_neg h1, if_neg h2] at hv
      omega
theorem valA_none {f1 f2 v2 a w : Int} (hv : ¬ 0 < valA r2 f1 f2 v2 a) (h2 : 0 < v2) : ¬ offA r2 f1 f2 v2 a w := fun h => by
  have h1 := valA_max h
  rcases h with ⟨_, rfl⟩ | ⟨_, rfl⟩ <;> omega
end
end Ce

/-! A site at first; the places of its channels. -/
namespace Wo
open PySem PySem.Spec PyProof.Rows L2 Fh Sx
def S0 : SSt := ⟨[], fun _ => ⟨0, []⟩, 0, List.replicate 8 none, [], [], 0, [], 0, [], [], [], [], [], 0, 0, 0, 0, 0, none, fun _ => ⟨0, []⟩, fun _ => 0⟩
def PMail (n : Nat) (i : Int) : Sl → Prop
  | .others => True
  | .outD => True
  | .incD => True
  | .out j => j ∈ othersL n i
  | .outL j => j ∈ othersL n i
  | .inc j => j ∈ othersL n i
  | _ => False
theorem nodup_sitesL (n : Nat) : (sitesL n).Nodup := by
  unfold sitesL
  exact List.Pairwise.map _ (fun a b h z => h (by omega)) List.nodup_range
theorem nodup_othersL (n : Nat) (i : Int) : (othersL n i).Nodup := List.Nodup.sublist List.filter_sublist (nodup_sitesL n)
theorem sitesL_len (n : Nat) : (sitesL n).length = n := by unfold sitesL; rw [List.length_map, List.length_range]
theorem othersL_len (n : Nat) (i : Int) : (othersL n i).length ≤ n := by
  have := List.length_filter_le (fun j => decide (j ≠ i)) (sitesL n)
  rw [sitesL_len] at this
  exact this
theorem sitesL_succ (n : Nat) : sitesL (n + 1) = sitesL n ++ [(n : Int)] := by
  unfold sitesL
  rw [List.range_succ, List.map_append]
  rfl
theorem othersL_succ (n : Nat) (i : Int) : othersL (n + 1) i = othersL n i ++ (if (n : Int) ≠ i then [(n : Int)] else []) := by
  unfold othersL
  rw [sitesL_succ, List.filter_append]
  congr 1
  by_cases h : (n : Int) ≠ i
  · rw [if_pos h]; simp [h]
  · rw [if_neg h]; simp at h; simp [h]
theorem take_nd {α : Type} {l : List α} (h : l.Nodup) {j : Nat} {x : α} (hx : l[j]? = some x) : x ∉ l.take j := by
  intro hm
  obtain ⟨k, hk⟩ := List.mem_iff_getElem?.mp hm
  have lt : k < j := by
    have := (List.getElem?_eq_some_iff.mp hk).1
    rw [List.length_take] at this
    omega
  rw [List.getElem?_take_of_lt lt] at hk
  have := (List.getElem?_inj (List.getElem?_eq_some_iff.mp hk).1 h).mp (hk.trans hx.symm)
  omega
/-- a key that is new is stored at the end -/
theorem putK_end {κ : Type} [DecidableEq κ] {kvs : List (κ × V)} {k : κ} {v : V} (h : k ∉ kvs.map (·.1)) : putK kvs k v = kvs ++ [(k, v)] := by
  unfold putK
  rw [if_neg]
  intro z
  obtain ⟨p, hp, e⟩ := List.any_eq_true.mp z
  exact h (List.mem_map.mpr ⟨p, hp, of_decide_eq_true e⟩)
theorem take_succ_map {α β : Type} (f : α → β) {l : List α} {j : Nat} {x : α} (h : l[j]? = some x) : (l.take (j + 1)).map f = (l.take j).map f ++ [f x] := by
  rw [List.take_add_one, h, List.map_append]
  rfl
/-- an instance is made, and a thing of its own -/
abbrev ml1 (i : Int) : List (Str × V) := [("_number", .int i)]
abbrev ml2 (i : Int) (D : Addr) : List (Str × V) := [("_number", .int i), ("others", .ref D)]
abbrev ml3 (i : Int) (D D1 : Addr) : List (Str × V) := [("_number", .int i), ("others", .ref D), ("_outgoing", .ref D1)]
abbrev ml4 (i : Int) (D D1 D2 : Addr) : List (Str × V) := [("_number", .int i), ("others", .ref D), ("_outgoing", .ref D1), ("_incoming", .ref D2)]
theorem ml2_of {i : Int} {D : Addr} : putF "others" (.ref D) (ml1 i) = ml2 i D := putF_new ["_number"] rfl (by decide +kernel)
theorem ml3_of {i : Int} {D D1 : Addr} : putF "_outgoing" (.ref D1) (ml2 i D) = ml3 i D D1 := putF_new ["_number", "others"] rfl (by decide +kernel)
theorem ml4_of {i : Int} {D D1 D2 : Addr} : putF "_incoming" (.ref D2) (ml3 i D D1) = ml4 i D D1 D2 := putF_new ["_number", "others", "_outgoing"] rfl (by decide +kernel)
theorem made_one {H : Hp} {x dx : Addr} {C : Addr} {fs : List (Str × V)} (hx : H x = none) (hd : H dx = none) (hn : dx ≠ x) : Same H (upd (upd (upd H dx (.own x)) x (.ins C dx [])) x (.ins C dx fs)) := fun b o e => by
  rw [upd_ne (ne_of_none e hx), upd_ne (ne_of_none e hx), upd_ne (ne_of_none e hd)]
  exact e
theorem made_two {H : Hp} {x dx l C : Addr} {fs : List (Str × V)} {o : HO} (hx : H x = none) (hd : H dx = none) (hn : dx ≠ x) (hl : (upd (upd H dx (.own x)) x (.ins C dx [])) l = none) :
    Same H (upd (upd (upd (upd H dx (.own x)) x (.ins C dx [])) l o) x (.ins C dx fs)) ∧ H l = none ∧ (upd (upd (upd (upd H dx (.own x)) x (.ins C dx [])) l o) x (.ins C dx fs)) l = some o ∧ l ≠ x := by
  have nx : l ≠ x := fun e => by rw [e, upd_same] at hl; cases hl
  have nd : l ≠ dx := fun e => by rw [e, upd_ne hn, upd_same] at hl; cases hl
  have h0 : H l = none := by rw [upd_ne nx, upd_ne nd] at hl; exact hl
  refine ⟨fun b u e => ?_, h0, by rw [upd_ne nx, upd_same], nx⟩
  rw [upd_ne (ne_of_none e hx), upd_ne (ne_of_none e h0), upd_ne (ne_of_none e hx), upd_ne (ne_of_none e hd)]
  exact e
end Wo

/-! The sites of a world, one behind another. -/
namespace Wo
open PySem PySem.Spec PyProof.Rows L2 Fh Sx
def mkW (ms : Int → Sl → Addr) : WS → Addr
  | .of i x => ms i x
  | _ => 0
structure WPart (K : PySem.W.Frag) (n : Nat) (H0 H : Hp) (j : Nat) (ms : Int → Sl → Addr) : Prop where
  at_ : ∀ i ∈ sitesL j, ∀ x, Ds n i S0 x → ∃ o, H (ms i x) = some o ∧ Cs K (mkW ms) n i S0 H x o
  inj : ∀ i ∈ sitesL j, ∀ x, Ds n i S0 x → ∀ i' ∈ sitesL j, ∀ y, Ds n i' S0 y → ms i x = ms i' y → i = i' ∧ x = y
  fr : ∀ i ∈ sitesL j, ∀ x, Ds n i S0 x → H0 (ms i x) = none
  kp : Same H0 H
section
variable {K : PySem.W.Frag} {n : Nat} {H0 H H' : Hp} {j : Nat} {ms : Int → Sl → Addr} {x D : Addr} {o : HO}
theorem WPart.start : WPart K n H H 0 ms := ⟨fun i h => (by cases h), fun i h => (by cases h), fun i h => (by cases h), fun _ _ h => h⟩
theorem WPart.same (A : WPart K n H0 H j ms) (s : Same H H') : WPart K n H0 H' j ms := ⟨fun i hi x hx => by
  obtain ⟨o, e, c⟩ := A.at_ i hi x hx
  exact ⟨o, s _ _ e, c.tl (.of s)⟩, A.inj, A.fr, fun b o h => s _ _ (A.kp b o h)⟩
theorem WPart.off (A : WPart K n H0 H j ms) (h0 : H0 D = none) (hn : ∀ i ∈ sitesL j, ∀ x, Ds n i S0 x → ms i x ≠ D) (ht : ∀ xs, H D ≠ some (.tup xs)) (o : HO) : WPart K n H0 (upd H D o) j ms := ⟨fun i hi x hx => by
  obtain ⟨u, e, c⟩ := A.at_ i hi x hx
  refine ⟨u, by rw [upd_ne (hn i hi x hx)]; exact e, c.tl fun b xs h => ?_⟩
  rw [upd_ne]
  · exact h
  · rintro rfl
    exact ht xs h, A.inj, A.fr, fun b u h => by rw [upd_ne (ne_of_none h h0)]; exact A.kp b u h⟩
theorem Ds_mail {i : Int} : ∀ y, Ref n i S0 .site y → y ≠ .site ∧ Ds n i S0 y := by
  intro y h
  simp only [Ref, List.mem_cons, List.not_mem_nil, or_false] at h
  rcases h with rfl | rfl | rfl | rfl | rfl | rfl | rfl | rfl | rfl | rfl | rfl | rfl <;> exact ⟨fun z => (nomatch z), trivial⟩
/-- one more site -/
theorem WPart.step {Hm : Hp} {m : Sl → Addr} {dx : Addr} (A : WPart K n H0 H j ms) (hx : H x = none) (s : ∀ b o, H b = some o → Hm b = some o) (B : Part K n j S0 x Hm H' m (fun y => y ≠ .site ∧ Ds n j S0 y)) (h : H' x = some (.ins (He.ga K "Site") dx (siteL (mkS m) j S0))) :
    WPart K n H0 H' (j + 1) (fun i y => if i = j then (if y = .site then x else m y) else ms i y) ∧ Same H H' := by
  have up : Same H H' := fun b o e => B.kp b o (s b o e) (ne_of_none e hx)
  have z0 : H0 x = none := by
    cases q : H0 x with
    | none => rfl
    | some o => rw [A.kp _ _ q] at hx; cases hx
  have fr : ∀ y, y ≠ .site → Ds n j S0 y → H (m y) = none := fun y h1 h2 => by
    cases q : H (m y) with
    | none => rfl
    | some o =>
      have := s _ _ q
      rw [B.fr y ⟨h1, h2⟩] at this
      cases this
  have fr0 : ∀ y, y ≠ .site → Ds n j S0 y → H0 (m y) = none := fun y h1 h2 => by
    cases q : H0 (m y) with
    | none => rfl
    | some o =>
      have := A.kp _ _ q
      rw [fr y h1 h2] at this
      cases this
  have old : ∀ i ∈ sitesL j, i ≠ j := fun i hi => by have := mem_sitesL.mp hi; omega
  have cases' : ∀ i ∈ sitesL (j + 1), i ∈ sitesL j ∨ i = j := fun i hi => by
    rw [sitesL_succ] at hi
    rcases List.mem_append.mp hi with hi | hi
    · exact .inl hi
    · exact .inr (List.mem_singleton.mp hi)
  have nw : ∀ y, Ds n j S0 y → H ((if y = .site then x else m y)) = none := fun y hy => by
    by_cases e : y = .site
    · rw [if_pos e]; exact hx
    · rw [if_neg e]; exact fr y e hy
  refine ⟨⟨fun i hi y hy => ?_, fun i hi y hy i' hi' y' hy' e => ?_, fun i hi y hy => ?_, fun b o e => up _ _ (A.kp b o e)⟩, up⟩
  · rcases cases' i hi with hi | rfl
    · obtain ⟨o, e, c⟩ := A.at_ i hi y hy
      refine ⟨o, by rw [if_neg (old i hi)]; exact up _ _ e, (c.tl (.of up)).congr fun z _ => ?_⟩
      exact (if_neg (old i hi)).symm
    · by_cases e : y = .site
      · subst e
        refine ⟨_, by rw [if_pos rfl, if_pos rfl]; exact h, Cs.congr (M := mkS m) (fun z hz => ?_) ⟨dx, rfl⟩⟩
        show m z = if (j : Int) = j then (if z = .site then x else m z) else _
        rw [if_pos rfl, if_neg (Ds_mail z hz).1]
      · obtain ⟨o, e1, c⟩ := B.at_ y ⟨e, hy⟩
        refine ⟨o, by rw [if_pos rfl, if_neg e]; exact e1, c.congr fun z hz => ?_⟩
        show m z = if (j : Int) = j then (if z = .site then x else m z) else _
        rw [if_pos rfl, if_neg (B.cl y z ⟨e, hy⟩ hz).1]
  · rcases cases' i hi with hi | rfl <;> rcases cases' i' hi' with hi' | rfl
    · rw [if_neg (old i hi), if_neg (old i' hi')] at e
      exact A.inj i hi y hy i' hi' y' hy' e
    · rw [if_neg (old i hi), if_pos rfl] at e
      obtain ⟨o, e1, _⟩ := A.at_ i hi y hy
      rw [e, nw y' hy'] at e1
      cases e1
    · rw [if_neg (old i' hi'), if_pos rfl] at e
      obtain ⟨o, e1, _⟩ := A.at_ i' hi' y' hy'
      rw [← e, nw y hy] at e1
      cases e1
    · rw [if_pos rfl, if_pos rfl] at e
      refine ⟨rfl, ?_⟩
      by_cases a : y = .site <;> by_cases b : y' = .site
      · rw [a, b]
      · rw [if_pos a, if_neg b] at e
        exact absurd e.symm (B.ne ⟨b, hy'⟩)
      · rw [if_neg a, if_pos b] at e
        exact absurd e (B.ne ⟨a, hy⟩)
      · rw [if_neg a, if_neg b] at e
        exact B.inj y y' ⟨a, hy⟩ ⟨b, hy'⟩ e
  · rcases cases' i hi with hi | rfl
    · rw [if_neg (old i hi)]
      exact A.fr i hi y hy
    · rw [if_pos rfl]
      by_cases e : y = .site
      · rw [if_pos e]; exact z0
      · rw [if_neg e]; exact fr0 y e hy
/-- no place of the sites is at D -/
theorem wnw {Hm : Hp} {m : Sl → Addr} {S : SSt} (hx : H x = none) (s : ∀ b o, H b = some o → Hm b = some o) (B : Part K n j S x Hm H' m (fun y => y ≠ .site ∧ Ds n j S0 y)) (nD : ∀ i ∈ sitesL j, ∀ y, Ds n i S0 y → ms i y ≠ D) (hD : H D = some o) :
    ∀ i ∈ sitesL (j + 1), ∀ y, Ds n i S0 y → (fun (i : Int) y => if i = j then (if y = .site then x else m y) else ms i y) i y ≠ D := by
  intro i hi y hy
  show (if i = j then (if y = .site then x else m y) else ms i y) ≠ D
  by_cases e : i = j
  · rw [if_pos e]
    by_cases e2 : y = .site
    · rw [if_pos e2]
      exact (ne_of_none hD hx).symm
    · rw [if_neg e2]
      intro e3
      have := B.fr y ⟨e2, e ▸ hy⟩
      rw [e3, s _ _ hD] at this
      cases this
  · rw [if_neg e]
    refine nD i ?_ y hy
    rw [sitesL_succ] at hi
    rcases List.mem_append.mp hi with hi | hi
    · exact hi
    · exact absurd (List.mem_singleton.mp hi) e
def mkWo (ms : Int → Sl → Addr) (p D a l : Addr) : WS → Addr
  | .world => p
  | .sites => D
  | .net => a
  | .netL => l
  | .of i x => ms i x
/-- the world stands -/
theorem WPart.world {H1 : Hp} {p a l dx dy : Addr} (A : WPart K n H0 H1 n ms) (st : ∀ i ∈ sitesL n, ∀ x, Ds n i S0 x → ∀ o, H1 (ms i x) = some o → H (ms i x) = some o) (ts : TSame H1 H) (hp0 : H0 p ≠ none) (hp : H p = some (.ins (He.ga K "World") dx [("_sites", .ref D), ("_network", .ref a)]))
    (hD : H D = some (.lst ((sitesL n).map fun i => V.ref (ms i .site)))) (hD0 : H0 D = none) (nD : ∀ i ∈ sitesL n, ∀ x, Ds n i S0 x → ms i x ≠ D) (ha : H a = some (.ins (He.ga K "Network") dy (netwL l))) (ha0 : H0 a = none) (na : ∀ i ∈ sitesL n, ∀ x, Ds n i S0 x → ms i x ≠ a) (hl : H l = some (.lst [])) (hl0 : H0 l = none)
    (nl : ∀ i ∈ sitesL n, ∀ x, Ds n i S0 x → ms i x ≠ l) (nDl : D ≠ l) : WAt K (mkWo ms p D a l) H ⟨n, fun _ => S0, []⟩ ∧ ∀ s, s ≠ .world → Dom ⟨n, fun _ => S0, []⟩ s → H0 (mkWo ms p D a l s) = none := by
  have f : ∀ s, s ≠ .world → Dom ⟨n, fun _ => S0, []⟩ s → H0 (mkWo ms p D a l s) = none := fun s h1 h2 => by
    cases s with
    | world => exact absurd rfl h1
    | sites => exact hD0
    | net => exact ha0
    | netL => exact hl0
    | of i x => exact A.fr i h2.1 x h2.2
  have nDa : D ≠ a := fun e => by rw [e, ha] at hD; cases hD
  have nal : a ≠ l := fun e => by rw [e, hl] at ha; cases ha
  have np : ∀ s, s ≠ .world → Dom ⟨n, fun _ => S0, []⟩ s → mkWo ms p D a l s ≠ p := fun s h1 h2 e => hp0 (by rw [← e]; exact f s h1 h2)
  refine ⟨⟨fun s hs => ?_, fun s t hs ht e => ?_⟩, f⟩
  · cases s with
    | world => exact ⟨_, hp, dx, rfl⟩
    | sites => exact ⟨_, hD, rfl⟩
    | net => exact ⟨_, ha, dy, rfl⟩
    | netL => exact ⟨_, hl, [], rfl, .nil⟩
    | of i x =>
      obtain ⟨o, e, c⟩ := A.at_ i hs.1 x hs.2
      exact ⟨o, st i hs.1 x hs.2 o e, (c.tl ts).congr fun z _ => rfl⟩
  · by_cases e1 : s = .world
    · by_cases e2 : t = .world
      · rw [e1, e2]
      · rw [e1] at e
        exact absurd e.symm (np t e2 ht)
    · by_cases e2 : t = .world
      · rw [e2] at e
        exact absurd e (np s e1 hs)
      · cases s with
        | world => exact absurd rfl e1
        | sites => cases t with
          | world => exact absurd rfl e2
          | sites => rfl
          | net => exact absurd e nDa
          | netL => exact absurd e nDl
          | of i x => exact absurd e.symm (nD i ht.1 x ht.2)
        | net => cases t with
          | world => exact absurd rfl e2
          | sites => exact absurd e.symm nDa
          | net => rfl
          | netL => exact absurd e nal
          | of i x => exact absurd e.symm (na i ht.1 x ht.2)
        | netL => cases t with
          | world => exact absurd rfl e2
          | sites => exact absurd e.symm nDl
          | net => exact absurd e.symm nal
          | netL => rfl
          | of i x => exact absurd e.symm (nl i ht.1 x ht.2)
        | of j y => cases t with
          | world => exact absurd rfl e2
          | sites => exact absurd e (nD j hs.1 y hs.2)
          | net => exact absurd e (na j hs.1 y hs.2)
          | netL => exact absurd e (nl j hs.1 y hs.2)
          | of i x =>
            obtain ⟨rfl, rfl⟩ := A.inj j hs.1 y hs.2 i ht.1 x ht.2 e
            rfl
end
end Wo

/-! What the deeds of a site's program change. -/
namespace Wo
open PySem PySem.Spec PyProof.Rows L2 Fh Sx
def SSt.add (S : SSt) (k : Nat) (mk : Int) : SSt := { S with objs := S.objs ++ [S.oc], itm := fun m => if m = S.oc then ⟨mk, List.replicate k none⟩ else S.itm m, oc := S.oc + 1 }
def SSt.setv (S : SSt) (v : Nat) (r : Option Rf) : SSt := { S with vars := S.vars.set v r }
theorem tds_get {H : Hp} : ∀ {vs : List V} {ds : List PyData}, TDs H vs ds → ∀ {k : Nat} {d : PyData}, ds[k]? = some d → ∃ v, vs[k]? = some v ∧ TD H v d
  | _, _, .cons h t, 0, d, e => ⟨_, rfl, by injection e with e; exact e ▸ h⟩
  | _, _, .cons h t, k + 1, d, e => tds_get t (k := k) e
  | _, _, .nil, k, d, e => by cases e
theorem tds_set {H : Hp} : ∀ {vs : List V} {ds : List PyData}, TDs H vs ds → ∀ (k : Nat) {v : V} {d : PyData}, TD H v d → TDs H (vs.set k v) (ds.set k d)
  | _, _, .cons h t, 0, v, d, e => .cons e t
  | _, _, .cons h t, k + 1, v, d, e => .cons h (tds_set t k e)
  | _, _, .nil, k, v, d, e => .nil
theorem tds_len {H : Hp} : ∀ {vs : List V} {ds : List PyData}, TDs H vs ds → vs.length = ds.length
  | _, _, .cons h t => congrArg (· + 1) (tds_len t)
  | _, _, .nil => rfl
theorem tds_nons {H : Hp} : ∀ k : Nat, TDs H (List.replicate k V.non) ((List.replicate k (none : Option Rf)).map dOr)
  | 0 => .nil
  | k + 1 => .cons .non (tds_nons k)
section
variable {K : PySem.W.Frag} {M M' : WS → Addr} {H H' H1 : Hp} {W W' : WSt} {n : Nat} {i c : Int} {S S' : SSt} {x y : Sl} {o o' : HO} {T : Addr × Str}
theorem Ref.cl (h : Ref n i S x y) (hx : Ds n i S x) : Ds n i S y := by
  cases x with
  | site => simp only [Ref, List.mem_cons, List.not_mem_nil, or_false] at h; rcases h with rfl | rfl | rfl | rfl | rfl | rfl | rfl | rfl | rfl | rfl | rfl | rfl <;> trivial
  | mail => simp only [Ref, List.mem_cons, List.not_mem_nil, or_false] at h; rcases h with rfl | rfl | rfl <;> trivial
  | objs => cases (show y = _ from h); trivial
  | parc => cases (show y = _ from h); trivial
  | ques => cases (show y = _ from h); trivial
  | objD => obtain ⟨k, hk, rfl⟩ := h; exact hk
  | outD => obtain ⟨k, hk, rfl⟩ := h; exact hk
  | incD => obtain ⟨k, hk, rfl⟩ := h; exact hk
  | out j => cases (show y = _ from h); exact hx
  | item j => cases (show y = _ from h); exact hx
  | _ => exact h.elim
/-- the same places -/
theorem WAt.cong (R : WAt K M H W) (h : ∀ s, Dom W s → M' s = M s) : WAt K M' H W := ⟨fun s hs => by
  obtain ⟨o, e, c⟩ := R.at_ s hs
  refine ⟨o, by rw [h s hs]; exact e, ?_⟩
  cases s with
  | world =>
    obtain ⟨dx, rfl⟩ := c
    refine ⟨dx, ?_⟩
    unfold worldL
    rw [h .sites trivial, h .net trivial]
  | sites =>
    show _ = _
    rw [show o = _ from c]
    exact congrArg HO.lst (List.map_congr_left fun i hi => by rw [h (.of i .site) ⟨hi, trivial⟩])
  | net =>
    obtain ⟨dx, rfl⟩ := c
    refine ⟨dx, ?_⟩
    rw [h .netL trivial]
  | netL => exact c
  | of i x => exact Cs.congr (fun y hy => (h (.of i y) ⟨hs.1, hy.cl hs.2⟩).symm) c, fun s t hs ht e => R.inj s t hs ht (by rw [← h s hs, ← h t ht]; exact e)⟩
/-- a variable is set -/
theorem WAt.setv (R : WAt K M H W) (hi : i ∈ sitesL W.n) {vs : List V} (hv : TDs H vs ((W.st i).vars.map dOr)) (v : Nat) {a : V} {r : Option Rf} (ha : TD H a (dOr r)) :
    WAt K M (upd H (M (.of i .vars)) (.lst (vs.set v a))) (W.set i ((W.st i).setv v r)) ∧ ∀ T, Ch T M W H M (W.set i ((W.st i).setv v r)) (upd H (M (.of i .vars)) (.lst (vs.set v a))) := by
  have q := fun T : Addr × Str => R.putS (T := T) (x := .vars) (o' := .lst (vs.set v a)) ((W.st i).setv v r) hi trivial rfl ⟨_, rfl, by
    show TDs H _ (((W.st i).vars.set v r).map dOr)
    rw [List.map_set]
    exact tds_set hv v ha⟩ fun y o ne c => by
    cases y <;> first | exact absurd rfl ne | exact c
  exact ⟨(q (0, "")).1, fun T => (q T).2⟩
/-- an object is made -/
theorem WAt.add (R : WAt K M H W) (hi : i ∈ sitesL W.n) (hc : c = (W.st i).oc) (hn : c ∉ (W.st i).objs) {b l db du : Addr} {k : Nat} {mk : Int} (s : Same H H1) (hx : H b = none) (hl : H l = none)
    (h1 : H1 b = some (.ins (He.ga K "Item") db (itemF l mk))) (h2 : H1 l = some (.lst (List.replicate k .non))) :
    ∃ M', WAt K M' (upd (upd H1 (M (.of i .objD)) (.dK (putK ((W.st i).objs.map fun n => (Sum.inl n, V.ref (M (.of i (.item n))))) (.inl c) (.ref b)))) (M (.of i .objs)) (.ins (He.ga K "Numbered") du (numL (M (.of i .objD)) (c + 1)))) (W.set i ((W.st i).add k mk)) ∧
      (∀ T, Ch T M W H M' (W.set i ((W.st i).add k mk)) (upd (upd H1 (M (.of i .objD)) (.dK (putK ((W.st i).objs.map fun n => (Sum.inl n, V.ref (M (.of i (.item n))))) (.inl c) (.ref b)))) (M (.of i .objs)) (.ins (He.ga K "Numbered") du (numL (M (.of i .objD)) (c + 1))))) ∧ ∀ s, Dom W s → M' s = M s := by
  have nbl : b ≠ l := fun e => by rw [e, h2] at h1; cases h1
  have occ : ∀ t, Dom W t → M t ≠ b ∧ M t ≠ l := fun t ht => by
    obtain ⟨u, e, _⟩ := R.at_ t ht
    exact ⟨fun z => (by rw [z, hx] at e; cases e), fun z => (by rw [z, hl] at e; cases e)⟩
  let M' : WS → Addr := fun t => if t = .of i (.item c) then b else if t = .of i (.itemL c) then l else M t
  have mi : M' (.of i (.item c)) = b := if_pos rfl
  have ml : M' (.of i (.itemL c)) = l := by show (if _ then _ else if _ then _ else _) = _; rw [if_neg (by simp), if_pos rfl]
  have nd : ∀ t, Dom W t → t ≠ .of i (.item c) ∧ t ≠ .of i (.itemL c) := fun t ht => ⟨fun e => (hn (by rw [e] at ht; exact ht.2)), fun e => (hn (by rw [e] at ht; exact ht.2))⟩
  have mo : ∀ t, Dom W t → M' t = M t := fun t ht => by show (if _ then _ else if _ then _ else _) = _; rw [if_neg (nd t ht).1, if_neg (nd t ht).2]
  have d1 : Dom W (.of i .objD) := ⟨hi, trivial⟩
  have d2 : Dom W (.of i .objs) := ⟨hi, trivial⟩
  have n12 : M (.of i .objD) ≠ M (.of i .objs) := fun e => by have := R.inj _ _ d1 d2 e; cases this
  have R1 := (R.same s).cong mo
  have dm : ∀ t, Dom (W.set i ((W.st i).add k mk)) t → Dom W t ∨ t = .of i (.item c) ∨ t = .of i (.itemL c) := fun t ht => by
    cases t with
    | of j y =>
      by_cases e : j = i
      · subst e
        have q : Ds W.n j ((W.st j).add k mk) y := by have := ht.2; rw [WSt.set_same] at this; exact this
        cases y with
        | item m =>
          rcases List.mem_append.mp (show m ∈ (W.st j).objs ++ [(W.st j).oc] from q) with h | h
          · exact .inl ⟨hi, h⟩
          · rw [List.mem_singleton.mp h, ← hc]; exact .inr (.inl rfl)
        | itemL m =>
          rcases List.mem_append.mp (show m ∈ (W.st j).objs ++ [(W.st j).oc] from q) with h | h
          · exact .inl ⟨hi, h⟩
          · rw [List.mem_singleton.mp h, ← hc]; exact .inr (.inr rfl)
        | _ => exact .inl ⟨hi, q⟩
      · have q := ht.2
        rw [WSt.set_ne e] at q
        exact .inl ⟨ht.1, q⟩
    | _ => exact .inl trivial
  generalize hH2 : (upd (upd H1 (M (.of i .objD)) (.dK (putK ((W.st i).objs.map fun n => (Sum.inl n, V.ref (M (.of i (.item n))))) (.inl c) (.ref b)))) (M (.of i .objs)) (.ins (He.ga K "Numbered") du (numL (M (.of i .objD)) (c + 1)))) = H2
  have e2 : H2 (M (.of i .objs)) = some (.ins (He.ga K "Numbered") du (numL (M (.of i .objD)) (c + 1))) := by rw [← hH2, upd_same]
  have e1 : H2 (M (.of i .objD)) = some (.dK ((((W.st i).add k mk).objs).map fun n => (Sum.inl n, V.ref (M' (.of i (.item n)))))) := by
    rw [← hH2, upd_ne n12, upd_same, putK_end (by
      rw [List.map_map]
      intro z
      obtain ⟨m, hm, e⟩ := List.mem_map.mp z
      cases (Sum.inl.inj e)
      exact hn hm)]
    show _ = some (HO.dK (((W.st i).objs ++ [(W.st i).oc]).map _))
    rw [List.map_append, ← hc]
    refine congrArg some (congrArg HO.dK (congr (congrArg _ (List.map_congr_left fun m hm => ?_)) ?_))
    · rw [mo (.of i (.item m)) ⟨hi, hm⟩]
    · show _ = [(Sum.inl c, V.ref (M' (.of i (.item c))))]
      rw [mi]
  have oth : ∀ a, a ≠ M (.of i .objD) → a ≠ M (.of i .objs) → H2 a = H1 a := fun a h3 h4 => by rw [← hH2, upd_ne h4, upd_ne h3]
  have tl : TSame H1 H2 := fun a xs h => by
    obtain ⟨u1, f1, c1⟩ := (R.same s).at_ _ d1
    obtain ⟨u2, f2, c2⟩ := (R.same s).at_ _ d2
    rw [oth a]
    · exact h
    · rintro rfl
      rw [f1] at h
      exact c1.nc.2 xs (Option.some.inj h)
    · rintro rfl
      rw [f2] at h
      exact c2.nc.2 xs (Option.some.inj h)
  refine ⟨M', ⟨fun t ht => ?_, fun t u ht hu e => ?_⟩, fun T => ⟨fun a o h _ hn' => ?_, fun t ht => ?_, fun a xs h => tl a xs (s _ _ h), fun P ps h => ⟨ps, ?_⟩, fun h => ?_⟩, mo⟩
  · rcases dm t ht with hd | rfl | rfl
    · by_cases q1 : t = .of i .objD
      · subst q1
        refine ⟨_, by rw [mo _ hd]; exact e1, ?_⟩
        show Cs K M' W.n i ((W.set i _).st i) H2 .objD _
        rw [WSt.set_same]
        rfl
      · by_cases q2 : t = .of i .objs
        · subst q2
          refine ⟨_, by rw [mo _ hd]; exact e2, ?_⟩
          show Cs K M' W.n i ((W.set i _).st i) H2 .objs _
          rw [WSt.set_same]
          refine ⟨du, ?_⟩
          rw [mo _ d1]
          show _ = HO.ins _ _ (numL _ ((W.st i).oc + 1))
          rw [← hc]
        · obtain ⟨o, f, g⟩ := R1.at_ t hd
          have f' : H1 (M t) = some o := by rw [← mo t hd]; exact f
          refine ⟨o, by rw [mo t hd, oth (M t) (fun z => q1 (R.inj _ _ hd d1 z)) (fun z => q2 (R.inj _ _ hd d2 z))]; exact f', ?_⟩
          refine Cn.tl tl ?_
          cases t with
          | of j y =>
            show Cs K M' W.n j ((W.set i _).st j) H1 y o
            by_cases e : j = i
            · subst e
              rw [WSt.set_same]
              have g : Cs K M' W.n j (W.st j) H1 y o := g
              cases y with
              | objs => exact absurd rfl q2
              | objD => exact absurd rfl q1
              | item m =>
                have hm : m ≠ (W.st j).oc := fun e => hn (hc ▸ e ▸ hd.2)
                obtain ⟨dx, rfl⟩ := g
                refine ⟨dx, ?_⟩
                show _ = HO.ins _ _ (itemF _ (if m = (W.st j).oc then (⟨mk, List.replicate k none⟩ : Itm) else (W.st j).itm m).mark)
                rw [if_neg hm]
              | itemL m =>
                have hm : m ≠ (W.st j).oc := fun e => hn (hc ▸ e ▸ hd.2)
                obtain ⟨vs, rfl, h⟩ := g
                refine ⟨vs, rfl, ?_⟩
                show TDs _ _ ((if m = (W.st j).oc then (⟨mk, List.replicate k none⟩ : Itm) else (W.st j).itm m).flds.map dOr)
                rw [if_neg hm]
                exact h
              | _ => exact g
            · rw [WSt.set_ne e]
              exact g
          | _ => exact g
    · refine ⟨_, by rw [mi, oth b (occ _ d1).1.symm (occ _ d2).1.symm]; exact h1, ?_⟩
      show Cs K M' W.n i ((W.set i _).st i) H2 (.item c) _
      rw [WSt.set_same]
      refine ⟨db, ?_⟩
      show _ = HO.ins _ _ (itemF _ (if c = (W.st i).oc then (⟨mk, List.replicate k none⟩ : Itm) else (W.st i).itm c).mark)
      rw [if_pos hc, ml]
    · refine ⟨_, by rw [ml, oth l (occ _ d1).2.symm (occ _ d2).2.symm]; exact h2, ?_⟩
      show Cs K M' W.n i ((W.set i _).st i) H2 (.itemL c) _
      rw [WSt.set_same]
      refine ⟨_, rfl, ?_⟩
      show TDs _ _ ((if c = (W.st i).oc then (⟨mk, List.replicate k none⟩ : Itm) else (W.st i).itm c).flds.map dOr)
      rw [if_pos hc]
      exact tds_nons k
  · rcases dm t ht with hd | rfl | rfl <;> rcases dm u hu with hd' | rfl | rfl
    · exact R1.inj t u hd hd' e
    · rw [mo t hd, mi] at e; exact absurd e (occ t hd).1
    · rw [mo t hd, ml] at e; exact absurd e (occ t hd).2
    · rw [mo u hd', mi] at e; exact absurd e.symm (occ u hd').1
    · rfl
    · rw [mi, ml] at e; exact absurd e nbl
    · rw [mo u hd', ml] at e; exact absurd e.symm (occ u hd').2
    · rw [mi, ml] at e; exact absurd e.symm nbl
    · rfl
  · rw [oth a (hn' _ d1) (hn' _ d2)]
    exact s _ _ h
  · rcases dm t ht with hd | rfl | rfl
    · exact .inl ⟨t, hd, mo t hd⟩
    · rw [mi]; exact .inr hx
    · rw [ml]; exact .inr hl
  · rw [oth P]
    · exact s _ _ h
    · rintro rfl
      obtain ⟨u, e, g⟩ := R.at_ _ d1
      rw [e] at h
      have := g.nc.1
      cases h
      cases this
    · rintro rfl
      obtain ⟨u, e, g⟩ := R.at_ _ d2
      rw [e] at h
      have := g.nc.1
      cases h
      cases this
  · obtain ⟨ps, a1, a2, a3⟩ := h
    have nn : ∀ a o, H a = some o → NC o = false → H2 a = some o := fun a o h nc => by
      rw [oth a]
      · exact s _ _ h
      · rintro rfl
        obtain ⟨u, e, g⟩ := R.at_ _ d1
        rw [e] at h
        cases h
        rw [g.nc.1] at nc
        cases nc
      · rintro rfl
        obtain ⟨u, e, g⟩ := R.at_ _ d2
        rw [e] at h
        cases h
        rw [g.nc.1] at nc
        cases nc
    refine ⟨ps, nn _ _ a1 rfl, a2, fun pos cv hcv => ?_⟩
    obtain ⟨d, f1, f2⟩ := a3 pos cv hcv
    exact ⟨d, f1, nn _ _ f2 rfl⟩
end
end Wo

/-! Things of a law's own, apart from the world. -/
namespace Wo
open PySem PySem.Spec PyProof.Rows L2 Fh Sx
structure Lw (ι : Type) where
  C : Hp → ι → HO → Prop
  mono : ∀ {H H' : Hp} {x : ι} {o : HO}, TSame H H' → C H x o → C H' x o
  nt : ∀ {H : Hp} {x : ι} {o : HO}, C H x o → NT o = true ∧ ∀ xs, o ≠ .tup xs
structure LA {ι : Type} (N : ι → Addr) (D : ι → Prop) (L : Lw ι) (M : WS → Addr) (H : Hp) (W : WSt) : Prop where
  at_ : ∀ x, D x → ∃ o, H (N x) = some o ∧ L.C H x o
  inj : ∀ x y, D x → D y → N x = N y → x = y
  ap : ∀ x, D x → ∀ s, Dom W s → N x ≠ M s
section
variable {ι : Type} {N : ι → Addr} {D : ι → Prop} {L L' : Lw ι} {M M' : WS → Addr} {H H' : Hp} {W W' : WSt} {K : PySem.W.Frag} {T : Addr × Str}
theorem LA.ch (A : LA N D L M H W) (c : Ch T M W H M' W' H') : LA N D L M' H' W' := ⟨fun x hx => by
  obtain ⟨o, e, q⟩ := A.at_ x hx
  exact ⟨o, (c.keep e (A.ap x hx) (L.nt q).1).1, L.mono c.tl q⟩, A.inj, fun x hx => by
  obtain ⟨o, e, q⟩ := A.at_ x hx
  exact (c.keep e (A.ap x hx) (L.nt q).1).2⟩
theorem LA.same (A : LA N D L M H W) (s : Same H H') : LA N D L M H' W := A.ch (Ch.sm (T := (0, "")) (.of s))
theorem LA.put (A : LA N D L M H W) (R : WAt K M H W) {x : ι} {o' : HO} (hx : D x) (hc : L'.C H x o') (hs : ∀ y o, y ≠ x → D y → L.C H y o → L'.C H y o) : LA N D L' M (upd H (N x) o') W ∧ WAt K M (upd H (N x) o') W ∧ TSame H (upd H (N x) o') := by
  obtain ⟨u, e, q⟩ := A.at_ x hx
  have tl : TSame H (upd H (N x) o') := fun b xs h => by
    rw [upd_ne]
    · exact h
    · rintro rfl
      rw [e] at h
      exact (L.nt q).2 xs (Option.some.inj h)
  refine ⟨⟨fun y hy => ?_, A.inj, A.ap⟩, R.tl (fun s hs => upd_ne (A.ap x hx s hs).symm) tl, tl⟩
  by_cases e2 : y = x
  · subst e2
    exact ⟨o', upd_same, L'.mono tl hc⟩
  · obtain ⟨o, e3, c⟩ := A.at_ y hy
    refine ⟨o, ?_, L'.mono tl (hs y o e2 hy c)⟩
    rw [upd_ne fun z => e2 (A.inj y x hy hx z)]
    exact e3
end
end Wo
namespace Wo
open PySem PySem.Spec PyProof.Rows L2 Fh Sx
/-- the script, apart from all -/
def ScS (K : PySem.W.Frag) (S : Addr) (xs : List V) {ι : Type} (N : ι → Addr) (D : ι → Prop) (M : WS → Addr) (H : Hp) (W : WSt) : Prop :=
  (∀ H', SqL K H' S xs) ∨ ∃ o, H S = some o ∧ NT o = true ∧ (∀ H' : Hp, H' S = some o → SqL K H' S xs) ∧ (∀ s, Dom W s → S ≠ M s) ∧ ∀ x, D x → S ≠ N x
section
variable {ι : Type} {N : ι → Addr} {D : ι → Prop} {L L' : Lw ι} {M M' : WS → Addr} {H H' : Hp} {W W' : WSt} {K : PySem.W.Frag} {T : Addr × Str} {S : Addr} {xs : List V}
theorem ScS.sq (A : ScS K S xs N D M H W) : SqL K H S xs := by
  rcases A with h | ⟨o, e, _, h, _⟩
  · exact h H
  · exact h H e
theorem ScS.ch (A : ScS K S xs N D M H W) (c : Ch T M W H M' W' H') : ScS K S xs N D M' H' W' := by
  rcases A with h | ⟨o, e, nt, h, a, b⟩
  · exact .inl h
  · obtain ⟨e2, a2⟩ := c.keep e a nt
    exact .inr ⟨o, e2, nt, h, a2, b⟩
theorem ScS.same (A : ScS K S xs N D M H W) (s : Same H H') : ScS K S xs N D M H' W := A.ch (Ch.sm (T := (0, "")) (.of s))
theorem ScS.put (A : ScS K S xs N D M H W) {x : ι} {o' : HO} (hx : D x) : ScS K S xs N D M (upd H (N x) o') W := by
  rcases A with h | ⟨o, e, nt, h, a, b⟩
  · exact .inl h
  · exact .inr ⟨o, by rw [upd_ne (b x hx)]; exact e, nt, h, a, b⟩
/-- at first: what stands now is apart from what is new -/
theorem ScS.of {H0 : Hp} (A : SqL K H0 S xs) (k : ∀ b o, H0 b = some o → NT o = true → H b = some o) (fw : ∀ s, Dom W s → H0 (M s) = none) (fl : ∀ x, D x → H0 (N x) = none) : ScS K S xs N D M H W := by
  rcases A with (h | ⟨o, h⟩) | h
  · exact .inr ⟨_, k _ _ h rfl, rfl, fun H' h' => SqL.of h', fun s hs e => (by rw [e, fw s hs] at h; cases h), fun x hx e => (by rw [e, fl x hx] at h; cases h)⟩
  · exact .inr ⟨_, k _ _ h rfl, rfl, fun H' h' => .inl (.inr ⟨_, h'⟩), fun s hs e => (by rw [e, fw s hs] at h; cases h), fun x hx e => (by rw [e, fl x hx] at h; cases h)⟩
  · exact .inl fun _ => .inr h
end
end Wo

/-! list(d.keys()) -/
namespace DKe
open PySem PySem.Spec PyProof.Rows L2
def rKeysL : V → Hp → VK → Prop := fun x H Q => ∃ (d : Addr) (kvs : List (Key × V)), x = .ref d ∧ H d = some (.dK kvs) ∧ ∀ q, H q = none → Q (.ref q) (upd H q (.lst (kvs.map fun kv => kV kv.1)))
/-- list(e.keys()), a dict of ints and texts -/
def tKeysL (te : TE) : TE := fun σ H Q => te σ H fun x H1 => rKeysL x H1 Q
theorem vals_keys {P : Program} {w : World} {kvs : List (Key × V)} {vs : List (Key × Value)} {acc : Array Value} (kv : KV kvs vs)
    (h : ItemsOf (fun i v => ∃ k x, vs[i]? = some (k, x) ∧ (mixKind P w).is k v = true) acc vs.length) : Vals (kvs.map fun kv => kV kv.1) acc.toList := by
  have lk : kvs.length = vs.length := Paired.length kv
  refine vals_of_at (by rw [List.length_map]; exact lk.trans (h.1.symm.trans Array.length_toList.symm)) fun j x u h1 h2 => ?_
  obtain ⟨k, y, e1, e2⟩ := h.2 j u (by rw [← Array.getElem?_toList]; exact h2)
  have e3 : (kvs.map (·.1))[j]? = some k := by
    rw [KV.keys kv, List.getElem?_map, e1]
    all_goals rfl
  rw [List.getElem?_map] at e3 h1
  obtain ⟨p, hp, e4⟩ := Option.map_eq_some_iff.mp e3
  rw [hp] at h1
  cases h1
  show L2.RelV (kV p.1) u
  rw [e4]
  exact keyIs_rel e2
section
variable {X : Cx} {e : Expr} {te : TE} {p apos cpos pos : Pos}
theorem pe_listKeys (hc : X.calm = true) (he : PE X e te) (hg : Gl X "list") (hm : X.mg "list" = none) (hv : bootBuiltins "list" = some (.type "list"))
    (hb : attributeBase e "keys" X.env (eval e X.env) = eval e X.env := by rfl) (hl : (apos.endLine == cpos.line) = true := by rfl)
    (hs : starEach [.Call (.Attribute e "keys" apos) [] [] cpos] X.env = (false, eval (.Call (.Attribute e "keys" apos) [] [] cpos) X.env) :: starEach [] X.env := by rfl) :
    PE X (.Call (.Name "list" p) [.Call (.Attribute e "keys" apos) [] [] cpos] [] pos) (tKeysL te) := by
  refine ⟨fun pins s σ H Q I hq => wpAny_Call_Name_kw (ld_blt I hg hm hv (PyProof.Rows.callWith_type1 ?_ hs rfl))⟩
  rw [hs]
  show wpAny _ _ (spliced ((false, eval (.Call (.Attribute e "keys" apos) [] [] cpos) X.env) :: backTo pos (starEach [] X.env))) _ _ s
  refine Calls.spliced_cons (wpAny_Call_method (T := "dict") (id := "dict.keys") hb rfl hl F.plainAttrs_dict F.slot_dict_keys F.type_dict_keys (thn (he.run pins s σ H _ I hq) fun u s1 ⟨x, H1, I1, rx, d, kvs, ex, hd, q⟩ => ?_))
  subst ex
  obtain rfl : u = Value.ref d := rx
  obtain ⟨hz, h0, vs, kv, hdo⟩ := I1.hok d _ hd
  obtain ⟨ep, hat⟩ := hdo.dictAt
  have lk : kvs.length = vs.length := Paired.length kv
  have push : ∀ b ob, s1.heap.get? b = some ob → (s1.heap.push { cls := .type "dict_keys", data := .fields #[.ref d] }).get? b = some ob := fun b ob z => Heap.get?_push_of_some _ z
  have I2 : Inv X pins σ H1 { s1 with heap := s1.heap.push { cls := .type "dict_keys", data := .fields #[.ref d] } } := I1.kept (t' := s1.toks) push
  refine ⟨hdo.typeIs, hdo.mapOf.noDict, ?_⟩
  show wpAny _ _ (callWith cpos (.builtin "dict.keys") [.ref d] [] []) _ X.xe s1
  refine method_meetsIn F.slot_dict_keys F.entry_dict_keys rfl (PySem.evalArgs_none ⟨rfl, hdo.typeIs, F.args_dict_keys_1 _, _, PySem.W.kdl_meets_keys (mixKind X.prog X.w) d h0, ⟨vs, hdo⟩, Calls.spliced_nil ?_⟩)
  have src := PySem.W.kdl_keys (prog := X.prog) (w := X.w) (knd := mixKind X.prog X.w) (r := s1.heap.objs.size) (d := d) (kvs := vs) (ep := ep)
  refine PySem.W.kdl_call (s := { s1 with heap := s1.heap.push { cls := .type "dict_keys", data := .fields #[.ref d] } }) src (I1.ok.hd hc) ⟨⟨_, Heap.get?_push_size _ rfl, rfl, rfl⟩, hat.push _⟩ (by omega) fun h' tk acc c kp hS hacc => ?_
  have nf : H1 (s1.heap.push { cls := .type "dict_keys", data := .fields #[.ref d] }).objs.size = none := I2.hok.fresh (Nat.le_refl _)
  refine ⟨.ref _, _, I2.laid (t' := tk) (o := .lst (kvs.map fun kv => kV kv.1)) kp (Nat.le_refl _) ⟨by rw [List.length_map]; exact hz, acc.toList, c, vals_keys kv hacc, ?_⟩, rfl, q _ nf⟩
  rw [Array.toArray_toList]
  exact hS
end
end DKe

/-! list(d.keys()) and len(d), whichever the keys are: ints and texts, or tuples. -/
namespace DKe
open PySem PySem.Spec PyProof.Rows L2
def rKeysT : V → Hp → VK → Prop := fun x H Q => ∃ (d : Addr) (kvs : List (List Key × V)), x = .ref d ∧ H d = some (.dT kvs) ∧ ∀ q bs, H q = none → IsKeys H kvs bs → Q (.ref q) (upd H q (.lst (bs.map V.ref)))
/-- list(e.keys()), any dict -/
def tKeysB (te : TE) : TE := fun σ H Q => te σ H fun x H1 => rKeysL x H1 Q ∨ rKeysT x H1 Q
section
variable {X : Cx} {e : Expr} {te : TE} {p apos cpos pos : Pos}
theorem pe_listKeysB (hc : X.calm = true) (he : PE X e te) (hg : Gl X "list") (hm : X.mg "list" = none) (hv : bootBuiltins "list" = some (.type "list"))
    (hb : attributeBase e "keys" X.env (eval e X.env) = eval e X.env := by rfl) (hl : (apos.endLine == cpos.line) = true := by rfl)
    (hs : starEach [.Call (.Attribute e "keys" apos) [] [] cpos] X.env = (false, eval (.Call (.Attribute e "keys" apos) [] [] cpos) X.env) :: starEach [] X.env := by rfl) :
    PE X (.Call (.Name "list" p) [.Call (.Attribute e "keys" apos) [] [] cpos] [] pos) (tKeysB te) := by
  refine ⟨fun pins s σ H Q I hq => wpAny_Call_Name_kw (ld_blt I hg hm hv (PyProof.Rows.callWith_type1 ?_ hs rfl))⟩
  rw [hs]
  show wpAny _ _ (spliced ((false, eval (.Call (.Attribute e "keys" apos) [] [] cpos) X.env) :: backTo pos (starEach [] X.env))) _ _ s
  refine Calls.spliced_cons (wpAny_Call_method (T := "dict") (id := "dict.keys") hb rfl hl F.plainAttrs_dict F.slot_dict_keys F.type_dict_keys (thn (he.run pins s σ H _ I hq) fun u s1 ⟨x, H1, I1, rx, h⟩ => ?_))
  rcases h with ⟨d, kvs, ex, hd, q⟩ | ⟨d, kvs, ex, hd, q⟩
  · subst ex
    obtain rfl : u = Value.ref d := rx
    obtain ⟨hz, h0, vs, kv, hdo⟩ := I1.hok d _ hd
    obtain ⟨ep, hat⟩ := hdo.dictAt
    have lk : kvs.length = vs.length := Paired.length kv
    have push : ∀ b ob, s1.heap.get? b = some ob → (s1.heap.push { cls := .type "dict_keys", data := .fields #[.ref d] }).get? b = some ob := fun b ob z => Heap.get?_push_of_some _ z
    have I2 : Inv X pins σ H1 { s1 with heap := s1.heap.push { cls := .type "dict_keys", data := .fields #[.ref d] } } := I1.kept (t' := s1.toks) push
    refine ⟨hdo.typeIs, hdo.mapOf.noDict, ?_⟩
    show wpAny _ _ (callWith cpos (.builtin "dict.keys") [.ref d] [] []) _ X.xe s1
    refine method_meetsIn F.slot_dict_keys F.entry_dict_keys rfl (PySem.evalArgs_none ⟨rfl, hdo.typeIs, F.args_dict_keys_1 _, _, PySem.W.kdl_meets_keys (mixKind X.prog X.w) d h0, ⟨vs, hdo⟩, Calls.spliced_nil ?_⟩)
    have src := PySem.W.kdl_keys (prog := X.prog) (w := X.w) (knd := mixKind X.prog X.w) (r := s1.heap.objs.size) (d := d) (kvs := vs) (ep := ep)
    refine PySem.W.kdl_call (s := { s1 with heap := s1.heap.push { cls := .type "dict_keys", data := .fields #[.ref d] } }) src (I1.ok.hd hc) ⟨⟨_, Heap.get?_push_size _ rfl, rfl, rfl⟩, hat.push _⟩ (by omega) fun h' tk acc c kp hS hacc => ?_
    have nf : H1 (s1.heap.push { cls := .type "dict_keys", data := .fields #[.ref d] }).objs.size = none := I2.hok.fresh (Nat.le_refl _)
    refine ⟨.ref _, _, I2.laid (t' := tk) (o := .lst (kvs.map fun kv => kV kv.1)) kp (Nat.le_refl _) ⟨by rw [List.length_map]; exact hz, acc.toList, c, vals_keys kv hacc, ?_⟩, rfl, q _ nf⟩
    rw [Array.toArray_toList]
    exact hS
  · subst ex
    obtain rfl : u = Value.ref d := rx
    obtain ⟨hz, h0, ks, pr, o, es, ep, ho, hx, hdt, hes, hn⟩ := (show ObjOk X.prog X.w H1 s1.heap d (.dT kvs) from I1.hok d _ hd)
    have raw : s1.heap.DictRaw d es ep := ⟨o, ho, hx, hdt⟩
    have l1 : es.size = ks.length := size_of_entries hes
    have l2 : kvs.length = ks.length := Paired.length pr
    have push : ∀ b ob, s1.heap.get? b = some ob → (s1.heap.push { cls := .type "dict_keys", data := .fields #[.ref d] }).get? b = some ob := fun b ob z => Heap.get?_push_of_some _ z
    have I2 : Inv X pins σ H1 { s1 with heap := s1.heap.push { cls := .type "dict_keys", data := .fields #[.ref d] } } := I1.kept (t' := s1.toks) push
    refine ⟨raw.typeIs, fun b eb => ?_, ?_⟩
    · cases eb
      exact ⟨o, ho, hx.2.1⟩
    show wpAny _ _ (callWith cpos (.builtin "dict.keys") [.ref d] [] []) _ X.xe s1
    refine method_meetsIn F.slot_dict_keys F.entry_dict_keys rfl (PySem.evalArgs_none ⟨rfl, raw.typeIs, F.args_dict_keys_1 _, _, PySem.meets_dict_keys_raw d h0, ⟨es, ep, raw⟩, Calls.spliced_nil ?_⟩)
    have src := KdlSrc.rawKeys (prog := X.prog) (w := X.w) (r := s1.heap.objs.size) (d := d) (es := es) (ep := ep)
    refine PySem.W.kdl_call (s := { s1 with heap := s1.heap.push { cls := .type "dict_keys", data := .fields #[.ref d] } }) src (I1.ok.hd hc) ⟨⟨_, Heap.get?_push_size _ rfl, rfl, rfl⟩, raw.push _⟩ (by omega) fun h' tk acc c kp hS hacc => ?_
    have nf : H1 (s1.heap.push { cls := .type "dict_keys", data := .fields #[.ref d] }).objs.size = none := I2.hok.fresh (Nat.le_refl _)
    have eacc : acc.toList = (ks.map fun x => x.2.1).map Value.ref := by
      refine List.ext_getElem? fun j => ?_
      rw [List.getElem?_map, List.getElem?_map]
      have hsz : acc.toList.length = ks.length := Array.length_toList.trans (hacc.1.trans l1)
      cases hj : acc.toList[j]? with
      | none =>
        have := List.getElem?_eq_none_iff.mp hj
        rw [List.getElem?_eq_none (by omega)]
        rfl
      | some v =>
        obtain ⟨hi, ev⟩ := hacc.2 j v (by rw [← Array.getElem?_toList]; exact hj)
        have en := entry_at hes j
        rw [Array.getElem?_eq_getElem hi] at en
        obtain ⟨b, hb, eb⟩ := Option.map_eq_some_iff.mp en.symm
        rw [hb, ev, ← eb]
        rfl
    have lz : ((ks.map fun x => x.2.1).map V.ref).length ≤ sizeLine := by rw [List.length_map, List.length_map]; omega
    refine ⟨.ref _, _, I2.laid (t' := tk) (o := .lst ((ks.map fun x => x.2.1).map V.ref)) kp (Nat.le_refl _) ⟨lz, acc.toList, c, ?_, ?_⟩, rfl, q _ _ nf (isKeys_of pr)⟩
    · rw [eacc]
      exact vals_refs _
    · rw [Array.toArray_toList]
      exact hS
/-- len(d), any dict -/
theorem call_lenB : CallR X (.builtin "len") (fun xs H Q => (∃ a kvs, xs = [V.ref a] ∧ H a = some (.dK kvs) ∧ Q (.int kvs.length) H) ∨ ∃ (a : Addr) (kvs : List (List Key × V)), xs = [V.ref a] ∧ H a = some (.dT kvs) ∧ Q (.int ((kvs.length : Nat) : Int)) H) := by
  intro pins s σ H xs us Q I r h
  rcases h with h | ⟨a, kvs, h1, h2, h3⟩
  · exact call_lenD pins s σ H xs us Q I r h
  · exact call_len_dT pins s σ H xs us Q I r ⟨a, kvs, h1, h2, h3⟩
end
end DKe

/-! sorted(d), any number of keys: ints, or pairs of ints -/
namespace SrtDi
open PySem PySem.Spec PyProof.Rows L2 Ce
section
variable {X : Cx} {pins : List (Addr × Obj)} {σ : L2.St} {H : Hp} {s : Shared}
/-- what is collected is laid as a list and sorted -/
theorem finish {d : Addr} {acc : List Value} {h' : Heap} {tk : Nat} {lt : Value → Value → Bool} {Q : VK} {E : Value → Shared → Prop} (I : Inv X pins σ H { s with heap := h', toks := tk }) (O : SrtO.Swo lt) (hz : acc.length ≤ sizeLine)
    (hs : 2 ≤ acc.length → ∀ h2 : Heap, h2.get? h'.objs.size = some (seqObj "list" acc.toArray 0) → (∀ b o, h'.get? b = some o → h2.get? b = some o) → SrtO.SortableO X.prog X.w X.A.in1.in1 { s with heap := h2, toks := tk } h'.objs.size acc lt)
    (q : ∀ (out : List Value), SrtO.Srtd lt out → SrtO.Stb lt out acc → ∀ p, H p = none → ∃ ys, Vals ys out ∧ Q (.ref p) (upd H p (.lst ys))) :
    wpAny (model X.prog X.w) X.A.in1 (do let l ← newList acc; let _ ← holding [l] (call (.builtin "list.sort") [l] []); (pure (.done (.ret l)) : Sem PySem.Fin)) (fun fin s' => ∃ v, fin = .done (.ret v) ∧ EP X pins σ Q v s') E { s with heap := h', toks := tk } := by
  refine wpAny_bind (wpAny_newList ?_ hz)
  have at0 : (h'.push (seqObj "list" acc.toArray 0)).get? h'.objs.size = some (seqObj "list" acc.toArray 0) := Heap.get?_push_size _ rfl
  have up : ∀ b o, h'.get? b = some o → (h'.push (seqObj "list" acc.toArray 0)).get? b = some o := fun b o e => Heap.get?_push_of_some _ e
  show wpAny _ _ _ _ _ { s with heap := h'.push (seqObj "list" acc.toArray 0), toks := tk }
  refine wpAny_bind (wpAny_holding (wpAny_call_entry PyProof.Rows.slot_list_sort ⟨_, at0, rfl⟩ PyProof.Rows.entry_list_sort
    (SrtO.list_sort_ord O at0 hz (fun h2 => hs h2 _ at0 up) fun out g1 g2 => ⟨_, rfl, ?_⟩) (PyProof.Rows.args_list_sort _)))
  obtain ⟨ep, hat⟩ := PyProof.Rows.sortedHeap_at (vs := acc) (out := out.toArray) at0
  obtain ⟨ys, rv, qq⟩ := q out g1 g2 _ (I.hok.fresh (Nat.le_refl _))
  have lo : ys.length ≤ sizeLine := by
    rw [rv.length, g2.len]
    exact hz
  refine wpAny_pure ⟨_, rfl, .ref h'.objs.size, upd H h'.objs.size (.lst ys), I.laid (t' := tk) (fun b u e => ?_) (Nat.le_refl _) (show ObjOk X.prog X.w _ _ _ (.lst ys) from ⟨lo, out, ep, rv, hat⟩), rfl, qq⟩
  have lb : b < h'.objs.size := Heap.lt_size e
  exact (PyProof.Rows.sortedHeap_old (Nat.ne_of_lt lb) (by rw [size_push']; exact Nat.lt_succ_of_lt lb)).trans (up b u e)
/-- sorted(d), ints as keys -/
def rSortDK : List V → Hp → VK → Prop := fun xs H Q => ∃ (a : Addr) (kvs : List (Key × V)) (ks : List Int), xs = [.ref a] ∧ H a = some (.dK kvs) ∧ kvs.map (·.1) = ks.map Sum.inl ∧
  ∀ (ys : List Int) (p : Addr), ys.Perm ks → ys.Pairwise (· ≤ ·) → H p = none → Q (.ref p) (upd H p (.lst (ys.map V.int)))
theorem call_sortedDK (hc : X.calm = true) : CallR X (.builtin "sorted") rSortDK := by
  intro pins s σ H xs us Q I r ⟨a, kvs, ks, ex, hd, hks, q⟩
  subst ex
  obtain ⟨u, eu, rx⟩ := vals1 r
  subst eu
  cases rx
  obtain ⟨hz, lo, vs, rel, dd⟩ := I.hok a _ hd
  obtain ⟨ep, hat⟩ := dd.dictAt
  have hkeys : vs.map (·.1) = ks.map Sum.inl := (KV.keys rel).symm.trans hks
  have hl : vs.length = ks.length := by
    have e := congrArg List.length hkeys
    rwa [List.length_map, List.length_map] at e
  have hz2 : vs.length ≤ sizeLine := by
    have e := Paired.length rel
    omega
  refine Calls.call_function_entry PyProof.Rows.kind_sorted PyProof.Rows.plain_sorted PyProof.Rows.entry_sorted (PyProof.Rows.args_sorted1 _) ?_
  unfold Builtin.«sorted»
  refine wpAny_bind (m := checkCount "sorted" 1 1 _) (wpAny_pure ?_)
  refine wpAny_bind (PySem.W.kdu_collect (A := X.A.in1) (PySem.W.kdl_dict (knd := mixKind X.prog X.w) (kvs := vs) (ep := ep) lo) (I.ok.hd hc) hat hz2 fun h' tk acc hk hacc => ?_)
  have hal : acc.toList.length = ks.length := by rw [Array.length_toList, hacc.1, hl]
  have hS : IntsAre acc.toList ks := ints_each hal fun j v e => by
    obtain ⟨k, x, e1, e2⟩ := hacc.2 j v (by rw [← Array.getElem?_toList]; exact e)
    have e3 : (vs.map (·.1))[j]? = some k := by rw [List.getElem?_map, e1]; rfl
    rw [hkeys, List.getElem?_map] at e3
    obtain ⟨y, e4, e5⟩ := Option.map_eq_some_iff.mp e3
    subst e5
    rcases keyIs_shape (show keyIs (Sum.inl y) v = true from e2) with ⟨i, t, ek, ev⟩ | ⟨z, t, ek, ev⟩
    · cases ek
      exact ⟨y, t, e4, ev⟩
    · cases ek
  refine finish (d := a) (I.kept hk) SrtO.swo_int (by omega) (fun h2 h3 _ _ => SrtO.ints_sortable hS h2) fun out g1 g2 p hp => ?_
  obtain ⟨k1, k2, k3⟩ := SrtO.ints_out hS g1 g2
  exact ⟨_, vals_of_ints k1, q _ p k2 k3 hp⟩
/-- sorted(d), pairs of ints as keys -/
def rSortDT : List V → Hp → VK → Prop := fun xs H Q => ∃ (a : Addr) (kvs : List (List Key × V)), xs = [.ref a] ∧ H a = some (.dT kvs) ∧ (∀ p ∈ kvs, ∃ i j, p.1 = [Sum.inl i, Sum.inl j]) ∧
  ∀ (bs : List Addr) (ys : List V) (p : Addr), IsKeys H kvs bs → SrtO.Srtd (ltP (pairAt H)) ys → SrtO.Stb (ltP (pairAt H)) ys (bs.map V.ref) → H p = none → Q (.ref p) (upd H p (.lst ys))
theorem call_sortedDT (hc : X.calm = true) : CallR X (.builtin "sorted") rSortDT := by
  intro pins s σ H xs us Q I r ⟨a, kvs, ex, hd, hks, q⟩
  subst ex
  obtain ⟨u, eu, rx⟩ := vals1 r
  subst eu
  cases rx
  obtain ⟨hz, h0, ks, pr, o, es, ep, ho, hx, hdt, hes, hn⟩ := (show ObjOk X.prog X.w H s.heap a (.dT kvs) from I.hok a _ hd)
  have raw : s.heap.DictRaw a es ep := ⟨o, ho, hx, hdt⟩
  have l1 : es.size = ks.length := size_of_entries hes
  have l2 : kvs.length = ks.length := Paired.length pr
  refine Calls.call_function_entry PyProof.Rows.kind_sorted PyProof.Rows.plain_sorted PyProof.Rows.entry_sorted (PyProof.Rows.args_sorted1 _) ?_
  unfold Builtin.«sorted»
  refine wpAny_bind (m := checkCount "sorted" 1 1 _) (wpAny_pure ?_)
  refine wpAny_bind (PySem.W.kdu_collect (A := X.A.in1) (KdlSrc.rawDict (prog := X.prog) (w := X.w) (d := a) (es := es) (ep := ep) h0) (I.ok.hd hc) raw (by omega) fun h' tk acc hk hacc => ?_)
  have eacc : acc.toList = (ks.map fun x => x.2.1).map Value.ref := by
    refine List.ext_getElem? fun j => ?_
    rw [List.getElem?_map, List.getElem?_map]
    have hsz : acc.toList.length = ks.length := Array.length_toList.trans (hacc.1.trans l1)
    cases hj : acc.toList[j]? with
    | none =>
      have := List.getElem?_eq_none_iff.mp hj
      rw [List.getElem?_eq_none (by omega)]
      rfl
    | some v =>
      obtain ⟨hi, ev⟩ := hacc.2 j v (by rw [← Array.getElem?_toList]; exact hj)
      have en := entry_at hes j
      rw [Array.getElem?_eq_getElem hi] at en
      obtain ⟨b, hb, eb⟩ := Option.map_eq_some_iff.mp en.symm
      rw [hb, ev, ← eb]
      rfl
  have I2 : Inv X pins σ H { s with heap := h', toks := tk } := I.kept hk
  have ik := isKeys_of pr
  have pairs : ∀ v ∈ acc.toList, Srt.IsPair h' v (pairAt H (backV v)).1 (pairAt H (backV v)).2 := fun v hv => by
    rw [eacc] at hv
    obtain ⟨t, ht, rfl⟩ := List.mem_map.mp hv
    obtain ⟨x, hxm, rfl⟩ := List.mem_map.mp ht
    obtain ⟨jj, hj⟩ := List.mem_iff_getElem?.mp hxm
    obtain ⟨p, hp, fp⟩ := pr_r pr hj
    obtain ⟨f1, f2, _⟩ := fp
    obtain ⟨i, j, e⟩ := hks p (List.mem_of_getElem? hp)
    rw [e] at f2
    have f3 : H x.2.1 = some (.tup [.int i, .int j]) := f2
    have e2 : pairAt H (backV (.ref x.2.1)) = (i, j) := pairAt_of (r := (i, j)) ⟨_, rfl, f3⟩
    obtain ⟨_, its2, r2, o2, ho2, hc2, n2, hd2⟩ := I2.hok _ _ f3
    obtain ⟨u1, u2, rfl, ri, rj⟩ := vals2 r2
    obtain ⟨t1, rfl⟩ := ri
    obtain ⟨t2, rfl⟩ := rj
    rw [e2]
    exact ⟨_, o2, t1, t2, n2, rfl, ho2, hc2, hd2⟩
  have isref : ∀ v ∈ acc.toList, ∃ b, v = Value.ref b := fun v hv => by
    rw [eacc] at hv
    obtain ⟨t, _, rfl⟩ := List.mem_map.mp hv
    exact ⟨t, rfl⟩
  refine finish (d := a) I2 (SrtO.swo_lex fun u => pairAt H (backV u)) (by rw [eacc, List.length_map, List.length_map]; omega) (fun h2 h3 e3 kp => SrtO.pairs_sortableO (s := { s with heap := h3, toks := tk }) (by omega) (fun v hv => (pairs v hv).keeps fun b o e _ => kp b o e) fun o e => ?_) fun out g1 g2 p hp => ?_
  · have e' : some o = some (seqObj "list" acc.toList.toArray 0) := e.symm.trans e3
    cases e'
    intro c
    exact absurd (Value.type.inj c) (by decide)
  · have h3 : ∀ u ∈ out, ∃ a, u = Value.ref a := fun u hu => isref u (g2.perm.mem_iff.mp hu)
    refine ⟨out.map backV, vals_back h3, q _ _ p ik (SrtO.srtd_map g1) ?_ hp⟩
    have e5 : acc.toList.map backV = (ks.map fun x => x.2.1).map V.ref := by
      rw [eacc, List.map_map]
      rfl
    rw [← e5]
    exact SrtO.Stb.map (ltP_swo (pairAt H)) backV g2
end
end SrtDi

/-! make, assign, reset, look. -/
namespace K08
open PySem PySem.Spec PyProof.Rows L2 Hl Wo Fh
/-! ### the text by places -/
def top (i : Nat) : Stmt := PySem.Challenge.pw_farheap_k08_make_assign_reset_look.main.body.getD i (.Pass ⟨0, 0, 0, 0⟩)
abbrev s_check_index : Stmt := top 8
abbrev s_Outgoing_init : Stmt := inClass (top 10) 0
abbrev s_Incoming_init : Stmt := inClass (top 11) 0
abbrev s_Network_init : Stmt := inClass (top 12) 0
abbrev s_Ages_init : Stmt := inClass (top 14) 0
abbrev s_Mail_init : Stmt := inClass (top 16) 0
abbrev s_Numbered_init : Stmt := inClass (top 18) 0
abbrev s_Numbered_create : Stmt := inClass (top 18) 1
abbrev s_Item_init : Stmt := inClass (top 19) 0
abbrev s_Site_init : Stmt := inClass (top 22) 0
abbrev s_Site_make : Stmt := inClass (top 22) 1
abbrev s_Site_assign : Stmt := inClass (top 22) 2
abbrev s_Site_reset : Stmt := inClass (top 22) 3
abbrev s_Site_look : Stmt := inClass (top 22) 4
abbrev s_Site_check_variable : Stmt := inClass (top 22) 10
abbrev s_Site_reference : Stmt := inClass (top 22) 11
abbrev s_Site_near_item : Stmt := inClass (top 22) 12
abbrev s_World_init : Stmt := inClass (top 24) 0
abbrev s_World_site : Stmt := inClass (top 24) 1
abbrev s_World_make : Stmt := inClass (top 24) 2
abbrev s_World_assign : Stmt := inClass (top 24) 3
abbrev s_World_reset : Stmt := inClass (top 24) 4
abbrev s_World_look : Stmt := inClass (top 24) 5
abbrev s_World_variables : Stmt := inClass (top 24) 21
abbrev s_World_inbox : Stmt := inClass (top 24) 22
abbrev s_World_objects : Stmt := inClass (top 24) 23
abbrev s_World_fields : Stmt := inClass (top 24) 24
abbrev s_law_is_integer : Stmt := top 26
abbrev s_law_number : Stmt := top 27
abbrev s_law_cell : Stmt := top 28
abbrev s_law_makes : Stmt := top 29
abbrev s_law_looks : Stmt := top 30
abbrev s_law_holds : Stmt := top 31
abbrev s_law_ends_well : Stmt := top 32
abbrev s_law : Stmt := top 33
theorem sc_check_index : FnScope ["index", "count", "what"] ["index", "count", "what"] (defScope s_check_index) := ⟨rfl, rfl, rfl, by decide +kernel, rfl, by decide +kernel, by decide +kernel⟩
theorem sc_Outgoing_init : FnScope ["self"] ["self"] (defScope s_Outgoing_init) := ⟨rfl, rfl, rfl, by decide +kernel, rfl, by decide +kernel, by decide +kernel⟩
theorem sc_Incoming_init : FnScope ["self"] ["self"] (defScope s_Incoming_init) := ⟨rfl, rfl, rfl, by decide +kernel, rfl, by decide +kernel, by decide +kernel⟩
theorem sc_Network_init : FnScope ["self"] ["self"] (defScope s_Network_init) := ⟨rfl, rfl, rfl, by decide +kernel, rfl, by decide +kernel, by decide +kernel⟩
theorem sc_Ages_init : FnScope ["self"] ["self"] (defScope s_Ages_init) := ⟨rfl, rfl, rfl, by decide +kernel, rfl, by decide +kernel, by decide +kernel⟩
theorem sc_Mail_init : FnScope ["self", "number", "sites", "other"] ["self", "number", "sites"] (defScope s_Mail_init) := ⟨rfl, rfl, rfl, by decide +kernel, rfl, by decide +kernel, by decide +kernel⟩
theorem sc_Numbered_init : FnScope ["self"] ["self"] (defScope s_Numbered_init) := ⟨rfl, rfl, rfl, by decide +kernel, rfl, by decide +kernel, by decide +kernel⟩
theorem sc_Numbered_create : FnScope ["self", "thing", "number"] ["self", "thing"] (defScope s_Numbered_create) := ⟨rfl, rfl, rfl, by decide +kernel, rfl, by decide +kernel, by decide +kernel⟩
theorem sc_Item_init : FnScope ["self", "size", "mark"] ["self", "size", "mark"] (defScope s_Item_init) := ⟨rfl, rfl, rfl, by decide +kernel, rfl, by decide +kernel, by decide +kernel⟩
theorem sc_Site_init : FnScope ["self", "number", "sites"] ["self", "number", "sites"] (defScope s_Site_init) := ⟨rfl, rfl, rfl, by decide +kernel, rfl, by decide +kernel, by decide +kernel⟩
theorem sc_Site_make : FnScope ["self", "variable", "size", "mark", "reference"] ["self", "variable", "size", "mark"] (defScope s_Site_make) := ⟨rfl, rfl, rfl, by decide +kernel, rfl, by decide +kernel, by decide +kernel⟩
theorem sc_Site_assign : FnScope ["self", "source", "target"] ["self", "source", "target"] (defScope s_Site_assign) := ⟨rfl, rfl, rfl, by decide +kernel, rfl, by decide +kernel, by decide +kernel⟩
theorem sc_Site_reset : FnScope ["self", "variable"] ["self", "variable"] (defScope s_Site_reset) := ⟨rfl, rfl, rfl, by decide +kernel, rfl, by decide +kernel, by decide +kernel⟩
theorem sc_Site_look : FnScope ["self", "variable"] ["self", "variable"] (defScope s_Site_look) := ⟨rfl, rfl, rfl, by decide +kernel, rfl, by decide +kernel, by decide +kernel⟩
theorem sc_Site_check_variable : FnScope ["self", "variable"] ["self", "variable"] (defScope s_Site_check_variable) := ⟨rfl, rfl, rfl, by decide +kernel, rfl, by decide +kernel, by decide +kernel⟩
theorem sc_Site_reference : FnScope ["self", "variable", "reference"] ["self", "variable"] (defScope s_Site_reference) := ⟨rfl, rfl, rfl, by decide +kernel, rfl, by decide +kernel, by decide +kernel⟩
theorem sc_Site_near_item : FnScope ["self", "variable", "owner", "number"] ["self", "variable"] (defScope s_Site_near_item) := ⟨rfl, rfl, rfl, by decide +kernel, rfl, by decide +kernel, by decide +kernel⟩
theorem sc_World_init : FnScope ["self", "sites", "number"] ["self", "sites"] (defScope s_World_init) := ⟨rfl, rfl, rfl, by decide +kernel, rfl, by decide +kernel, by decide +kernel⟩
theorem sc_World_site : FnScope ["self", "site"] ["self", "site"] (defScope s_World_site) := ⟨rfl, rfl, rfl, by decide +kernel, rfl, by decide +kernel, by decide +kernel⟩
theorem sc_World_make : FnScope ["self", "site", "variable", "size", "mark"] ["self", "site", "variable", "size", "mark"] (defScope s_World_make) := ⟨rfl, rfl, rfl, by decide +kernel, rfl, by decide +kernel, by decide +kernel⟩
theorem sc_World_assign : FnScope ["self", "site", "source", "target"] ["self", "site", "source", "target"] (defScope s_World_assign) := ⟨rfl, rfl, rfl, by decide +kernel, rfl, by decide +kernel, by decide +kernel⟩
theorem sc_World_reset : FnScope ["self", "site", "variable"] ["self", "site", "variable"] (defScope s_World_reset) := ⟨rfl, rfl, rfl, by decide +kernel, rfl, by decide +kernel, by decide +kernel⟩
theorem sc_World_look : FnScope ["self", "site", "variable"] ["self", "site", "variable"] (defScope s_World_look) := ⟨rfl, rfl, rfl, by decide +kernel, rfl, by decide +kernel, by decide +kernel⟩
theorem sc_World_variables : FnScope ["self", "site"] ["self", "site"] (defScope s_World_variables) := ⟨rfl, rfl, rfl, by decide +kernel, rfl, by decide +kernel, by decide +kernel⟩
theorem sc_World_inbox : FnScope ["self", "site"] ["self", "site"] (defScope s_World_inbox) := ⟨rfl, rfl, rfl, by decide +kernel, rfl, by decide +kernel, by decide +kernel⟩
theorem sc_World_objects : FnScope ["self", "site"] ["self", "site"] (defScope s_World_objects) := ⟨rfl, rfl, rfl, by decide +kernel, rfl, by decide +kernel, by decide +kernel⟩
theorem sc_World_fields : FnScope ["self", "site", "number", "things"] ["self", "site", "number"] (defScope s_World_fields) := ⟨rfl, rfl, rfl, by decide +kernel, rfl, by decide +kernel, by decide +kernel⟩
theorem sc_law_is_integer : FnScope ["actual"] ["actual"] (defScope s_law_is_integer) := ⟨rfl, rfl, rfl, by decide +kernel, rfl, by decide +kernel, by decide +kernel⟩
theorem sc_law_number : FnScope ["cell", "k", "first", "second"] ["cell", "k"] (defScope s_law_number) := ⟨rfl, rfl, rfl, by decide +kernel, rfl, by decide +kernel, by decide +kernel⟩
theorem sc_law_cell : FnScope ["script", "k"] ["script", "k"] (defScope s_law_cell) := ⟨rfl, rfl, rfl, by decide +kernel, rfl, by decide +kernel, by decide +kernel⟩
theorem sc_law_makes : FnScope ["world", "site", "variable", "part", "made", "width", "value", "choice", "reference"] ["world", "site", "variable", "part", "made"] (defScope s_law_makes) := ⟨rfl, rfl, rfl, by decide +kernel, rfl, by decide +kernel, by decide +kernel⟩
theorem sc_law_looks : FnScope ["world", "site", "variable", "contents", "made", "reference", "value", "e"] ["world", "site", "variable", "contents", "made"] (defScope s_law_looks) := ⟨rfl, rfl, rfl, by decide +kernel, rfl, by decide +kernel, by decide +kernel⟩
theorem sc_law_holds : FnScope ["world", "site", "contents", "actual"] ["world", "site", "contents"] (defScope s_law_holds) := ⟨rfl, rfl, rfl, by decide +kernel, rfl, by decide +kernel, by decide +kernel⟩
theorem sc_law_ends_well : FnScope ["world", "sites", "contents", "made", "site", "number", "actual", "variable"] ["world", "sites", "contents", "made"] (defScope s_law_ends_well) := ⟨rfl, rfl, rfl, by decide +kernel, rfl, by decide +kernel, by decide +kernel⟩
theorem sc_law : FnScope ["script", "sites", "world", "k", "contents", "made", "part", "site", "deed", "variable", "target", "good"] ["script"] (defScope s_law) := ⟨rfl, rfl, rfl, by decide +kernel, rfl, by decide +kernel, by decide +kernel⟩
/-! ### what the top has written -/
/-- what the top has written -/
structure Txt (K : PySem.W.Frag) (mg : Str → Option Value) where
  mg_FarheapError : mg "FarheapError" = some (.ref (He.ga K "FarheapError"))
  mg_Unknown : mg "Unknown" = some (.ref (He.ga K "Unknown"))
  mg_Empty : mg "Empty" = some (.ref (He.ga K "Empty"))
  mg_NotNear : mg "NotNear" = some (.ref (He.ga K "NotNear"))
  mg_NotFar : mg "NotFar" = some (.ref (He.ga K "NotFar"))
  mg_Outgoing : mg "Outgoing" = some (.ref (He.ga K "Outgoing"))
  cl_Outgoing : Cls K (He.ga K "Outgoing")
  n_Outgoing__letters : NoAttr K (He.ga K "Outgoing") "_letters"
  n_Outgoing__acknowledged : NoAttr K (He.ga K "Outgoing") "_acknowledged"
  mg_Incoming : mg "Incoming" = some (.ref (He.ga K "Incoming"))
  cl_Incoming : Cls K (He.ga K "Incoming")
  n_Incoming_count : NoAttr K (He.ga K "Incoming") "count"
  mg_Network : mg "Network" = some (.ref (He.ga K "Network"))
  cl_Network : Cls K (He.ga K "Network")
  n_Network__packets : NoAttr K (He.ga K "Network") "_packets"
  mg_Ages : mg "Ages" = some (.ref (He.ga K "Ages"))
  cl_Ages : Cls K (He.ga K "Ages")
  n_Ages_clock : NoAttr K (He.ga K "Ages") "clock"
  n_Ages_bound : NoAttr K (He.ga K "Ages") "bound"
  n_Ages_settled : NoAttr K (He.ga K "Ages") "settled"
  n_Ages_low : NoAttr K (He.ga K "Ages") "low"
  n_Ages_pending : NoAttr K (He.ga K "Ages") "pending"
  mg_Mail : mg "Mail" = some (.ref (He.ga K "Mail"))
  cl_Mail : Cls K (He.ga K "Mail")
  n_Mail__number : NoAttr K (He.ga K "Mail") "_number"
  n_Mail_others : NoAttr K (He.ga K "Mail") "others"
  n_Mail__outgoing : NoAttr K (He.ga K "Mail") "_outgoing"
  n_Mail__incoming : NoAttr K (He.ga K "Mail") "_incoming"
  mg_Numbered : mg "Numbered" = some (.ref (He.ga K "Numbered"))
  cl_Numbered : Cls K (He.ga K "Numbered")
  n_Numbered_things : NoAttr K (He.ga K "Numbered") "things"
  n_Numbered__created : NoAttr K (He.ga K "Numbered") "_created"
  mg_Item : mg "Item" = some (.ref (He.ga K "Item"))
  cl_Item : Cls K (He.ga K "Item")
  n_Item_mark : NoAttr K (He.ga K "Item") "mark"
  n_Item_fields : NoAttr K (He.ga K "Item") "fields"
  mg_Site : mg "Site" = some (.ref (He.ga K "Site"))
  cl_Site : Cls K (He.ga K "Site")
  n_Site_number : NoAttr K (He.ga K "Site") "number"
  n_Site_mail : NoAttr K (He.ga K "Site") "mail"
  n_Site_ages : NoAttr K (He.ga K "Site") "ages"
  n_Site_objects : NoAttr K (He.ga K "Site") "objects"
  n_Site_variables : NoAttr K (He.ga K "Site") "variables"
  n_Site_inbox : NoAttr K (He.ga K "Site") "inbox"
  n_Site_parcels : NoAttr K (He.ga K "Site") "parcels"
  n_Site_questions : NoAttr K (He.ga K "Site") "questions"
  n_Site_arrivals : NoAttr K (He.ga K "Site") "arrivals"
  n_Site_holdings : NoAttr K (He.ga K "Site") "holdings"
  n_Site_entries : NoAttr K (He.ga K "Site") "entries"
  n_Site__awaited : NoAttr K (He.ga K "Site") "_awaited"
  n_Site__noted : NoAttr K (He.ga K "Site") "_noted"
  n_Site__waves : NoAttr K (He.ga K "Site") "_waves"
  mg_World : mg "World" = some (.ref (He.ga K "World"))
  cl_World : Cls K (He.ga K "World")
  n_World__sites : NoAttr K (He.ga K "World") "_sites"
  n_World__network : NoAttr K (He.ga K "World") "_network"
  g_check_index : mg "check_index" = some (.ref (He.ga K "check_index"))
  mk_Outgoing : Mk K (He.ga K "Outgoing") (He.ma K (He.ga K "Outgoing") "__init__")
  mk_Incoming : Mk K (He.ga K "Incoming") (He.ma K (He.ga K "Incoming") "__init__")
  mk_Network : Mk K (He.ga K "Network") (He.ma K (He.ga K "Network") "__init__")
  mk_Ages : Mk K (He.ga K "Ages") (He.ma K (He.ga K "Ages") "__init__")
  mk_Mail : Mk K (He.ga K "Mail") (He.ma K (He.ga K "Mail") "__init__")
  mk_Numbered : Mk K (He.ga K "Numbered") (He.ma K (He.ga K "Numbered") "__init__")
  m_Numbered_create : Meth K (He.ga K "Numbered") "create" (He.ma K (He.ga K "Numbered") "create")
  mk_Item : Mk K (He.ga K "Item") (He.ma K (He.ga K "Item") "__init__")
  mk_Site : Mk K (He.ga K "Site") (He.ma K (He.ga K "Site") "__init__")
  m_Site_make : Meth K (He.ga K "Site") "make" (He.ma K (He.ga K "Site") "make")
  m_Site_assign : Meth K (He.ga K "Site") "assign" (He.ma K (He.ga K "Site") "assign")
  m_Site_reset : Meth K (He.ga K "Site") "reset" (He.ma K (He.ga K "Site") "reset")
  m_Site_look : Meth K (He.ga K "Site") "look" (He.ma K (He.ga K "Site") "look")
  m_Site_check_variable : Meth K (He.ga K "Site") "_check_variable" (He.ma K (He.ga K "Site") "_check_variable")
  m_Site_reference : Meth K (He.ga K "Site") "_reference" (He.ma K (He.ga K "Site") "_reference")
  m_Site_near_item : Meth K (He.ga K "Site") "_near_item" (He.ma K (He.ga K "Site") "_near_item")
  mk_World : Mk K (He.ga K "World") (He.ma K (He.ga K "World") "__init__")
  m_World_site : Meth K (He.ga K "World") "_site" (He.ma K (He.ga K "World") "_site")
  m_World_make : Meth K (He.ga K "World") "make" (He.ma K (He.ga K "World") "make")
  m_World_assign : Meth K (He.ga K "World") "assign" (He.ma K (He.ga K "World") "assign")
  m_World_reset : Meth K (He.ga K "World") "reset" (He.ma K (He.ga K "World") "reset")
  m_World_look : Meth K (He.ga K "World") "look" (He.ma K (He.ga K "World") "look")
  m_World_variables : Meth K (He.ga K "World") "variables" (He.ma K (He.ga K "World") "variables")
  m_World_inbox : Meth K (He.ga K "World") "inbox" (He.ma K (He.ga K "World") "inbox")
  m_World_objects : Meth K (He.ga K "World") "objects" (He.ma K (He.ga K "World") "objects")
  m_World_fields : Meth K (He.ga K "World") "fields" (He.ma K (He.ga K "World") "fields")
  g_law_is_integer : mg "_law_is_integer" = some (.ref (He.ga K "_law_is_integer"))
  g_law_number : mg "_law_number" = some (.ref (He.ga K "_law_number"))
  g_law_cell : mg "_law_cell" = some (.ref (He.ga K "_law_cell"))
  g_law_makes : mg "_law_makes" = some (.ref (He.ga K "_law_makes"))
  g_law_looks : mg "_law_looks" = some (.ref (He.ga K "_law_looks"))
  g_law_holds : mg "_law_holds" = some (.ref (He.ga K "_law_holds"))
  g_law_ends_well : mg "_law_ends_well" = some (.ref (He.ga K "_law_ends_well"))
  g_law : mg "law" = some (.ref (He.ga K "law"))
  z_list : mg "list" = none
  z_enumerate : mg "enumerate" = none
  z_min : mg "min" = none
  z_len : mg "len" = none
  z_property : mg "property" = none
  z_iter : mg "iter" = none
  z_max : mg "max" = none
  z_range : mg "range" = none
  z_all : mg "all" = none
  z_sorted : mg "sorted" = none
  z_isinstance : mg "isinstance" = none
  z_int : mg "int" = none
  z_bool : mg "bool" = none
  z_tuple : mg "tuple" = none
  x_Unknown : PySem.W.excIn K (He.ga K "Unknown") He.veBase "ValueError.__new__" = true ∧ PySem.W.keepIn K (.ref (He.ga K "Unknown")) = true ∧ PySem.W.subIn K (.ref (He.ga K "Unknown")) (.type "BaseException") = some true ∧ PySem.W.typeIn K (.ref (He.ga K "Unknown")) = some (.type "type")
  x_Empty : PySem.W.excIn K (He.ga K "Empty") He.veBase "ValueError.__new__" = true ∧ PySem.W.keepIn K (.ref (He.ga K "Empty")) = true ∧ PySem.W.subIn K (.ref (He.ga K "Empty")) (.type "BaseException") = some true ∧ PySem.W.typeIn K (.ref (He.ga K "Empty")) = some (.type "type")
  x_NotNear : PySem.W.excIn K (He.ga K "NotNear") He.veBase "ValueError.__new__" = true ∧ PySem.W.keepIn K (.ref (He.ga K "NotNear")) = true ∧ PySem.W.subIn K (.ref (He.ga K "NotNear")) (.type "BaseException") = some true ∧ PySem.W.typeIn K (.ref (He.ga K "NotNear")) = some (.type "type")
  x_NotFar : PySem.W.excIn K (He.ga K "NotFar") He.veBase "ValueError.__new__" = true ∧ PySem.W.keepIn K (.ref (He.ga K "NotFar")) = true ∧ PySem.W.subIn K (.ref (He.ga K "NotFar")) (.type "BaseException") = some true ∧ PySem.W.typeIn K (.ref (He.ga K "NotFar")) = some (.type "type")
  c_VARIABLES : ∃ t, mg "VARIABLES" = some (.int 8 t)
  u_Empty_Empty : PySem.W.exmOne K (.ref (He.ga K "Empty")) (.ref (He.ga K "Empty")) = some true
  u_Unknown_Empty : PySem.W.exmOne K (.ref (He.ga K "Unknown")) (.ref (He.ga K "Empty")) = some false
  u_NotNear_Empty : PySem.W.exmOne K (.ref (He.ga K "NotNear")) (.ref (He.ga K "Empty")) = some false
  ec_Empty : ExcC K (He.ga K "Empty")
  k_Empty_FarheapError : PySem.W.kitOne K (.ref (He.ga K "Empty")) (.ref (He.ga K "FarheapError")) = some true
  k_Empty_Unknown : PySem.W.kitOne K (.ref (He.ga K "Empty")) (.ref (He.ga K "Unknown")) = some false
  fd_check_index : FuncData
  F_check_index : FunD K "check_index" "check_index" (defArgs s_check_index) (defBody s_check_index) (defScope s_check_index) [] [] (He.ga K "check_index") fd_check_index
  fd_Outgoing_init : FuncData
  F_Outgoing_init : FunD K "__init__" "Outgoing.__init__" (defArgs s_Outgoing_init) (defBody s_Outgoing_init) (defScope s_Outgoing_init) [] [] (He.ma K (He.ga K "Outgoing") "__init__") fd_Outgoing_init
  fd_Incoming_init : FuncData
  F_Incoming_init : FunD K "__init__" "Incoming.__init__" (defArgs s_Incoming_init) (defBody s_Incoming_init) (defScope s_Incoming_init) [] [] (He.ma K (He.ga K "Incoming") "__init__") fd_Incoming_init
  fd_Network_init : FuncData
  F_Network_init : FunD K "__init__" "Network.__init__" (defArgs s_Network_init) (defBody s_Network_init) (defScope s_Network_init) [] [] (He.ma K (He.ga K "Network") "__init__") fd_Network_init
  fd_Ages_init : FuncData
  F_Ages_init : FunD K "__init__" "Ages.__init__" (defArgs s_Ages_init) (defBody s_Ages_init) (defScope s_Ages_init) [] [] (He.ma K (He.ga K "Ages") "__init__") fd_Ages_init
  fd_Mail_init : FuncData
  F_Mail_init : FunD K "__init__" "Mail.__init__" (defArgs s_Mail_init) (defBody s_Mail_init) (defScope s_Mail_init) [] [] (He.ma K (He.ga K "Mail") "__init__") fd_Mail_init
  fd_Numbered_init : FuncData
  F_Numbered_init : FunD K "__init__" "Numbered.__init__" (defArgs s_Numbered_init) (defBody s_Numbered_init) (defScope s_Numbered_init) [] [] (He.ma K (He.ga K "Numbered") "__init__") fd_Numbered_init
  fd_Numbered_create : FuncData
  F_Numbered_create : FunD K "create" "Numbered.create" (defArgs s_Numbered_create) (defBody s_Numbered_create) (defScope s_Numbered_create) [] [] (He.ma K (He.ga K "Numbered") "create") fd_Numbered_create
  fd_Item_init : FuncData
  F_Item_init : FunD K "__init__" "Item.__init__" (defArgs s_Item_init) (defBody s_Item_init) (defScope s_Item_init) [] [] (He.ma K (He.ga K "Item") "__init__") fd_Item_init
  fd_Site_init : FuncData
  F_Site_init : FunD K "__init__" "Site.__init__" (defArgs s_Site_init) (defBody s_Site_init) (defScope s_Site_init) [] [] (He.ma K (He.ga K "Site") "__init__") fd_Site_init
  fd_Site_make : FuncData
  F_Site_make : FunD K "make" "Site.make" (defArgs s_Site_make) (defBody s_Site_make) (defScope s_Site_make) [] [] (He.ma K (He.ga K "Site") "make") fd_Site_make
  fd_Site_assign : FuncData
  F_Site_assign : FunD K "assign" "Site.assign" (defArgs s_Site_assign) (defBody s_Site_assign) (defScope s_Site_assign) [] [] (He.ma K (He.ga K "Site") "assign") fd_Site_assign
  fd_Site_reset : FuncData
  F_Site_reset : FunD K "reset" "Site.reset" (defArgs s_Site_reset) (defBody s_Site_reset) (defScope s_Site_reset) [] [] (He.ma K (He.ga K "Site") "reset") fd_Site_reset
  fd_Site_look : FuncData
  F_Site_look : FunD K "look" "Site.look" (defArgs s_Site_look) (defBody s_Site_look) (defScope s_Site_look) [] [] (He.ma K (He.ga K "Site") "look") fd_Site_look
  fd_Site_check_variable : FuncData
  F_Site_check_variable : FunD K "_check_variable" "Site._check_variable" (defArgs s_Site_check_variable) (defBody s_Site_check_variable) (defScope s_Site_check_variable) [] [] (He.ma K (He.ga K "Site") "_check_variable") fd_Site_check_variable
  fd_Site_reference : FuncData
  F_Site_reference : FunD K "_reference" "Site._reference" (defArgs s_Site_reference) (defBody s_Site_reference) (defScope s_Site_reference) [] [] (He.ma K (He.ga K "Site") "_reference") fd_Site_reference
  fd_Site_near_item : FuncData
  F_Site_near_item : FunD K "_near_item" "Site._near_item" (defArgs s_Site_near_item) (defBody s_Site_near_item) (defScope s_Site_near_item) [] [] (He.ma K (He.ga K "Site") "_near_item") fd_Site_near_item
  fd_World_init : FuncData
  F_World_init : FunD K "__init__" "World.__init__" (defArgs s_World_init) (defBody s_World_init) (defScope s_World_init) [] [] (He.ma K (He.ga K "World") "__init__") fd_World_init
  fd_World_site : FuncData
  F_World_site : FunD K "_site" "World._site" (defArgs s_World_site) (defBody s_World_site) (defScope s_World_site) [] [] (He.ma K (He.ga K "World") "_site") fd_World_site
  fd_World_make : FuncData
  F_World_make : FunD K "make" "World.make" (defArgs s_World_make) (defBody s_World_make) (defScope s_World_make) [] [("size", .int 0), ("mark", .int 0)] (He.ma K (He.ga K "World") "make") fd_World_make
  fd_World_assign : FuncData
  F_World_assign : FunD K "assign" "World.assign" (defArgs s_World_assign) (defBody s_World_assign) (defScope s_World_assign) [] [] (He.ma K (He.ga K "World") "assign") fd_World_assign
  fd_World_reset : FuncData
  F_World_reset : FunD K "reset" "World.reset" (defArgs s_World_reset) (defBody s_World_reset) (defScope s_World_reset) [] [] (He.ma K (He.ga K "World") "reset") fd_World_reset
  fd_World_look : FuncData
  F_World_look : FunD K "look" "World.look" (defArgs s_World_look) (defBody s_World_look) (defScope s_World_look) [] [] (He.ma K (He.ga K "World") "look") fd_World_look
  fd_World_variables : FuncData
  F_World_variables : FunD K "variables" "World.variables" (defArgs s_World_variables) (defBody s_World_variables) (defScope s_World_variables) [] [] (He.ma K (He.ga K "World") "variables") fd_World_variables
  fd_World_inbox : FuncData
  F_World_inbox : FunD K "inbox" "World.inbox" (defArgs s_World_inbox) (defBody s_World_inbox) (defScope s_World_inbox) [] [] (He.ma K (He.ga K "World") "inbox") fd_World_inbox
  fd_World_objects : FuncData
  F_World_objects : FunD K "objects" "World.objects" (defArgs s_World_objects) (defBody s_World_objects) (defScope s_World_objects) [] [] (He.ma K (He.ga K "World") "objects") fd_World_objects
  fd_World_fields : FuncData
  F_World_fields : FunD K "fields" "World.fields" (defArgs s_World_fields) (defBody s_World_fields) (defScope s_World_fields) [] [] (He.ma K (He.ga K "World") "fields") fd_World_fields
  fd_law_is_integer : FuncData
  F_law_is_integer : FunD K "_law_is_integer" "_law_is_integer" (defArgs s_law_is_integer) (defBody s_law_is_integer) (defScope s_law_is_integer) [] [] (He.ga K "_law_is_integer") fd_law_is_integer
  fd_law_number : FuncData
  F_law_number : FunD K "_law_number" "_law_number" (defArgs s_law_number) (defBody s_law_number) (defScope s_law_number) [] [] (He.ga K "_law_number") fd_law_number
  fd_law_cell : FuncData
  F_law_cell : FunD K "_law_cell" "_law_cell" (defArgs s_law_cell) (defBody s_law_cell) (defScope s_law_cell) [] [] (He.ga K "_law_cell") fd_law_cell
  fd_law_makes : FuncData
  F_law_makes : FunD K "_law_makes" "_law_makes" (defArgs s_law_makes) (defBody s_law_makes) (defScope s_law_makes) [] [] (He.ga K "_law_makes") fd_law_makes
  fd_law_looks : FuncData
  F_law_looks : FunD K "_law_looks" "_law_looks" (defArgs s_law_looks) (defBody s_law_looks) (defScope s_law_looks) [] [] (He.ga K "_law_looks") fd_law_looks
  fd_law_holds : FuncData
  F_law_holds : FunD K "_law_holds" "_law_holds" (defArgs s_law_holds) (defBody s_law_holds) (defScope s_law_holds) [] [] (He.ga K "_law_holds") fd_law_holds
  fd_law_ends_well : FuncData
  F_law_ends_well : FunD K "_law_ends_well" "_law_ends_well" (defArgs s_law_ends_well) (defBody s_law_ends_well) (defScope s_law_ends_well) [] [] (He.ga K "_law_ends_well") fd_law_ends_well
  fd_law : FuncData
  F_law : FunD K "law" "law" (defArgs s_law) (defBody s_law) (defScope s_law) [] [] (He.ga K "law") fd_law
section
variable {K : PySem.W.Frag} {mg : Str → Option Value}
theorem Txt.b_check_index (T : Txt K mg) : Binds K T.fd_check_index ["index", "count", "what"] [] := T.F_check_index.bindsN fun _ _ _ _ _ _ us hl => match us, hl with | [_, _, _], _ => rfl
theorem Txt.b_Outgoing_init (T : Txt K mg) : Binds K T.fd_Outgoing_init ["self"] [] := T.F_Outgoing_init.bindsN fun _ _ _ _ _ _ us hl => match us, hl with | [_], _ => rfl
theorem Txt.b_Incoming_init (T : Txt K mg) : Binds K T.fd_Incoming_init ["self"] [] := T.F_Incoming_init.bindsN fun _ _ _ _ _ _ us hl => match us, hl with | [_], _ => rfl
theorem Txt.b_Network_init (T : Txt K mg) : Binds K T.fd_Network_init ["self"] [] := T.F_Network_init.bindsN fun _ _ _ _ _ _ us hl => match us, hl with | [_], _ => rfl
theorem Txt.b_Ages_init (T : Txt K mg) : Binds K T.fd_Ages_init ["self"] [] := T.F_Ages_init.bindsN fun _ _ _ _ _ _ us hl => match us, hl with | [_], _ => rfl
theorem Txt.b_Mail_init (T : Txt K mg) : Binds K T.fd_Mail_init ["self", "number", "sites"] [] := T.F_Mail_init.bindsN fun _ _ _ _ _ _ us hl => match us, hl with | [_, _, _], _ => rfl
theorem Txt.b_Numbered_init (T : Txt K mg) : Binds K T.fd_Numbered_init ["self"] [] := T.F_Numbered_init.bindsN fun _ _ _ _ _ _ us hl => match us, hl with | [_], _ => rfl
theorem Txt.b_Numbered_create (T : Txt K mg) : Binds K T.fd_Numbered_create ["self", "thing"] [] := T.F_Numbered_create.bindsN fun _ _ _ _ _ _ us hl => match us, hl with | [_, _], _ => rfl
theorem Txt.b_Item_init (T : Txt K mg) : Binds K T.fd_Item_init ["self", "size", "mark"] [] := T.F_Item_init.bindsN fun _ _ _ _ _ _ us hl => match us, hl with | [_, _, _], _ => rfl
theorem Txt.b_Site_init (T : Txt K mg) : Binds K T.fd_Site_init ["self", "number", "sites"] [] := T.F_Site_init.bindsN fun _ _ _ _ _ _ us hl => match us, hl with | [_, _, _], _ => rfl
theorem Txt.b_Site_make (T : Txt K mg) : Binds K T.fd_Site_make ["self", "variable", "size", "mark"] [] := T.F_Site_make.bindsN fun _ _ _ _ _ _ us hl => match us, hl with | [_, _, _, _], _ => rfl
theorem Txt.b_Site_assign (T : Txt K mg) : Binds K T.fd_Site_assign ["self", "source", "target"] [] := T.F_Site_assign.bindsN fun _ _ _ _ _ _ us hl => match us, hl with | [_, _, _], _ => rfl
theorem Txt.b_Site_reset (T : Txt K mg) : Binds K T.fd_Site_reset ["self", "variable"] [] := T.F_Site_reset.bindsN fun _ _ _ _ _ _ us hl => match us, hl with | [_, _], _ => rfl
theorem Txt.b_Site_look (T : Txt K mg) : Binds K T.fd_Site_look ["self", "variable"] [] := T.F_Site_look.bindsN fun _ _ _ _ _ _ us hl => match us, hl with | [_, _], _ => rfl
theorem Txt.b_Site_check_variable (T : Txt K mg) : Binds K T.fd_Site_check_variable ["self", "variable"] [] := T.F_Site_check_variable.bindsN fun _ _ _ _ _ _ us hl => match us, hl with | [_, _], _ => rfl
theorem Txt.b_Site_reference (T : Txt K mg) : Binds K T.fd_Site_reference ["self", "variable"] [] := T.F_Site_reference.bindsN fun _ _ _ _ _ _ us hl => match us, hl with | [_, _], _ => rfl
theorem Txt.b_Site_near_item (T : Txt K mg) : Binds K T.fd_Site_near_item ["self", "variable"] [] := T.F_Site_near_item.bindsN fun _ _ _ _ _ _ us hl => match us, hl with | [_, _], _ => rfl
theorem Txt.b_World_init (T : Txt K mg) : Binds K T.fd_World_init ["self", "sites"] [] := T.F_World_init.bindsN fun _ _ _ _ _ _ us hl => match us, hl with | [_, _], _ => rfl
theorem Txt.b_World_site (T : Txt K mg) : Binds K T.fd_World_site ["self", "site"] [] := T.F_World_site.bindsN fun _ _ _ _ _ _ us hl => match us, hl with | [_, _], _ => rfl
theorem Txt.b_World_assign (T : Txt K mg) : Binds K T.fd_World_assign ["self", "site", "source", "target"] [] := T.F_World_assign.bindsN fun _ _ _ _ _ _ us hl => match us, hl with | [_, _, _, _], _ => rfl
theorem Txt.b_World_reset (T : Txt K mg) : Binds K T.fd_World_reset ["self", "site", "variable"] [] := T.F_World_reset.bindsN fun _ _ _ _ _ _ us hl => match us, hl with | [_, _, _], _ => rfl
theorem Txt.b_World_look (T : Txt K mg) : Binds K T.fd_World_look ["self", "site", "variable"] [] := T.F_World_look.bindsN fun _ _ _ _ _ _ us hl => match us, hl with | [_, _, _], _ => rfl
theorem Txt.b_World_variables (T : Txt K mg) : Binds K T.fd_World_variables ["self", "site"] [] := T.F_World_variables.bindsN fun _ _ _ _ _ _ us hl => match us, hl with | [_, _], _ => rfl
theorem Txt.b_World_inbox (T : Txt K mg) : Binds K T.fd_World_inbox ["self", "site"] [] := T.F_World_inbox.bindsN fun _ _ _ _ _ _ us hl => match us, hl with | [_, _], _ => rfl
theorem Txt.b_World_objects (T : Txt K mg) : Binds K T.fd_World_objects ["self", "site"] [] := T.F_World_objects.bindsN fun _ _ _ _ _ _ us hl => match us, hl with | [_, _], _ => rfl
theorem Txt.b_World_fields (T : Txt K mg) : Binds K T.fd_World_fields ["self", "site", "number"] [] := T.F_World_fields.bindsN fun _ _ _ _ _ _ us hl => match us, hl with | [_, _, _], _ => rfl
theorem Txt.b_law_is_integer (T : Txt K mg) : Binds K T.fd_law_is_integer ["actual"] [] := T.F_law_is_integer.bindsN fun _ _ _ _ _ _ us hl => match us, hl with | [_], _ => rfl
theorem Txt.b_law_number (T : Txt K mg) : Binds K T.fd_law_number ["cell", "k"] [] := T.F_law_number.bindsN fun _ _ _ _ _ _ us hl => match us, hl with | [_, _], _ => rfl
theorem Txt.b_law_cell (T : Txt K mg) : Binds K T.fd_law_cell ["script", "k"] [] := T.F_law_cell.bindsN fun _ _ _ _ _ _ us hl => match us, hl with | [_, _], _ => rfl
theorem Txt.b_law_makes (T : Txt K mg) : Binds K T.fd_law_makes ["world", "site", "variable", "part", "made"] [] := T.F_law_makes.bindsN fun _ _ _ _ _ _ us hl => match us, hl with | [_, _, _, _, _], _ => rfl
theorem Txt.b_law_looks (T : Txt K mg) : Binds K T.fd_law_looks ["world", "site", "variable", "contents", "made"] [] := T.F_law_looks.bindsN fun _ _ _ _ _ _ us hl => match us, hl with | [_, _, _, _, _], _ => rfl
theorem Txt.b_law_holds (T : Txt K mg) : Binds K T.fd_law_holds ["world", "site", "contents"] [] := T.F_law_holds.bindsN fun _ _ _ _ _ _ us hl => match us, hl with | [_, _, _], _ => rfl
theorem Txt.b_law_ends_well (T : Txt K mg) : Binds K T.fd_law_ends_well ["world", "sites", "contents", "made"] [] := T.F_law_ends_well.bindsN fun _ _ _ _ _ _ us hl => match us, hl with | [_, _, _, _], _ => rfl
theorem Txt.b_law (T : Txt K mg) : Binds K T.fd_law ["script"] [] := T.F_law.bindsN fun _ _ _ _ _ _ us hl => match us, hl with | [_], _ => rfl
end
/-! ### the promises -/
theorem ixN8 {v : Int} {n : Nat} (h : 0 ≤ v ∧ v < 8) (l : n = 8) : ixN n v = some v.toNat := by
  unfold ixN
  rw [if_pos h.1, if_pos (by omega)]
theorem add2 {K : PySem.W.Frag} {n : Nat} {i : Int} {S : SSt} {p : Addr} {H0 H H' : Hp} {m : Sl → Addr} {P : Sl → Prop} {o1 o2 : HO} (A : Part K n i S p H0 H m P) {a b : Addr} (x y : Sl) (s : Same H H') (ha : H a = none) (hb : H b = none) (nab : a ≠ b) (h1 : H' a = some o1) (h2 : H' b = some o2) (hx : ¬P x) (hy : ¬ P y) (nyx : y ≠ x)
    (hr1 : ∀ z, Ref n i S x z → P z) (hr2 : ∀ z, Ref n i S y z → z = x ∨ P z) (c1 : Cs K (mkS (upm m x a)) n i S H' x o1) (c2 : Cs K (mkS (upm (upm m x a) y b)) n i S H' y o2) : Part K n i S p H0 H' (upm (upm m x a) y b) (fun z => z = y ∨ (z = x ∨ P z)) := by
  refine (A.add x s ha h1 hx hr1 c1).put y h2 (A.free hb) (fun z hz => ?_) (fun z => z.elim nyx hy) hr2 c2
  rcases hz with rfl | hz
  · rw [upm_same]; exact nab
  · rw [upm_ne (show z ≠ x from fun e => hx (e ▸ hz))]
    intro e
    obtain ⟨u, e1, _⟩ := A.at_ z hz
    rw [e, hb] at e1
    cases e1
theorem tyesT {st : List (Option V)} {H : Hp} {Q : Bool → Hp → Prop} (h : Q true H) : tYes st H Q := h
abbrev cU (K : PySem.W.Frag) : Value := .ref (He.ga K "Unknown")
abbrev cE (K : PySem.W.Frag) : Value := .ref (He.ga K "Empty")
abbrev cNN (K : PySem.W.Frag) : Value := .ref (He.ga K "NotNear")
abbrev cNF (K : PySem.W.Frag) : Value := .ref (He.ga K "NotFar")
def spCheck (K : PySem.W.Frag) : Sp := fun vs H Q E => ∃ (i n : Int) (z : Str), vs = [.int i, .int n, .str z] ∧ z.length ≤ 100 ∧ (¬ (0 ≤ i ∧ i < n) → E (cU K) none H) ∧ (0 ≤ i ∧ i < n → Q .non H)
def spOutInit (K : PySem.W.Frag) : Sp := fun vs H Q _ => ∃ (p dx : Addr), vs = [.ref p] ∧ H p = some (.ins (He.ga K "Outgoing") dx []) ∧ ∀ l, H l = none → Q .non (upd (upd H l (.lst [])) p (.ins (He.ga K "Outgoing") dx (outgL l 0)))
def spIncInit (K : PySem.W.Frag) : Sp := fun vs H Q _ => ∃ (p dx : Addr), vs = [.ref p] ∧ H p = some (.ins (He.ga K "Incoming") dx []) ∧ Q .non (upd H p (.ins (He.ga K "Incoming") dx (incmL 0)))
def spNetInit (K : PySem.W.Frag) : Sp := fun vs H Q _ => ∃ (p dx : Addr), vs = [.ref p] ∧ H p = some (.ins (He.ga K "Network") dx []) ∧ ∀ l, H l = none → Q .non (upd (upd H l (.lst [])) p (.ins (He.ga K "Network") dx (netwL l)))
def spAgesInit (K : PySem.W.Frag) : Sp := fun vs H Q _ => ∃ (p dx : Addr), vs = [.ref p] ∧ H p = some (.ins (He.ga K "Ages") dx []) ∧ Q .non (upd H p (.ins (He.ga K "Ages") dx (agesL S0)))
def spNumInit (K : PySem.W.Frag) : Sp := fun vs H Q _ => ∃ (p dx : Addr), vs = [.ref p] ∧ H p = some (.ins (He.ga K "Numbered") dx []) ∧ ∀ d, H d = none → Q .non (upd (upd H d (.dK [])) p (.ins (He.ga K "Numbered") dx (numL d 0)))
def spItemInit (K : PySem.W.Frag) : Sp := fun vs H Q _ => ∃ (p dx : Addr) (size mark : Int), vs = [.ref p, .int size, .int mark] ∧ size ≤ 100000 ∧ -100000 ≤ size ∧ H p = some (.ins (He.ga K "Item") dx []) ∧
  ∀ (l : Addr) (H' : Hp), H l = none → H' p = some (.ins (He.ga K "Item") dx (itemF l mark)) → H' l = some (.lst (List.replicate size.toNat .non)) → (∀ b o, H b = some o → b ≠ p → H' b = some o) → Q .non H'
def spMailInit (K : PySem.W.Frag) : Sp := fun vs H Q _ => ∃ (p dx : Addr) (i : Int) (n : Nat), vs = [.ref p, .int i, .int n] ∧ n ≤ 1000 ∧ H p = some (.ins (He.ga K "Mail") dx []) ∧
  ∀ (H' : Hp) (m : Sl → Addr), Part K n i S0 p H H' m (PMail n i) → H' p = some (.ins (He.ga K "Mail") dx (mailL (mkS m) i)) → Q .non H'
def spSiteInit (K : PySem.W.Frag) : Sp := fun vs H Q _ => ∃ (p dx : Addr) (i : Int) (n : Nat), vs = [.ref p, .int i, .int n] ∧ n ≤ 1000 ∧ H p = some (.ins (He.ga K "Site") dx []) ∧
  ∀ (H' : Hp) (m : Sl → Addr), Part K n i S0 p H H' m (fun x => x ≠ .site ∧ Ds n i S0 x) → H' p = some (.ins (He.ga K "Site") dx (siteL (mkS m) i S0)) → Q .non H'
def spWorldInit (K : PySem.W.Frag) : Sp := fun vs H Q _ => ∃ (p dx : Addr) (n : Nat), vs = [.ref p, .int n] ∧ n ≤ 1000 ∧ H p = some (.ins (He.ga K "World") dx []) ∧
  ∀ (H' : Hp) (M : WS → Addr), WAt K M H' ⟨n, fun _ => S0, []⟩ → M .world = p → (∀ s, s ≠ .world → Dom ⟨n, fun _ => S0, []⟩ s → H (M s) = none) → (∀ b o, H b = some o → b ≠ p → H' b = some o) → Q .non H'
def spCreate (K : PySem.W.Frag) : Sp := fun vs H Q _ => ∃ (p dx d : Addr) (c : Int) (kvs : List (Key × V)) (v : V), vs = [.ref p, v] ∧ H p = some (.ins (He.ga K "Numbered") dx (numL d c)) ∧ H d = some (.dK kvs) ∧ kvs.length ≤ 1000000 ∧
  Q (.int c) (upd (upd H d (.dK (putK kvs (.inl c) v))) p (.ins (He.ga K "Numbered") dx (numL d (c + 1))))

theorem atI8 {v : Int} {xs : List V} {a : V} (h : 0 ≤ v ∧ v < 8) (l : xs.length = 8) (e : xs[v.toNat]? = some a) : atI xs v = some a := by
  unfold atI
  rw [ixN8 h l]
  exact e
theorem valV_map {f : Int → V} : ∀ {ns : List Int} {n : Int}, n ∈ ns → valV (ns.map fun n => ((Sum.inl n : Key), f n)) (Sum.inl n) = some (f n) := by
  intro ns n h
  unfold valV
  induction ns with
  | nil => cases h
  | cons m ms ih =>
    by_cases e : m = n
    · subst e
      simp
    · have h2 : n ∈ ms := by
        rcases List.mem_cons.mp h with h | h
        · exact absurd h.symm e
        · exact h
      have := ih h2
      simp [e] at this ⊢
      exact this
theorem wset_set {W : WSt} {i : Int} {S S' : SSt} : (W.set i S).set i S' = W.set i S' := by
  unfold WSt.set
  congr 1
  funext j
  by_cases e : j = i
  · simp [e]
  · simp [e]
theorem valV_nomap {f : Int → V} : ∀ {ns : List Int} {n : Int}, n ∉ ns → valV (ns.map fun n => ((Sum.inl n : Key), f n)) (Sum.inl n) = none := by
  intro ns n h
  unfold valV
  rw [List.find?_eq_none.mpr]
  · rfl
  · intro p hp e
    obtain ⟨m, hm, rfl⟩ := List.mem_map.mp hp
    have := of_decide_eq_true e
    exact h (Sum.inl.inj this ▸ hm)
theorem sitesL_get {n k : Nat} (h : k < n) : (sitesL n)[k]? = some (k : Int) := by
  unfold sitesL
  rw [List.getElem?_map, List.getElem?_range h]
  rfl
def spCkV (K : PySem.W.Frag) : Sp := fun vs H Q E => ∃ (p : Addr) (v : Int), vs = [.ref p, .int v] ∧ (¬ (0 ≤ v ∧ v < 8) → E (cU K) none H) ∧ (0 ≤ v ∧ v < 8 → Q .non H)
def spSMake (K : PySem.W.Frag) : Sp := fun vs H Q E => ∃ (M : WS → Addr) (W : WSt) (i v k mk : Int), vs = [.ref (M (.of i .site)), .int v, .int k, .int mk] ∧ WAt K M H W ∧ i ∈ sitesL W.n ∧ (W.st i).vars.length = 8 ∧ (W.st i).oc ∉ (W.st i).objs ∧ (W.st i).objs.length ≤ 100000 ∧ k ≤ 100000 ∧ -100000 ≤ k ∧
  (¬ (0 ≤ v ∧ v < 8) → E (cU K) none H) ∧ (0 ≤ v ∧ v < 8 → ∀ (M' : WS → Addr) (H' : Hp) (a : V), M' .world = M .world → WAt K M' H' (W.set i (((W.st i).add k.toNat mk).setv v.toNat (some (i, (W.st i).oc)))) → (∀ T, Ch T M W H M' (W.set i (((W.st i).add k.toNat mk).setv v.toNat (some (i, (W.st i).oc)))) H') → TD H' a (dRf (i, (W.st i).oc)) → Q a H')
def spSAssign (K : PySem.W.Frag) : Sp := fun vs H Q E => ∃ (M : WS → Addr) (W : WSt) (i v t : Int), vs = [.ref (M (.of i .site)), .int v, .int t] ∧ WAt K M H W ∧ i ∈ sitesL W.n ∧ (W.st i).vars.length = 8 ∧
  (¬ ((0 ≤ v ∧ v < 8) ∧ (0 ≤ t ∧ t < 8)) → E (cU K) none H) ∧ ((0 ≤ v ∧ v < 8) ∧ (0 ≤ t ∧ t < 8) → ∀ (r : Option Rf) (H' : Hp), (W.st i).vars[v.toNat]? = some r → WAt K M H' (W.set i ((W.st i).setv t.toNat r)) → (∀ T, Ch T M W H M (W.set i ((W.st i).setv t.toNat r)) H') → Q .non H')
def spSReset (K : PySem.W.Frag) : Sp := fun vs H Q E => ∃ (M : WS → Addr) (W : WSt) (i v : Int), vs = [.ref (M (.of i .site)), .int v] ∧ WAt K M H W ∧ i ∈ sitesL W.n ∧ (W.st i).vars.length = 8 ∧
  (¬ (0 ≤ v ∧ v < 8) → E (cU K) none H) ∧ (0 ≤ v ∧ v < 8 → ∀ (H' : Hp), WAt K M H' (W.set i ((W.st i).setv v.toNat none)) → (∀ T, Ch T M W H M (W.set i ((W.st i).setv v.toNat none)) H') → Q .non H')
def spSRef (K : PySem.W.Frag) : Sp := fun vs H Q E => ∃ (M : WS → Addr) (W : WSt) (i v : Int), vs = [.ref (M (.of i .site)), .int v] ∧ WAt K M H W ∧ i ∈ sitesL W.n ∧ (W.st i).vars.length = 8 ∧ (0 ≤ v ∧ v < 8) ∧
  ((W.st i).vars[v.toNat]? = some none → E (cE K) none H) ∧ (∀ r a, (W.st i).vars[v.toNat]? = some (some r) → TD H a (dRf r) → Q a H)
def spSNear (K : PySem.W.Frag) : Sp := fun vs H Q E => ∃ (M : WS → Addr) (W : WSt) (i v : Int), vs = [.ref (M (.of i .site)), .int v] ∧ WAt K M H W ∧ i ∈ sitesL W.n ∧ (W.st i).vars.length = 8 ∧ (0 ≤ v ∧ v < 8) ∧
  ((W.st i).vars[v.toNat]? = some none → E (cE K) none H) ∧ (∀ r, (W.st i).vars[v.toNat]? = some (some r) → r.1 ≠ i → E (cNN K) none H) ∧ (∀ n, (W.st i).vars[v.toNat]? = some (some (i, n)) → n ∈ (W.st i).objs ∧ (n ∈ (W.st i).objs → Q (.ref (M (.of i (.item n)))) H))
def spSLook (K : PySem.W.Frag) : Sp := fun vs H Q E => ∃ (M : WS → Addr) (W : WSt) (i v : Int), vs = [.ref (M (.of i .site)), .int v] ∧ WAt K M H W ∧ i ∈ sitesL W.n ∧ (W.st i).vars.length = 8 ∧ (¬ (0 ≤ v ∧ v < 8) → E (cU K) none H) ∧ ((0 ≤ v ∧ v < 8) →
  ((W.st i).vars[v.toNat]? = some none → E (cE K) none H) ∧ (∀ r, (W.st i).vars[v.toNat]? = some (some r) → r.1 ≠ i → E (cNN K) none H) ∧ (∀ n, (W.st i).vars[v.toNat]? = some (some (i, n)) → n ∈ (W.st i).objs ∧ (n ∈ (W.st i).objs → Q (.int ((W.st i).itm n).mark) H)))
def spWSite (K : PySem.W.Frag) : Sp := fun vs H Q E => ∃ (M : WS → Addr) (W : WSt) (i : Int), vs = [.ref (M .world), .int i] ∧ WAt K M H W ∧ W.n ≤ 1000 ∧ (i ∉ sitesL W.n → E (cU K) none H) ∧ (i ∈ sitesL W.n → Q (.ref (M (.of i .site))) H)
def spWMake (K : PySem.W.Frag) : Sp := fun vs H Q E => ∃ (M : WS → Addr) (W : WSt) (i v k mk : Int), vs = [.ref (M .world), .int i, .int v, .int k, .int mk] ∧ WAt K M H W ∧ W.n ≤ 1000 ∧ (i ∉ sitesL W.n → E (cU K) none H) ∧ (i ∈ sitesL W.n → (W.st i).vars.length = 8 ∧ (W.st i).oc ∉ (W.st i).objs ∧ (W.st i).objs.length ≤ 100000 ∧ k ≤ 100000 ∧ -100000 ≤ k ∧
  (¬ (0 ≤ v ∧ v < 8) → E (cU K) none H) ∧ (0 ≤ v ∧ v < 8 → ∀ (M' : WS → Addr) (H' : Hp) (a : V), M' .world = M .world → WAt K M' H' (W.set i (((W.st i).add k.toNat mk).setv v.toNat (some (i, (W.st i).oc)))) → (∀ T, Ch T M W H M' (W.set i (((W.st i).add k.toNat mk).setv v.toNat (some (i, (W.st i).oc)))) H') → TD H' a (dRf (i, (W.st i).oc)) → Q a H'))
def spWAssign (K : PySem.W.Frag) : Sp := fun vs H Q E => ∃ (M : WS → Addr) (W : WSt) (i v t : Int), vs = [.ref (M .world), .int i, .int v, .int t] ∧ WAt K M H W ∧ W.n ≤ 1000 ∧ (i ∉ sitesL W.n → E (cU K) none H) ∧ (i ∈ sitesL W.n → (W.st i).vars.length = 8 ∧
  (¬ ((0 ≤ v ∧ v < 8) ∧ (0 ≤ t ∧ t < 8)) → E (cU K) none H) ∧ ((0 ≤ v ∧ v < 8) ∧ (0 ≤ t ∧ t < 8) → ∀ (r : Option Rf) (H' : Hp), (W.st i).vars[v.toNat]? = some r → WAt K M H' (W.set i ((W.st i).setv t.toNat r)) → (∀ T, Ch T M W H M (W.set i ((W.st i).setv t.toNat r)) H') → Q .non H'))
def spWReset (K : PySem.W.Frag) : Sp := fun vs H Q E => ∃ (M : WS → Addr) (W : WSt) (i v : Int), vs = [.ref (M .world), .int i, .int v] ∧ WAt K M H W ∧ W.n ≤ 1000 ∧ (i ∉ sitesL W.n → E (cU K) none H) ∧ (i ∈ sitesL W.n → (W.st i).vars.length = 8 ∧
  (¬ (0 ≤ v ∧ v < 8) → E (cU K) none H) ∧ (0 ≤ v ∧ v < 8 → ∀ (H' : Hp), WAt K M H' (W.set i ((W.st i).setv v.toNat none)) → (∀ T, Ch T M W H M (W.set i ((W.st i).setv v.toNat none)) H') → Q .non H'))
def spWLook (K : PySem.W.Frag) : Sp := fun vs H Q E => ∃ (M : WS → Addr) (W : WSt) (i v : Int), vs = [.ref (M .world), .int i, .int v] ∧ WAt K M H W ∧ W.n ≤ 1000 ∧ (i ∉ sitesL W.n → E (cU K) none H) ∧ (i ∈ sitesL W.n → (W.st i).vars.length = 8 ∧ (¬ (0 ≤ v ∧ v < 8) → E (cU K) none H) ∧ ((0 ≤ v ∧ v < 8) →
  ((W.st i).vars[v.toNat]? = some none → E (cE K) none H) ∧ (∀ r, (W.st i).vars[v.toNat]? = some (some r) → r.1 ≠ i → E (cNN K) none H) ∧ (∀ n, (W.st i).vars[v.toNat]? = some (some (i, n)) → n ∈ (W.st i).objs ∧ (n ∈ (W.st i).objs → Q (.int ((W.st i).itm n).mark) H))))
def spWVars (K : PySem.W.Frag) : Sp := fun vs H Q E => ∃ (M : WS → Addr) (W : WSt) (i : Int), vs = [.ref (M .world), .int i] ∧ WAt K M H W ∧ W.n ≤ 1000 ∧ (i ∉ sitesL W.n → E (cU K) none H) ∧ (i ∈ sitesL W.n → (W.st i).vars.length = 8 ∧ ∀ l xs, H l = none → TDs H xs ((W.st i).vars.map dOr) → Q (.ref l) (upd H l (.lst xs)))
def spWInbox (K : PySem.W.Frag) : Sp := fun vs H Q E => ∃ (M : WS → Addr) (W : WSt) (i : Int), vs = [.ref (M .world), .int i] ∧ WAt K M H W ∧ W.n ≤ 1000 ∧ (i ∉ sitesL W.n → E (cU K) none H) ∧ (i ∈ sitesL W.n → (W.st i).inbox.length ≤ 1000000 ∧ ∀ l xs, H l = none → TDs H xs ((W.st i).inbox.map dRf) → Q (.ref l) (upd H l (.lst xs)))
def spWObjs (K : PySem.W.Frag) : Sp := fun vs H Q E => ∃ (M : WS → Addr) (W : WSt) (i : Int), vs = [.ref (M .world), .int i] ∧ WAt K M H W ∧ W.n ≤ 1000 ∧ (i ∉ sitesL W.n → E (cU K) none H) ∧ (i ∈ sitesL W.n → (W.st i).objs.length ≤ 1000000 ∧ (W.st i).objs.Pairwise (· < ·) ∧ ∀ l, H l = none → Q (.ref l) (upd H l (.lst ((W.st i).objs.map V.int))))
def spWFields (K : PySem.W.Frag) : Sp := fun vs H Q E => ∃ (M : WS → Addr) (W : WSt) (i n : Int), vs = [.ref (M .world), .int i, .int n] ∧ WAt K M H W ∧ W.n ≤ 1000 ∧ (i ∉ sitesL W.n → E (cU K) none H) ∧ (i ∈ sitesL W.n → (n ∉ (W.st i).objs → E (cU K) none H) ∧ (n ∈ (W.st i).objs → ((W.st i).itm n).flds.length ≤ 100000 ∧ ∀ l xs, H l = none → TDs H xs (((W.st i).itm n).flds.map dOr) → Q (.ref l) (upd H l (.lst xs))))

abbrev psM : List Str := ["self", "site", "variable", "size", "mark"]
theorem kw_none {K : PySem.W.Frag} {mg : Str → Option Value} (T : Txt K mg) : ∃ ds, Vals [V.int 0, V.int 0] ds ∧ Binds K T.fd_World_make psM ds :=
  FunD.binds0 T.F_World_make 3 (by simp) rfl fun D doc pm an cdv ct us ks h1 h2 => match us, ks, h1, h2 with
    | [_, _, _], [_, _], _, _ => ⟨_, _, _, _, _, _, rfl, rfl, _, _, _, _, _, _, rfl, rfl, rfl⟩
theorem kw_size {K : PySem.W.Frag} {mg : Str → Option Value} (T : Txt K mg) : ∃ mv, KBn K T.fd_World_make psM 3 ["size"] (fun us ws => us ++ (ws ++ mv)) (fun vs zs => vs ++ (zs ++ [V.int 0])) :=
  FunD.kbinds0 T.F_World_make 3 ["size"] [("mark", .int 0)] (fun us mv ws => us ++ (ws ++ mv)) (by simp) (by simp) (fun a b c => Vals.append a (Vals.append c b)) fun D doc pm an cdv ct us mv ws h1 h2 h3 => match us, mv, ws, h1, h2, h3 with
    | [_, _, _], [_], [_], _, _, _ => ⟨_, _, _, _, _, _, rfl, rfl, rfl⟩
theorem kw_mark {K : PySem.W.Frag} {mg : Str → Option Value} (T : Txt K mg) : ∃ mv, KBn K T.fd_World_make psM 3 ["mark"] (fun us ws => us ++ (mv ++ ws)) (fun vs zs => vs ++ ([V.int 0] ++ zs)) :=
  FunD.kbinds0 T.F_World_make 3 ["mark"] [("size", .int 0)] (fun us mv ws => us ++ (mv ++ ws)) (by simp) (by simp) (fun a b c => Vals.append a (Vals.append b c)) fun D doc pm an cdv ct us mv ws h1 h2 h3 => match us, mv, ws, h1, h2, h3 with
    | [_, _, _], [_], [_], _, _, _ => ⟨_, _, _, _, _, _, rfl, rfl, rfl⟩
theorem kw_both {K : PySem.W.Frag} {mg : Str → Option Value} (T : Txt K mg) : ∃ mv, KBn K T.fd_World_make psM 3 ["size", "mark"] (fun us ws => us ++ (ws ++ mv)) (fun vs zs => vs ++ (zs ++ [])) :=
  FunD.kbinds0 T.F_World_make 3 ["size", "mark"] [] (fun us mv ws => us ++ (ws ++ mv)) (by simp) (by simp) (fun a b c => Vals.append a (Vals.append c b)) fun D doc pm an cdv ct us mv ws h1 h2 h3 => match us, mv, ws, h1, h2, h3 with
    | [_, _, _], [], [_, _], _, _, _ => rfl

inductive L8 where
  | cA | mA | c (i : Int) | m (i : Int)
  deriving DecidableEq
def D8 (n : Nat) : L8 → Prop
  | .c i => i ∈ sitesL n
  | .m i => i ∈ sitesL n
  | _ => True
def dMk (p : Int × Int) : PyData := .tuple [.int p.1, .int p.2]
def C8 (N : L8 → Addr) (n : Nat) (cc : Int → List (Option Rf)) (mm : Int → List (Int × Int)) (H : Hp) : L8 → HO → Prop
  | .cA, o => o = .lst ((sitesL n).map fun i => V.ref (N (.c i)))
  | .mA, o => o = .lst ((sitesL n).map fun i => V.ref (N (.m i)))
  | .c i, o => ∃ vs, o = .lst vs ∧ TDs H vs ((cc i).map dOr)
  | .m i, o => ∃ vs, o = .lst vs ∧ TDs H vs ((mm i).map dMk)
def l8 (N : L8 → Addr) (n : Nat) (cc : Int → List (Option Rf)) (mm : Int → List (Int × Int)) : Lw L8 := ⟨C8 N n cc mm, fun {H H' x o} t h => by
  cases x <;> first
    | exact h
    | (obtain ⟨vs, e, h⟩ := h; exact ⟨vs, e, h.mono t⟩), fun {H x o} h => by
  cases x <;> first
    | (cases (show o = _ from h); exact ⟨rfl, fun xs z => (nomatch z)⟩)
    | (obtain ⟨vs, rfl, h⟩ := h; exact ⟨rfl, fun xs z => (nomatch z)⟩)⟩
structure Ok8 (W : WSt) (mm : Int → List (Int × Int)) : Prop where
  v : ∀ i ∈ sitesL W.n, (W.st i).vars.length = 8
  o : ∀ i ∈ sitesL W.n, (W.st i).objs = sitesL (mm i).length
  c : ∀ i ∈ sitesL W.n, (W.st i).oc = ((mm i).length : Int)
  t : ∀ i ∈ sitesL W.n, ∀ (n : Nat) p, (mm i)[n]? = some p → (W.st i).itm n = ⟨p.2, List.replicate p.1.toNat none⟩ ∧ 0 ≤ p.1 ∧ p.1 ≤ 8
  x : ∀ i ∈ sitesL W.n, (W.st i).inbox = []
  r : ∀ i ∈ sitesL W.n, ∀ r, some r ∈ (W.st i).vars → r.1 = i ∧ 0 ≤ r.2 ∧ r.2 < (mm i).length
structure I8 (K : PySem.W.Frag) (S : Addr) (ss : List Int) (N : L8 → Addr) (M : WS → Addr) (H : Hp) (W : WSt) (cc : Int → List (Option Rf)) (mm : Int → List (Int × Int)) (bd : Nat) : Prop where
  R : WAt K M H W
  A : LA N (D8 W.n) (l8 N W.n cc mm) M H W
  s : ScS K S (ss.map V.int) N (D8 W.n) M H W
  ok : Ok8 W mm
  n1 : 1 ≤ W.n
  n8 : W.n ≤ 8
  b : ∀ i ∈ sitesL W.n, (mm i).length ≤ bd
section
variable {K : PySem.W.Frag} {S : Addr} {ss : List Int} {N : L8 → Addr} {M : WS → Addr} {H H' : Hp} {W : WSt} {cc : Int → List (Option Rf)} {mm : Int → List (Int × Int)} {bd : Nat} {i : Int}
theorem I8.same (I : I8 K S ss N M H W cc mm bd) (s : Same H H') : I8 K S ss N M H' W cc mm bd := ⟨I.R.same s, I.A.same s, I.s.same s, I.ok, I.n1, I.n8, I.b⟩
theorem I8.row (I : I8 K S ss N M H W cc mm bd) (hi : i ∈ sitesL W.n) : ∃ vs, H (N (.c i)) = some (.lst vs) ∧ TDs H vs ((cc i).map dOr) := by
  obtain ⟨_, e, vs, rfl, t⟩ := I.A.at_ (.c i) hi
  exact ⟨vs, e, t⟩
theorem I8.mrow (I : I8 K S ss N M H W cc mm bd) (hi : i ∈ sitesL W.n) : ∃ vs, H (N (.m i)) = some (.lst vs) ∧ TDs H vs ((mm i).map dMk) := by
  obtain ⟨_, e, vs, rfl, t⟩ := I.A.at_ (.m i) hi
  exact ⟨vs, e, t⟩
theorem I8.cs (I : I8 K S ss N M H W cc mm bd) : H (N .cA) = some (.lst ((sitesL W.n).map fun i => V.ref (N (.c i)))) := by
  obtain ⟨_, e, h⟩ := I.A.at_ .cA trivial
  cases (show _ = _ from h)
  exact e
theorem I8.ms (I : I8 K S ss N M H W cc mm bd) : H (N .mA) = some (.lst ((sitesL W.n).map fun i => V.ref (N (.m i)))) := by
  obtain ⟨_, e, h⟩ := I.A.at_ .mA trivial
  cases (show _ = _ from h)
  exact e
theorem at_site {f : Int → V} {n : Nat} (hi : i ∈ sitesL n) : atI ((sitesL n).map f) i = some (f i) := by
  have := mem_sitesL.mp hi
  rw [show i = ((i.toNat : Nat) : Int) by omega]
  refine atI_nat ?_
  rw [List.getElem?_map, sitesL_get (by omega)]
  rfl
end
theorem td_pair {H : Hp} {a : V} {x y : Int} (h : TD H a (.tuple [.int x, .int y])) : ∃ b, a = .ref b ∧ H b = some (.tup [.int x, .int y]) := by
  cases h with
  | tup h t =>
    cases t with
    | cons h1 t =>
      cases t with
      | cons h2 t =>
        cases t
        cases h1
        cases h2
        exact ⟨_, rfl, h⟩
theorem two0 {x y : Int} : atI [V.int x, V.int y] 0 = some (V.int x) := atI_nat (j := 0) rfl
theorem two1 {x y : Int} : atI [V.int x, V.int y] 1 = some (V.int y) := atI_nat (j := 1) rfl
theorem lay_ors : ∀ {rs : List (Option Rf)}, PyData.canLayAll0 (rs.map dOr) = true
  | [] => rfl
  | none :: rs => by
    show PyData.canLayAll0 (PyData.none :: rs.map dOr) = true
    simp [PyData.canLayAll0, PyData.canLay0, lay_ors]
  | some r :: rs => by
    show PyData.canLayAll0 (PyData.tuple [.int r.1, .int r.2] :: rs.map dOr) = true
    simp [PyData.canLayAll0, PyData.canLay0, lay_ors]
theorem layl_ors {rs : List (Option Rf)} : (PyData.list (rs.map dOr)).canLay0 = true := by
  simp [PyData.canLay0, lay_ors]
theorem shaped_ors8 {rs : List (Option Rf)} : SeqAt.shaped (.list (rs.map dOr)) = true := by
  refine shaped_of layl_ors ?_
  show (PyData.depthAll (rs.map dOr)) + 1 ≤ 64
  have : PyData.depthAll (rs.map dOr) ≤ 1 := Ce.depthAll_le fun d hd => by
    obtain ⟨r, _, rfl⟩ := List.mem_map.mp hd
    cases r with
    | none => simp [dOr, PyData.depth]
    | some r => simp [dOr, dRf, PyData.depth, PyData.depthAll]
  omega
theorem shaped_ors {rs : List (Option Rf)} (h : rs.length = 8) : SeqAt.shaped (.list (rs.map dOr)) = true := by
  refine shaped_of layl_ors ?_
  show (PyData.depthAll (rs.map dOr)) + 1 ≤ 64
  have : PyData.depthAll (rs.map dOr) ≤ 1 := Ce.depthAll_le fun d hd => by
    obtain ⟨r, _, rfl⟩ := List.mem_map.mp hd
    cases r with
    | none => simp [dOr, PyData.depth]
    | some r => simp [dOr, dRf, PyData.depth, PyData.depthAll]
  omega
theorem eqv_ors {rs : List (Option Rf)} : PyData.eqv (.list (rs.map dOr)) (.list (rs.map dOr)) = true := SeqAt.eqv_refl _ layl_ors
theorem tds_app {H : Hp} : ∀ {vs ws : List V} {ds es : List PyData}, TDs H vs ds → TDs H ws es → TDs H (vs ++ ws) (ds ++ es)
  | _, _, _, _, .nil, h => h
  | _, _, _, _, .cons a t, h => .cons a (tds_app t h)
theorem Ok8.make {W : WSt} {mm : Int → List (Int × Int)} {i v k mk : Int} (O : Ok8 W mm) (hi : i ∈ sitesL W.n) (hv : 0 ≤ v ∧ v < 8) (k0 : 0 ≤ k) (k8 : k ≤ 8) :
    Ok8 (W.set i (((W.st i).add k.toNat mk).setv v.toNat (some (i, (W.st i).oc)))) (fun j => if j = i then mm i ++ [(k, mk)] else mm j) := by
  have ne : ∀ {j}, j ≠ i → (W.set i (((W.st i).add k.toNat mk).setv v.toNat (some (i, (W.st i).oc)))).st j = W.st j := fun h => WSt.set_ne h
  have oc := O.c i hi
  refine ⟨fun j hj => ?_, fun j hj => ?_, fun j hj => ?_, fun j hj => ?_, fun j hj => ?_, fun j hj => ?_⟩ <;> (by_cases e : j = i) <;> first
    | (subst e; rw [WSt.set_same, if_pos rfl])
    | (subst e; rw [WSt.set_same])
    | (rw [ne e, if_neg e])
    | (rw [ne e])
  · show ((W.st j).vars.set _ _).length = 8
    rw [List.length_set]
    exact O.v j hj
  · exact O.v j hj
  · show (W.st j).objs ++ [(W.st j).oc] = _
    rw [O.o j hj, oc, List.length_append]
    exact (sitesL_succ _).symm
  · exact O.o j hj
  · show (W.st j).oc + 1 = _
    rw [oc, List.length_append]
    rfl
  · exact O.c j hj
  · intro n p hp
    show (if (n : Int) = (W.st j).oc then (⟨mk, List.replicate k.toNat none⟩ : Itm) else (W.st j).itm n) = _ ∧ _
    rw [oc]
    by_cases h : n < (mm j).length
    · rw [List.getElem?_append_left h] at hp
      rw [if_neg (by omega)]
      exact O.t j hj n p hp
    · have hn : n = (mm j).length := by
        have := (List.getElem?_eq_some_iff.mp hp).1
        rw [List.length_append] at this
        simp at this
        omega
      subst hn
      rw [List.getElem?_append_right (Nat.le_refl _), Nat.sub_self] at hp
      cases hp
      rw [if_pos rfl]
      exact ⟨rfl, k0, k8⟩
  · exact O.t j hj
  · exact O.x j hj
  · exact O.x j hj
  · intro r hr
    rw [List.length_append]
    rcases List.mem_or_eq_of_mem_set (show some r ∈ (W.st j).vars.set v.toNat (some (j, (W.st j).oc)) from hr) with h | h
    · have := O.r j hj r h
      refine ⟨this.1, this.2.1, ?_⟩
      have := this.2.2
      simp
      omega
    · cases h
      refine ⟨rfl, ?_, ?_⟩
      · show 0 ≤ (W.st j).oc
        omega
      · show (W.st j).oc < _
        simp
        omega
  · exact O.r j hj
theorem lay_rf {r : Rf} : (dRf r).canLay0 = true := by simp [dRf, PyData.canLay0, PyData.canLayAll0]
theorem shaped_rf {r : Rf} : SeqAt.shaped (dRf r) = true := shaped_of lay_rf (by simp [dRf, PyData.depth, PyData.depthAll])
theorem eqv_rf {r : Rf} : PyData.eqv (dRf r) (dRf r) = true := SeqAt.eqv_refl _ lay_rf
theorem pw_sitesL (n : Nat) : (sitesL n).Pairwise (· < ·) := by
  unfold sitesL
  exact List.Pairwise.map _ (fun a b h => by show (a : Int) < b; omega) List.pairwise_lt_range
theorem rgV_sites (n : Nat) : rgV 0 (n : Int) = (sitesL n).map V.int := by
  unfold rgV sitesL
  rw [List.map_map, show ((n : Int) - 0).toNat = n by omega]
  exact List.map_congr_left fun i _ => by show V.int (0 + (i : Int)) = V.int i; rw [Int.zero_add]
theorem I8.setc {K : PySem.W.Frag} {S : Addr} {ss : List Int} {N : L8 → Addr} {M : WS → Addr} {H : Hp} {W : WSt} {cc : Int → List (Option Rf)} {mm : Int → List (Int × Int)} {bd : Nat} {i : Int} (I : I8 K S ss N M H W cc mm bd) (hi : i ∈ sitesL W.n) {vs : List V} (tv : TDs H vs ((cc i).map dOr)) (v : Nat) {a : V} {r : Option Rf} (ta : TD H a (dOr r)) :
    I8 K S ss N M (upd H (N (.c i)) (.lst (vs.set v a))) W (fun j => if j = i then (cc i).set v r else cc j) mm bd := by
  obtain ⟨A, R, _⟩ := I.A.put I.R (x := .c i) (o' := .lst (vs.set v a)) (L' := l8 N W.n (fun j => if j = i then (cc i).set v r else cc j) mm) hi ⟨_, rfl, by
    show TDs H _ ((if i = i then (cc i).set v r else cc i).map dOr)
    rw [if_pos rfl, List.map_set]
    exact tds_set tv v ta⟩ fun y o ne _ c => by
    cases y with
    | c j =>
      obtain ⟨vs, e, c⟩ := c
      refine ⟨vs, e, ?_⟩
      show TDs H _ ((if j = i then (cc i).set v r else cc j).map dOr)
      rw [if_neg fun z => ne (by rw [z])]
      exact c
    | _ => exact c
  exact ⟨R, A, I.s.put (x := .c i) hi, I.ok, I.n1, I.n8, I.b⟩
theorem I8.cc {K : PySem.W.Frag} {S : Addr} {ss : List Int} {N : L8 → Addr} {M : WS → Addr} {H : Hp} {W : WSt} {cc cc' : Int → List (Option Rf)} {mm : Int → List (Int × Int)} {bd : Nat} (I : I8 K S ss N M H W cc mm bd) (h : ∀ i, cc i = cc' i) : I8 K S ss N M H W cc' mm bd := by
  rw [show cc' = cc from (funext h).symm]
  exact I
theorem I8.up {K : PySem.W.Frag} {S : Addr} {ss : List Int} {N : L8 → Addr} {M : WS → Addr} {H : Hp} {W : WSt} {cc : Int → List (Option Rf)} {mm : Int → List (Int × Int)} {bd bd' : Nat} (I : I8 K S ss N M H W cc mm bd) (h : bd ≤ bd') : I8 K S ss N M H W cc mm bd' := ⟨I.R, I.A, I.s, I.ok, I.n1, I.n8, fun i hi => Nat.le_trans (I.b i hi) h⟩
/-- the world takes a step that leaves the numbers as they are -/
theorem I8.step {K : PySem.W.Frag} {S : Addr} {ss : List Int} {N : L8 → Addr} {M : WS → Addr} {H H' : Hp} {W : WSt} {cc : Int → List (Option Rf)} {mm : Int → List (Int × Int)} {bd : Nat} {i : Int} (I : I8 K S ss N M H W cc mm bd) (hi : i ∈ sitesL W.n) {t : Nat} {r : Option Rf} (hr : ∀ q, r = some q → some q ∈ (W.st i).vars)
    (R : WAt K M H' (W.set i ((W.st i).setv t r))) (C : ∀ T, Ch T M W H M (W.set i ((W.st i).setv t r)) H') : I8 K S ss N M H' (W.set i ((W.st i).setv t r)) cc mm bd := by
  refine ⟨R, I.A.ch (C (0, "")), I.s.ch (C (0, "")), ?_, I.n1, I.n8, I.b⟩
  have ne : ∀ {j}, j ≠ i → (W.set i ((W.st i).setv t r)).st j = W.st j := fun h => WSt.set_ne h
  have O := I.ok
  refine ⟨fun j hj => ?_, fun j hj => ?_, fun j hj => ?_, fun j hj => ?_, fun j hj => ?_, fun j hj => ?_⟩ <;> (by_cases e : j = i) <;> first
    | (subst e; rw [WSt.set_same])
    | (rw [ne e])
  · show ((W.st j).vars.set _ _).length = 8
    rw [List.length_set]
    exact O.v j hj
  · exact O.v j hj
  · exact O.o j hj
  · exact O.o j hj
  · exact O.c j hj
  · exact O.c j hj
  · exact O.t j hj
  · exact O.t j hj
  · exact O.x j hj
  · exact O.x j hj
  · intro q hq
    rcases List.mem_or_eq_of_mem_set (show some q ∈ (W.st j).vars.set t r from hq) with h | h
    · exact O.r j hj q h
    · exact O.r j hj q (hr q h.symm)
  · exact O.r j hj
structure RowsL (H0 H : Hp) (D : Addr) (j : Nat) (cs : Int → Addr) (vs : List V) : Prop where
  d : H D = some (.lst ((sitesL j).map fun i => V.ref (cs i)))
  d0 : H0 D = none
  r : ∀ i ∈ sitesL j, H (cs i) = some (.lst vs)
  fr : ∀ i ∈ sitesL j, H0 (cs i) = none
  nd : ∀ i ∈ sitesL j, cs i ≠ D
  inj : ∀ i ∈ sitesL j, ∀ i' ∈ sitesL j, cs i = cs i' → i = i'
  kp : Same H0 H
theorem RowsL.start {H0 : Hp} {D : Addr} {vs : List V} {cs : Int → Addr} (h : H0 D = none) : RowsL H0 (upd H0 D (.lst [])) D 0 cs vs := ⟨upd_same, h, fun i h => (by cases h), fun i h => (by cases h), fun i h => (by cases h), fun i h => (by cases h), Same.new h⟩
theorem RowsL.step {H0 H H' : Hp} {D x : Addr} {j : Nat} {cs : Int → Addr} {vs : List V} (A : RowsL H0 H D j cs vs) (s : Same H H') (hx : H x = none) (h : H' x = some (.lst vs)) :
    H' D = some (.lst ((sitesL j).map fun i => V.ref (cs i))) ∧ RowsL H0 (upd H' D (.lst (((sitesL j).map fun i => V.ref (cs i)) ++ [.ref x]))) D (j + 1) (fun i => if i = j then x else cs i) vs := by
  have hD := s _ _ A.d
  have nx : x ≠ D := fun e => by rw [e, A.d] at hx; cases hx
  have cases' : ∀ i ∈ sitesL (j + 1), (i ∈ sitesL j ∧ i ≠ j) ∨ i = j := fun i hi => by
    rw [sitesL_succ] at hi
    rcases List.mem_append.mp hi with hi | hi
    · exact .inl ⟨hi, by have := mem_sitesL.mp hi; omega⟩
    · exact .inr (List.mem_singleton.mp hi)
  refine ⟨hD, ⟨?_, A.d0, fun i hi => ?_, fun i hi => ?_, fun i hi => ?_, fun i hi i' hi' e => ?_, fun b o e => ?_⟩⟩
  · rw [upd_same, sitesL_succ, List.map_append]
    refine congrArg some (congrArg HO.lst (congr (congrArg _ (List.map_congr_left fun i hi => ?_)) ?_))
    · rw [if_neg (show i ≠ (j : Int) from by have := mem_sitesL.mp hi; omega)]
    · show _ = [V.ref _]
      rw [if_pos rfl]
  · rcases cases' i hi with ⟨h1, h2⟩ | h1
    · rw [if_neg h2, upd_ne (A.nd i h1)]
      exact s _ _ (A.r i h1)
    · rw [if_pos h1, upd_ne nx]
      exact h
  · rcases cases' i hi with ⟨h1, h2⟩ | h1
    · rw [if_neg h2]
      exact A.fr i h1
    · rw [if_pos h1]
      exact A.kp.free hx
  · rcases cases' i hi with ⟨h1, h2⟩ | h1
    · rw [if_neg h2]
      exact A.nd i h1
    · rw [if_pos h1]
      exact nx
  · rcases cases' i hi with ⟨h1, h2⟩ | h1 <;> rcases cases' i' hi' with ⟨h3, h4⟩ | h3
    · rw [if_neg h2, if_neg h4] at e
      exact A.inj i h1 i' h3 e
    · rw [if_neg h2, if_pos h3] at e
      have := A.r i h1
      rw [e, hx] at this
      cases this
    · rw [if_pos h1, if_neg h4] at e
      have := A.r i' h3
      rw [← e, hx] at this
      cases this
    · rw [h1, h3]
  · rw [upd_ne (ne_of_none e A.d0)]
    exact s _ _ (A.kp _ _ e)
def N8 (D1 D2 : Addr) (cs ms : Int → Addr) : L8 → Addr
  | .cA => D1
  | .mA => D2
  | .c i => cs i
  | .m i => ms i
abbrev W0 (n : Nat) : WSt := ⟨n, fun _ => S0, []⟩
theorem I8.start {K : PySem.W.Frag} {S : Addr} {ss : List Int} {M : WS → Addr} {H0 H1 H2 H3 : Hp} {n : Nat} {D1 D2 : Addr} {cs ms : Int → Addr} (R : WAt K M H1 (W0 n)) (a : RowsL H1 H2 D1 n cs (List.replicate 8 .non)) (b : RowsL H2 H3 D2 n ms []) (sq : SqL K H0 S (ss.map V.int))
    (k : ∀ b o, H0 b = some o → H1 b = some o) (fw : ∀ s, Dom (W0 n) s → H0 (M s) = none) (n1 : 1 ≤ n) (n8 : n ≤ 8) : I8 K S ss (N8 D1 D2 cs ms) M H3 (W0 n) (fun i => ((W0 n).st i).vars) (fun _ => []) 0 := by
  have k1 : Same H0 H1 := fun b o e => k b o e
  have fr : ∀ x, D8 n x → H1 (N8 D1 D2 cs ms x) = none := fun x hx => by
    cases x with
    | cA => exact a.d0
    | mA => exact a.kp.free b.d0
    | c i => exact a.fr i hx
    | m i => exact a.kp.free (b.fr i hx)
  refine ⟨(R.same a.kp).same b.kp, ⟨fun x hx => ?_, fun x y hx hy e => ?_, fun x hx s hs e => ?_⟩, ScS.of sq (fun b' o h _ => b.kp _ _ (a.kp _ _ (k1 _ _ h))) fw (fun x hx => k1.free (fr x hx)), ⟨fun i _ => rfl, fun i _ => rfl, fun i _ => rfl, fun i _ n p h => (by cases h), fun i _ => rfl, fun i _ r h => (nomatch (List.eq_of_mem_replicate (show some r ∈ List.replicate 8 none from h)))⟩, n1, n8, fun i _ => Nat.le_refl _⟩
  · cases x with
    | cA => exact ⟨_, b.kp _ _ a.d, rfl⟩
    | mA => exact ⟨_, b.d, rfl⟩
    | c i => exact ⟨_, b.kp _ _ (a.r i hx), _, rfl, tds_nons 8⟩
    | m i => exact ⟨_, b.r i hx, _, rfl, .nil⟩
  · have e1 : ∀ i ∈ sitesL n, D1 ≠ ms i := fun i hi => ne_of_none a.d (b.fr i hi)
    have e2 : ∀ i ∈ sitesL n, ∀ i' ∈ sitesL n, cs i ≠ ms i' := fun i hi i' hi' => ne_of_none (a.r i hi) (b.fr i' hi')
    have e3 : D1 ≠ D2 := ne_of_none a.d b.d0
    have e4 : ∀ i ∈ sitesL n, cs i ≠ D2 := fun i hi => ne_of_none (a.r i hi) b.d0
    cases x with
    | cA => cases y with
      | cA => rfl
      | mA => exact absurd e e3
      | c i => exact absurd e.symm (a.nd i hy)
      | m i => exact absurd e (e1 i hy)
    | mA => cases y with
      | cA => exact absurd e.symm e3
      | mA => rfl
      | c i => exact absurd e.symm (e4 i hy)
      | m i => exact absurd e.symm (b.nd i hy)
    | c j => cases y with
      | cA => exact absurd e (a.nd j hx)
      | mA => exact absurd e (e4 j hx)
      | c i => rw [a.inj j hx i hy e]
      | m i => exact absurd e (e2 j hx i hy)
    | m j => cases y with
      | cA => exact absurd e.symm (e1 j hx)
      | mA => exact absurd e (b.nd j hx)
      | c i => exact absurd e.symm (e2 i hy j hx)
      | m i => rw [b.inj j hx i hy e]
  · obtain ⟨o, e1, _⟩ := R.at_ s hs
    rw [← e, fr x hx] at e1
    cases e1
def spLooks8 (K : PySem.W.Frag) : Sp := fun vs H Q _ => ∃ (S : Addr) (ss : List Int) (N : L8 → Addr) (M : WS → Addr) (W : WSt) (mm : Int → List (Int × Int)) (bd : Nat) (i v : Int), vs = [.ref (M .world), .int i, .int v, .ref (N .cA), .ref (N .mA)] ∧ I8 K S ss N M H W (fun i => (W.st i).vars) mm bd ∧ i ∈ sitesL W.n ∧ (0 ≤ v ∧ v < 8) ∧ Q (.bl true) H
def spHolds8 (K : PySem.W.Frag) : Sp := fun vs H Q _ => ∃ (S : Addr) (ss : List Int) (N : L8 → Addr) (M : WS → Addr) (W : WSt) (mm : Int → List (Int × Int)) (bd : Nat) (i : Int), vs = [.ref (M .world), .int i, .ref (N .cA)] ∧ I8 K S ss N M H W (fun i => (W.st i).vars) mm bd ∧ i ∈ sitesL W.n ∧ ∀ H', Same H H' → Q (.bl true) H'
def spEnds8 (K : PySem.W.Frag) : Sp := fun vs H Q _ => ∃ (S : Addr) (ss : List Int) (N : L8 → Addr) (M : WS → Addr) (W : WSt) (mm : Int → List (Int × Int)) (bd : Nat), vs = [.ref (M .world), .int W.n, .ref (N .cA), .ref (N .mA)] ∧ I8 K S ss N M H W (fun i => (W.st i).vars) mm bd ∧ bd ≤ 100 ∧ ∀ H', Q (.bl true) H'
def spMakes8 (K : PySem.W.Frag) : Sp := fun vs H Q _ => ∃ (S : Addr) (ss : List Int) (N : L8 → Addr) (M : WS → Addr) (W : WSt) (cc : Int → List (Option Rf)) (mm : Int → List (Int × Int)) (bd : Nat) (i v z : Int), vs = [.ref (M .world), .int i, .int v, .int z, .ref (N .mA)] ∧ I8 K S ss N M H W cc mm bd ∧ bd ≤ 100 ∧ i ∈ sitesL W.n ∧ (0 ≤ v ∧ v < 8) ∧
  ∀ (M' : WS → Addr) (H' : Hp) (k mk : Int), M' .world = M .world → I8 K S ss N M' H' (W.set i (((W.st i).add k.toNat mk).setv v.toNat (some (i, (W.st i).oc)))) cc (fun j => if j = i then mm i ++ [(k, mk)] else mm j) (bd + 1) → Q (.bl true) H'
def spIsInt : Sp := fun vs H Q _ => ∃ z : Int, vs = [.int z] ∧ Q (.bl true) H
def spCell (K : PySem.W.Frag) : Sp := fun vs H Q _ => ∃ (a : Addr) (ss : List Int) (k : Int), vs = [.ref a, .int k] ∧ SqL K H a (ss.map V.int) ∧ 0 ≤ k ∧ ∀ r : Int, Q (.int r) H
def spNumber : Sp := fun vs H Q _ => ∃ z k : Int, vs = [.int z, .int k] ∧ ∀ r : Int, Q (.int r) H
def isE (K : PySem.W.Frag) (a : Addr) (i : Nat) (c : V) : TE := tCB (rIsE K (He.ga K "Empty") a) (tCons (tVar i) (tCons (tC c) tNil))
def t_looks (K : PySem.W.Frag) : Addr → Value → Option Addr → TS := fun a cls d D σ H => (cls = .ref (He.ga K "Empty") ∧ d = none) ∧
  tRet (tAndV (tOp (fun x y H Q => y = V.non ∧ Q (V.bl (decide (x = V.non))) H) (tVar 5) (tC .non)) (tAndV (isE K a 7 (.ref (He.ga K "FarheapError"))) (tNotV (isE K a 7 (.ref (He.ga K "Unknown")))))) D σ H
def spLaw (K : PySem.W.Frag) : Sp := fun vs H Q _ => ∃ (a : Addr) (ns : List Int), vs = [.ref a] ∧ SqL K H a (ns.map V.int) ∧ ns.length ≤ 63 ∧ ∀ H', Q (.bl true) H'

section
variable {P : Program} {w : World} {K : PySem.W.Frag} {mg : Str → Option Value} {base : Heap}
theorem ok_check_index (T : Txt K mg) : FnOk P w K mg base (L2.CX P w) 1 (He.ga K "check_index") T.fd_check_index ["index", "count", "what"] (spCheck K) := by
  refine T.F_check_index.ok sc_check_index (fun vs H Q E h => ?_) (fun cdv A outer s H vs Q E hr h => ?_)
  · obtain ⟨i, n, z, rfl, hz, qe, q⟩ := h
    rfl
  · obtain ⟨i, n, z, rfl, hz, qe, q⟩ := h
    refine ⟨_, (pss_one (ps_if (PW.pt (pw_or (pt_cmpR op_lt (pv 0) pe_int (nomark _)) (pw_or1 (pt_cmpR op_ge (pv 0) (pv 1) (nomark _)))))
      (pss_one (ps_raise rfl (takes_of rfl rfl rfl rfl) (pmk_ownA PySem.F.excBase_ValueError T.x_Unknown.1 T.mg_Unknown T.x_Unknown.2.1 (raises_own T.x_Unknown.2.2.1 T.x_Unknown.2.2.2) rfl (pa_cons (pe_joined (.cons pe_str (.cons (pe_fmt (pv 2)) .nil))) pa_nil))))
      pss_nil)), ?_⟩
    have lz : z.length ≤ sizeLine := Nat.le_trans hz (by decide)
    have lj : (Str.empty ++ (Str.ofString "there is no such ") ++ z).length ≤ sizeLine := by
      rw [Str.length_append, Str.length_append]
      exact Nat.le_trans (Nat.add_le_add_left hz _) (by decide)
    refine ⟨_, rfl, _, _, rfl, rfl, _, rfl, ?_⟩
    refine ite2 (fun c => ?_) (fun c => ?_)
    · refine iteT ?_
      refine ⟨_, rfl, (by decide), _, rfl, .inl ⟨z, rfl, lz, _, rfl, lj, (by show 1 ≤ sizeLine; decide), qe fun y => ?_⟩⟩
      have := of_decide_eq_true c
      omega
    · refine ⟨_, rfl, _, rfl, _, _, rfl, rfl, _, rfl, ?_⟩
      refine ite2 (fun c2 => ?_) (fun c2 => ?_)
      · refine ⟨_, rfl, (by decide), _, rfl, .inl ⟨z, rfl, lz, _, rfl, lj, (by show 1 ≤ sizeLine; decide), qe fun y => ?_⟩⟩
        have := of_decide_eq_true c2
        omega
      · refine q ⟨?_, ?_⟩
        · have : ¬ i < 0 := fun y => c (decide_eq_true y)
          omega
        · have : ¬ n ≤ i := fun y => c2 (decide_eq_true y)
          omega

theorem ok_Outgoing_init (T : Txt K mg) : FnOk P w K mg base CX0 1 (He.ma K (He.ga K "Outgoing") "__init__") T.fd_Outgoing_init ["self"] (spOutInit K) := by
  refine T.F_Outgoing_init.ok sc_Outgoing_init (fun vs H Q E h => ?_) (fun cdv A outer s H vs Q E hr h => ?_)
  · obtain ⟨p, dx, rfl, hp, k⟩ := h
    rfl
  · obtain ⟨p, dx, rfl, hp, k⟩ := h
    refine ⟨_, PSs.nox (pss_cons (ps_fld (pv 0) (pe_lst pa_nil) rfl)
    (pss_one (ps_fld (pv 0) pe_int rfl))), ?_⟩
    refine ⟨Nat.zero_le _, fun l hl => ?_⟩
    have npl : p ≠ l := ne_of_none hp hl
    refine ⟨_, rfl, p, _, dx, [], rfl, (by rw [upd_ne npl]; exact hp), T.cl_Outgoing, T.n_Outgoing__letters, (by show 0 < 1000; decide), ?_⟩
    refine ⟨_, rfl, p, _, dx, _, rfl, upd_same, T.cl_Outgoing, T.n_Outgoing__acknowledged, (by show 1 < 1000; decide), ?_⟩
    rw [upd_upd, putF_new (fs := putF "_letters" (.ref l) []) ["_letters"] rfl (by decide +kernel)]
    exact k l hl

theorem ok_Incoming_init (T : Txt K mg) : FnOk P w K mg base CX0 1 (He.ma K (He.ga K "Incoming") "__init__") T.fd_Incoming_init ["self"] (spIncInit K) := by
  refine T.F_Incoming_init.ok sc_Incoming_init (fun vs H Q E h => ?_) (fun cdv A outer s H vs Q E hr h => ?_)
  · obtain ⟨p, dx, rfl, hp, k⟩ := h
    rfl
  · obtain ⟨p, dx, rfl, hp, k⟩ := h
    refine ⟨_, PSs.nox (pss_one (ps_fld (pv 0) pe_int rfl)), ?_⟩
    exact ⟨_, rfl, p, _, dx, [], rfl, hp, T.cl_Incoming, T.n_Incoming_count, (by show 0 < 1000; decide), k⟩

theorem ok_Network_init (T : Txt K mg) : FnOk P w K mg base CX0 1 (He.ma K (He.ga K "Network") "__init__") T.fd_Network_init ["self"] (spNetInit K) := by
  refine T.F_Network_init.ok sc_Network_init (fun vs H Q E h => ?_) (fun cdv A outer s H vs Q E hr h => ?_)
  · obtain ⟨p, dx, rfl, hp, k⟩ := h
    rfl
  · obtain ⟨p, dx, rfl, hp, k⟩ := h
    refine ⟨_, PSs.nox (pss_one (ps_fld (pv 0) (pe_lst pa_nil) rfl)), ?_⟩
    refine ⟨Nat.zero_le _, fun l hl => ?_⟩
    have npl : p ≠ l := ne_of_none hp hl
    exact ⟨_, rfl, p, _, dx, [], rfl, (by rw [upd_ne npl]; exact hp), T.cl_Network, T.n_Network__packets, (by show 0 < 1000; decide), k l hl⟩

theorem ok_Ages_init (T : Txt K mg) : FnOk P w K mg base CX0 1 (He.ma K (He.ga K "Ages") "__init__") T.fd_Ages_init ["self"] (spAgesInit K) := by
  refine T.F_Ages_init.ok sc_Ages_init (fun vs H Q E h => ?_) (fun cdv A outer s H vs Q E hr h => ?_)
  · obtain ⟨p, dx, rfl, hp, k⟩ := h
    rfl
  · obtain ⟨p, dx, rfl, hp, k⟩ := h
    refine ⟨_, PSs.nox (pss_cons (ps_fld (pv 0) pe_int rfl)
    (pss_cons (ps_fld (pv 0) pe_int rfl)
    (pss_cons (ps_fld (pv 0) pe_int rfl)
    (pss_cons (ps_fld (pv 0) pe_int rfl)
    (pss_one (ps_fld (pv 0) pe_non rfl)))))), ?_⟩
    refine ⟨_, rfl, p, _, dx, [], rfl, hp, T.cl_Ages, T.n_Ages_clock, (by show 0 < 1000; decide), ?_⟩
    refine ⟨_, rfl, p, _, dx, _, rfl, upd_same, T.cl_Ages, T.n_Ages_bound, (by show 1 < 1000; decide), ?_⟩
    rw [upd_upd, putF_new (fs := putF "clock" (.int 0) []) ["clock"] rfl (by decide +kernel)]
    refine ⟨_, rfl, p, _, dx, _, rfl, upd_same, T.cl_Ages, T.n_Ages_settled, (by show 2 < 1000; decide), ?_⟩
    rw [upd_upd, putF_new (fs := putF "clock" (.int 0) [] ++ _) ["clock", "bound"] rfl (by decide +kernel)]
    refine ⟨_, rfl, p, _, dx, _, rfl, upd_same, T.cl_Ages, T.n_Ages_low, (by show 3 < 1000; decide), ?_⟩
    rw [upd_upd, putF_new (fs := putF "clock" (.int 0) [] ++ _ ++ _) ["clock", "bound", "settled"] rfl (by decide +kernel)]
    refine ⟨_, rfl, p, _, dx, _, rfl, upd_same, T.cl_Ages, T.n_Ages_pending, (by show 4 < 1000; decide), ?_⟩
    rw [upd_upd, putF_new (fs := putF "clock" (.int 0) [] ++ _ ++ _ ++ _) ["clock", "bound", "settled", "low"] rfl (by decide +kernel)]
    exact k

theorem ok_Mail_init (T : Txt K mg) : FnOk P w K mg base CX0 3 (He.ma K (He.ga K "Mail") "__init__") T.fd_Mail_init ["self", "number", "sites"] (spMailInit K) := by
  refine T.F_Mail_init.ok sc_Mail_init (fun vs H Q E h => ?_) (fun cdv A outer s H vs Q E hr h => ?_)
  · obtain ⟨p, dx, i, n, rfl, hn, hp, k⟩ := h
    rfl
  · obtain ⟨p, dx, i, n, rfl, hn, hp, k⟩ := h
    refine ⟨_, PSs.nox (pss_cons (ps_fld (pv 0) (pv 1) rfl)
    (pss_cons (ps_fld (pv 0) (pe_lc (own := [("other", 3)]) (g := gName 3) (by rfl) sc_Mail_init.nd (pi_range1 (by rfl) T.z_range (pa_cons (pv 2) pa_nil)) (blkOk_by (own := [("other", 3)]) (N := ["self", "number", "sites", "other"]) (sc := defScope s_Mail_init) (by decide +kernel)) (fun _ _ _ _ _ => pg_name (i := 3) sc_Mail_init.nd rfl (Or.inl rfl)) (fun _ _ _ _ _ => (pts_one (pt_cmpR op_ne (pv 3) (pv 1) (nomark _)))) (fun _ _ _ _ _ => (pv 3))) rfl)
    (pss_cons (ps_fld (pv 0) (pe_dc (own := [("other", 3)]) (g := gName 3) (tt := tYes) (by rfl) sc_Mail_init.nd (pi_list (pe_fld (pv 0) rfl)) (blkOk_by (own := [("other", 3)]) (N := ["self", "number", "sites", "other"]) (sc := defScope s_Mail_init) (by decide +kernel)) (fun _ _ _ _ _ => pg_name (i := 3) sc_Mail_init.nd rfl (Or.inl rfl)) (fun _ _ _ _ _ => pts_nil) (fun _ _ _ _ _ => (pv 3)) (fun _ _ _ _ _ => (pe_make0 T.mk_Outgoing (ok_Outgoing_init T) (hr.mono (by decide)) (by rfl) T.mg_Outgoing T.b_Outgoing_init .nil pass0))) rfl)
    (pss_one (ps_fld (pv 0) (pe_dc (own := [("other", 3)]) (g := gName 3) (tt := tYes) (by rfl) sc_Mail_init.nd (pi_list (pe_fld (pv 0) rfl)) (blkOk_by (own := [("other", 3)]) (N := ["self", "number", "sites", "other"]) (sc := defScope s_Mail_init) (by decide +kernel)) (fun _ _ _ _ _ => pg_name (i := 3) sc_Mail_init.nd rfl (Or.inl rfl)) (fun _ _ _ _ _ => pts_nil) (fun _ _ _ _ _ => (pv 3)) (fun _ _ _ _ _ => (pe_make0 T.mk_Incoming (ok_Incoming_init T) (hr.mono (by decide)) (by rfl) T.mg_Incoming T.b_Incoming_init .nil pass0))) rfl))))), ?_⟩
    have big : 100000 < sizeLine := by decide
    refine ⟨_, rfl, _, rfl, p, _, dx, [], rfl, hp, T.cl_Mail, T.n_Mail__number, (by show 0 < 1000; decide), ?_⟩
    have A0 : Part K n i S0 p H H (fun _ => 0) (fun _ => False) := Part.start (by rw [hp]; exact fun z => (nomatch z)) (by rw [hp]; exact fun xs z => (nomatch z))
    have A1 := A0.own (by rw [hp]; exact fun xs z => (nomatch z)) (.ins (He.ga K "Mail") dx (ml1 i))
    have hp1 : (upd H p (.ins (He.ga K "Mail") dx (ml1 i))) p = some (.ins (He.ga K "Mail") dx (ml1 i)) := upd_same
    revert A1 hp1
    show _ → _ → _
    generalize hH1 : upd H p (.ins (He.ga K "Mail") dx (ml1 i)) = H1
    intro A1 hp1
    rw [show upd H p (.ins (He.ga K "Mail") dx (putF "_number" (.int i) [])) = H1 from hH1]
    clear hH1
    refine ⟨_, rfl, (n : Int), rfl, by omega, by omega, fun D hD => ?_⟩
    refine lc_range (lo := 0) (n := (n : Int).toNat) (fun j H2 => H2 D = some (.lst ((othersL j i).map V.int)) ∧ Same H1 H2) ⟨upd_same, sm_new hD⟩ ?_ ?_
    · rintro j H2 hj ⟨h2, sm⟩
      have lo := othersL_len j i
      refine ⟨rfl, _, rfl, _, rfl, rfl, _, rfl, ?_⟩
      by_cases hji : (j : Int) = i
      · rw [show (!decide (V.int (0 + (j : Int)) = V.int i)) = false by rw [Int.zero_add, hji]; simp]
        refine iteF ⟨?_, sm⟩
        rw [othersL_succ, if_neg (by omega), List.append_nil]
        exact h2
      · rw [show (!decide (V.int (0 + (j : Int)) = V.int i)) = true by rw [Int.zero_add]; simp [hji]]
        refine iteT ⟨_, rfl, _, h2, by rw [List.length_map]; omega, ?_, sm_put sm hD⟩
        rw [upd_same, othersL_succ, if_pos (by omega), List.map_append, Int.zero_add]
        rfl
    rintro H2 ⟨hD2, sm⟩
    rw [show (n : Int).toNat = n from rfl] at hD2
    have hp2 := sm _ _ hp1
    have A2 := A1.add (a := D) .others sm hD hD2 (fun z => z) (fun y z => z.elim) rfl
    have nDp : D ≠ p := fun e => by rw [e, hp1] at hD; cases hD
    refine ⟨_, rfl, p, _, dx, _, rfl, hp2, T.cl_Mail, T.n_Mail_others, (by show 1 < 1000; decide), ?_⟩
    rw [ml2_of]
    have A3 := A2.own (by rw [hp2]; exact fun xs z => (nomatch z)) (.ins (He.ga K "Mail") dx (ml2 i D))
    have hp3 : (upd H2 p (.ins (He.ga K "Mail") dx (ml2 i D))) p = some (.ins (He.ga K "Mail") dx (ml2 i D)) := upd_same
    have hD3 : (upd H2 p (.ins (He.ga K "Mail") dx (ml2 i D))) D = some (.lst ((othersL n i).map V.int)) := by rw [upd_ne nDp]; exact hD2
    revert A3 hp3 hD3
    generalize (upd H2 p (.ins (He.ga K "Mail") dx (ml2 i D))) = H3
    intro A3 hp3 hD3
    -- the sending ends
    have nd := nodup_othersL n i
    have ol := othersL_len n i
    refine ⟨_, rfl, p, _, dx, _, _, rfl, hp3, T.cl_Mail, T.n_Mail_others, lookup_ix 1 ["_number", "others"] rfl rfl (by decide +kernel), D, rfl, ⟨_, SqL.of hD3⟩, fun D1 hD1 => ?_⟩
    have nD1p : D1 ≠ p := fun e => by rw [e, hp3] at hD1; cases hD1
    have z1 : H D1 = none := A3.free hD1
    have nDD1 : D ≠ D1 := fun e => by rw [e, hD1] at hD3; cases hD3
    refine dc_list (K := K) (a := D) (xs := (othersL n i).map V.int) (fun j H4 => ∃ m, Part K n i S0 p H H4 m (fun x => x = .others ∨ ∃ o ∈ (othersL n i).take j, x = .out o ∨ x = .outL o) ∧ m .others = D ∧ (∀ o ∈ (othersL n i).take j, m (.out o) ≠ D1 ∧ m (.outL o) ≠ D1) ∧ H4 p = some (.ins (He.ga K "Mail") dx (ml2 i D)) ∧
      H4 D = some (.lst ((othersL n i).map V.int)) ∧ H4 D1 = some (.dK (((othersL n i).take j).map fun o => (Sum.inl o, V.ref (m (.out o))))))
      ⟨upm (fun _ => 0) .others D, ?_, upm_same, (fun o h => by cases h), by rw [upd_ne nD1p.symm]; exact hp3, by rw [upd_ne nDD1]; exact hD3, upd_same⟩ (fun j H4 _ ⟨_, _, _, _, _, h, _⟩ => SqL.of h) ?_ ?_
    · refine (A3.same (sm_new hD1)).imp fun x => ⟨fun h => ?_, fun h => ?_⟩
      · rcases h with h | ⟨o, h, _⟩
        · exact .inl h
        · cases h
      · exact h.elim .inl fun z => z.elim
    · rintro j x H4 hj ⟨m, B, mo, nn, hp4, hD4, hE4⟩
      rw [List.getElem?_map] at hj
      obtain ⟨o, ho, rfl⟩ := Option.map_eq_some_iff.mp hj
      have om : o ∈ othersL n i := List.mem_of_getElem? ho
      have onew := take_nd nd ho
      refine ⟨rfl, ?_⟩
      refine tyesT ?_
      rw [if_pos rfl]
      refine ⟨_, rfl, fun x dx1 hx hdx hne => ⟨x, dx1, rfl, upd_same, fun l hl => ⟨rfl, ?_⟩⟩⟩
      obtain ⟨s5, hl0, hl5, nlx⟩ := made_two (fs := outgL l 0) (o := .lst []) hx hdx hne hl
      have hx5 : (upd (upd (upd (upd H4 dx1 (.own x)) x (.ins (He.ga K "Outgoing") dx1 [])) l (.lst [])) x (.ins (He.ga K "Outgoing") dx1 (outgL l 0))) x = some (.ins (He.ga K "Outgoing") dx1 (outgL l 0)) := upd_same
      revert s5 hl5 hx5
      generalize (upd (upd (upd (upd H4 dx1 (.own x)) x (.ins (He.ga K "Outgoing") dx1 [])) l (.lst [])) x (.ins (He.ga K "Outgoing") dx1 (outgL l 0))) = H5
      intro s5 hl5 hx5
      have px : ∀ y, (y = Sl.others ∨ ∃ o' ∈ (othersL n i).take j, y = .out o' ∨ y = .outL o') → y ≠ .out o ∧ y ≠ .outL o := fun y hy => by
        rcases hy with rfl | ⟨o', h', rfl | rfl⟩
        · exact ⟨fun z => (nomatch z), fun z => (nomatch z)⟩
        · exact ⟨fun z => onew (by injection z with z; rw [← z]; exact h'), fun z => (nomatch z)⟩
        · exact ⟨fun z => (nomatch z), fun z => onew (by injection z with z; rw [← z]; exact h')⟩
      have B1 := B.add (a := l) (.outL o) s5 hl0 hl5 (fun z => (px _ z).2 rfl) (fun y z => z.elim) ⟨[], rfl, .nil⟩
      have fresh : ∀ y, (y = Sl.outL o ∨ (y = Sl.others ∨ ∃ o' ∈ (othersL n i).take j, y = .out o' ∨ y = .outL o')) → upm m (.outL o) l y ≠ x := fun y hy => by
        rcases hy with rfl | hy
        · rw [upm_same]; exact nlx
        · rw [upm_ne (px y hy).2]
          intro e
          obtain ⟨u, e1, _⟩ := B.at_ y hy
          rw [e, hx] at e1
          cases e1
      have B2 := B1.put (a := x) (.out o) hx5 (B.free hx) fresh (fun z => by
        rcases z with z | z
        · cases z
        · exact (px _ z).1 rfl) (fun y z => by rw [show y = .outL o from z]; exact .inl rfl) ⟨dx1, by
          show HO.ins _ _ _ = HO.ins _ _ (outgL (upm (upm m (.outL o) l) (.out o) x (.outL o)) 0)
          simp only [upm_same, ne_eq, reduceCtorEq, not_false_eq_true, upm_ne]⟩
      have hE5 := s5 _ _ hE4
      have nD1x : D1 ≠ x := ne_of_none hE4 hx
      have nD1l : D1 ≠ l := ne_of_none hE4 hl0
      refine ⟨_, Sum.inl o, rfl, hE5, by rw [List.length_map, List.length_take]; omega, ?_⟩
      have me : ∀ o' ∈ (othersL n i).take j, (upm (upm m (.outL o) l) (.out o) x) (.out o') = m (.out o') ∧ (upm (upm m (.outL o) l) (.out o) x) (.outL o') = m (.outL o') := fun o' h' => by
        have ne : o' ≠ o := fun e => onew (e ▸ h')
        exact ⟨by rw [upm_ne (show Sl.out o' ≠ Sl.out o from fun z => ne (by injection z))]; simp only [upm_same, ne_eq, reduceCtorEq, not_false_eq_true, upm_ne], by simp only [upm_same, ne_eq, reduceCtorEq, not_false_eq_true, upm_ne]; rw [upm_ne (show Sl.outL o' ≠ Sl.outL o from fun z => ne (by injection z))]⟩
      refine ⟨upm (upm m (.outL o) l) (.out o) x, ?_, ?_, ?_, ?_, ?_, ?_⟩
      · refine (B2.off z1 (fun y hy => ?_) (by rw [hE5]; exact fun xs z => (nomatch z)) _).imp fun y => ⟨fun h => ?_, fun h => ?_⟩
        · rcases hy with rfl | rfl | rfl | ⟨o', h', rfl | rfl⟩
          · rw [upm_same]; exact nD1x.symm
          · simp only [upm_same, ne_eq, reduceCtorEq, not_false_eq_true, upm_ne]; exact nD1l.symm
          · simp only [upm_same, ne_eq, reduceCtorEq, not_false_eq_true, upm_ne]; rw [mo]; exact nDD1
          · rw [(me o' h').1]; exact (nn o' h').1
          · rw [(me o' h').2]; exact (nn o' h').2
        · rcases h with h | ⟨o', h', h⟩
          · exact .inr (.inr (.inl h))
          · rcases (Ce.mem_take1 ho).mp h' with h2 | rfl
            · exact .inr (.inr (.inr ⟨o', h2, h⟩))
            · exact h.elim .inl fun z => .inr (.inl z)
        · rcases h with rfl | rfl | rfl | ⟨o', h', h⟩
          · exact .inr ⟨o, (Ce.mem_take1 ho).mpr (.inr rfl), .inl rfl⟩
          · exact .inr ⟨o, (Ce.mem_take1 ho).mpr (.inr rfl), .inr rfl⟩
          · exact .inl rfl
          · exact .inr ⟨o', (Ce.mem_take1 ho).mpr (.inl h'), h⟩
      · simp only [upm_same, ne_eq, reduceCtorEq, not_false_eq_true, upm_ne]; exact mo
      · intro o' h'
        rcases (Ce.mem_take1 ho).mp h' with h2 | rfl
        · rw [(me o' h2).1, (me o' h2).2]; exact nn o' h2
        · rw [upm_same]; simp only [upm_same, ne_eq, reduceCtorEq, not_false_eq_true, upm_ne]; exact ⟨nD1x.symm, nD1l.symm⟩
      · rw [upd_ne nD1p.symm]; exact s5 _ _ hp4
      · rw [upd_ne nDD1]; exact s5 _ _ hD4
      · rw [upd_same, putK_end (by rw [List.map_map]; intro z; obtain ⟨o', h', e⟩ := List.mem_map.mp z; cases (Sum.inl.inj e); exact onew h'), take_succ_map _ ho, upm_same]
        congr 3
        exact List.map_congr_left fun o' h' => by rw [(me o' h').1]
    rintro H4 ⟨m, B, mo, nn, hp4, hD4, hE4⟩
    rw [List.length_map, List.take_of_length_le (Nat.le_refl _)] at B nn hE4
    have B1 := B.put (a := D1) .outD hE4 z1 (fun y hy => by
      rcases hy with rfl | ⟨o, h, rfl | rfl⟩
      · rw [mo]; exact nDD1
      · exact (nn o h).1
      · exact (nn o h).2) (fun z => by
      rcases z with z | ⟨o, _, z | z⟩ <;> cases z) (fun y ⟨o, h, e⟩ => by rw [e]; exact .inr ⟨o, h, .inl rfl⟩) (show _ = _ from congrArg HO.dK (List.map_congr_left fun o h => by
        show (Sum.inl o, V.ref (m (.out o))) = (Sum.inl o, V.ref (upm m .outD D1 (.out o)))
        simp only [upm_same, ne_eq, reduceCtorEq, not_false_eq_true, upm_ne]))
    refine ⟨_, rfl, p, _, dx, _, rfl, hp4, T.cl_Mail, T.n_Mail__outgoing, (by show 2 < 1000; decide), ?_⟩
    rw [ml3_of]
    have B2 := B1.own (by rw [hp4]; exact fun xs z => (nomatch z)) (.ins (He.ga K "Mail") dx (ml3 i D D1))
    have hp5 : (upd H4 p (.ins (He.ga K "Mail") dx (ml3 i D D1))) p = some (.ins (He.ga K "Mail") dx (ml3 i D D1)) := upd_same
    have hD5 : (upd H4 p (.ins (He.ga K "Mail") dx (ml3 i D D1))) D = some (.lst ((othersL n i).map V.int)) := by rw [upd_ne nDp]; exact hD4
    have m1o : upm m .outD D1 .others = D := by simp only [upm_same, ne_eq, reduceCtorEq, not_false_eq_true, upm_ne]; exact mo
    have m1d : upm m .outD D1 .outD = D1 := upm_same
    revert B2 hp5 hD5 m1o m1d
    generalize (upd H4 p (.ins (He.ga K "Mail") dx (ml3 i D D1))) = H5
    generalize upm m .outD D1 = m1
    intro B2 hp5 hD5 m1o m1d
    -- the receiving ends
    refine ⟨_, rfl, p, _, dx, _, _, rfl, hp5, T.cl_Mail, T.n_Mail_others, lookup_ix 1 ["_number", "others", "_outgoing"] rfl rfl (by decide +kernel), D, rfl, ⟨_, SqL.of hD5⟩, fun D2 hD2 => ?_⟩
    have nD2p : D2 ≠ p := fun e => by rw [e, hp5] at hD2; cases hD2
    have z2 : H D2 = none := B2.free hD2
    have nDD2 : D ≠ D2 := fun e => by rw [e, hD2] at hD5; cases hD5
    have old2 : ∀ y, (y = Sl.outD ∨ (y = .others ∨ ∃ o ∈ othersL n i, y = .out o ∨ y = .outL o)) → m1 y ≠ D2 := fun y hy e => by
      obtain ⟨u, e1, _⟩ := B2.at_ y hy
      rw [e, hD2] at e1
      cases e1
    refine dc_list (K := K) (a := D) (xs := (othersL n i).map V.int) (fun j H6 => ∃ m, Part K n i S0 p H H6 m (fun x => (x = .outD ∨ (x = .others ∨ ∃ o ∈ othersL n i, x = .out o ∨ x = .outL o)) ∨ ∃ o ∈ (othersL n i).take j, x = .inc o) ∧ (∀ y, (y = Sl.outD ∨ (y = .others ∨ ∃ o ∈ othersL n i, y = .out o ∨ y = .outL o)) → m y = m1 y) ∧ (∀ o ∈ (othersL n i).take j, m (.inc o) ≠ D2) ∧ H6 p = some (.ins (He.ga K "Mail") dx (ml3 i D D1)) ∧
      H6 D = some (.lst ((othersL n i).map V.int)) ∧ H6 D2 = some (.dK (((othersL n i).take j).map fun o => (Sum.inl o, V.ref (m (.inc o))))))
      ⟨m1, ?_, fun y _ => rfl, (fun o h => by cases h), by rw [upd_ne nD2p.symm]; exact hp5, by rw [upd_ne nDD2]; exact hD5, upd_same⟩ (fun j H4 _ ⟨_, _, _, _, _, h, _⟩ => SqL.of h) ?_ ?_
    · refine (B2.same (sm_new hD2)).imp fun x => ⟨fun h => ?_, fun h => .inl h⟩
      rcases h with h | ⟨o, h, _⟩
      · exact h
      · cases h
    · rintro j x H6 hj ⟨m, C, mo2, nn2, hp6, hD6, hE6⟩
      rw [List.getElem?_map] at hj
      obtain ⟨o, ho, rfl⟩ := Option.map_eq_some_iff.mp hj
      have om : o ∈ othersL n i := List.mem_of_getElem? ho
      have onew := take_nd nd ho
      refine ⟨rfl, ?_⟩
      refine tyesT ?_
      rw [if_pos rfl]
      refine ⟨_, rfl, fun x dx1 hx hdx hne => ⟨x, dx1, rfl, upd_same, rfl, ?_⟩⟩
      have s7 := made_one (C := He.ga K "Incoming") (fs := incmL 0) hx hdx hne
      have hx7 : (upd (upd (upd H6 dx1 (.own x)) x (.ins (He.ga K "Incoming") dx1 [])) x (.ins (He.ga K "Incoming") dx1 (incmL 0))) x = some (.ins (He.ga K "Incoming") dx1 (incmL 0)) := upd_same
      revert s7 hx7
      generalize (upd (upd (upd H6 dx1 (.own x)) x (.ins (He.ga K "Incoming") dx1 [])) x (.ins (He.ga K "Incoming") dx1 (incmL 0))) = H7
      intro s7 hx7
      have px : ∀ y, ((y = Sl.outD ∨ (y = .others ∨ ∃ o ∈ othersL n i, y = .out o ∨ y = .outL o)) ∨ ∃ o' ∈ (othersL n i).take j, y = .inc o') → y ≠ .inc o := fun y hy => by
        rcases hy with (rfl | rfl | ⟨o', h', rfl | rfl⟩) | ⟨o', h', rfl⟩ <;> first | (intro z; cases z; done) | exact fun z => onew (by injection z with z; rw [← z]; exact h')
      have C1 := C.add (a := x) (.inc o) s7 hx hx7 (fun z => px _ z rfl) (fun y z => z.elim) ⟨dx1, rfl⟩
      have hE7 := s7 _ _ hE6
      have nDx : D2 ≠ x := ne_of_none hE6 hx
      refine ⟨_, Sum.inl o, rfl, hE7, by rw [List.length_map, List.length_take]; omega, ?_⟩
      have me : ∀ o' ∈ (othersL n i).take j, (upm m (.inc o) x) (.inc o') = m (.inc o') := fun o' h' => upm_ne (show Sl.inc o' ≠ Sl.inc o from fun z => onew (by injection z with z; rw [← z]; exact h'))
      refine ⟨upm m (.inc o) x, ?_, ?_, ?_, ?_, ?_, ?_⟩
      · refine (C1.off z2 (fun y hy => ?_) (by rw [hE7]; exact fun xs z => (nomatch z)) _).imp fun y => ⟨fun h => ?_, fun h => ?_⟩
        · rcases hy with rfl | hy | ⟨o', h', rfl⟩
          · rw [upm_same]; exact nDx.symm
          · rw [upm_ne (px y (.inl hy)), mo2 y hy]; exact old2 y hy
          · rw [me o' h']; exact nn2 o' h'
        · rcases h with h | ⟨o', h', h⟩
          · exact .inr (.inl h)
          · rcases (Ce.mem_take1 ho).mp h' with h2 | rfl
            · exact .inr (.inr ⟨o', h2, h⟩)
            · exact .inl h
        · rcases h with rfl | h | ⟨o', h', h⟩
          · exact .inr ⟨o, (Ce.mem_take1 ho).mpr (.inr rfl), rfl⟩
          · exact .inl h
          · exact .inr ⟨o', (Ce.mem_take1 ho).mpr (.inl h'), h⟩
      · intro y hy
        rw [upm_ne (px y (.inl hy))]; exact mo2 y hy
      · intro o' h'
        rcases (Ce.mem_take1 ho).mp h' with h2 | rfl
        · rw [me o' h2]; exact nn2 o' h2
        · rw [upm_same]; exact nDx.symm
      · rw [upd_ne nD2p.symm]; exact s7 _ _ hp6
      · rw [upd_ne nDD2]; exact s7 _ _ hD6
      · rw [upd_same, putK_end (by rw [List.map_map]; intro z; obtain ⟨o', h', e⟩ := List.mem_map.mp z; cases (Sum.inl.inj e); exact onew h'), take_succ_map _ ho, upm_same]
        congr 3
        exact List.map_congr_left fun o' h' => by rw [me o' h']
    rintro H6 ⟨m, C, mo2, nn2, hp6, hD6, hE6⟩
    rw [List.length_map, List.take_of_length_le (Nat.le_refl _)] at C nn2 hE6
    have C1 := C.put (a := D2) .incD hE6 z2 (fun y hy => by
      rcases hy with hy | ⟨o, h, rfl⟩
      · rw [mo2 y hy]; exact old2 y hy
      · exact nn2 o h) (fun z => by
      rcases z with (z | z | ⟨o, _, z | z⟩) | ⟨o, _, z⟩ <;> cases z) (fun y ⟨o, h, e⟩ => by rw [e]; exact .inr ⟨o, h, rfl⟩) (show _ = _ from congrArg HO.dK (List.map_congr_left fun o h => by
        show (Sum.inl o, V.ref (m (.inc o))) = (Sum.inl o, V.ref (upm m .incD D2 (.inc o)))
        simp only [upm_same, ne_eq, reduceCtorEq, not_false_eq_true, upm_ne]))
    refine ⟨_, rfl, p, _, dx, _, rfl, hp6, T.cl_Mail, T.n_Mail__incoming, (by show 3 < 1000; decide), ?_⟩
    rw [ml4_of]
    refine k _ (upm m .incD D2) ((C1.own (by rw [hp6]; exact fun xs z => (nomatch z)) _).imp fun x => ⟨fun h => ?_, fun h => ?_⟩) ?_
    · cases x with
      | others => exact .inr (.inl (.inr (.inl rfl)))
      | outD => exact .inr (.inl (.inl rfl))
      | incD => exact .inl rfl
      | out j => exact .inr (.inl (.inr (.inr ⟨j, h, .inl rfl⟩)))
      | outL j => exact .inr (.inl (.inr (.inr ⟨j, h, .inr rfl⟩)))
      | inc j => exact .inr (.inr ⟨j, h, rfl⟩)
      | _ => exact h.elim
    · rcases h with rfl | (rfl | rfl | ⟨o, h, rfl | rfl⟩) | ⟨o, h, rfl⟩ <;> first | trivial | exact h
    · rw [upd_same]
      show some (HO.ins _ dx (ml4 i D D1 D2)) = some (.ins _ dx (mailL (mkS (upm m .incD D2)) i))
      have e1 : upm m .incD D2 .others = D := by simp only [upm_same, ne_eq, reduceCtorEq, not_false_eq_true, upm_ne]; rw [mo2 _ (.inr (.inl rfl))]; exact m1o
      have e2 : upm m .incD D2 .outD = D1 := by simp only [upm_same, ne_eq, reduceCtorEq, not_false_eq_true, upm_ne]; rw [mo2 _ (.inl rfl)]; exact m1d
      have e3 : upm m .incD D2 .incD = D2 := upm_same
      show some (HO.ins _ dx (ml4 i D D1 D2)) = some (.ins _ dx (ml4 i (upm m .incD D2 .others) (upm m .incD D2 .outD) (upm m .incD D2 .incD)))
      rw [e1, e2, e3]

theorem ok_Numbered_init (T : Txt K mg) : FnOk P w K mg base CX0 1 (He.ma K (He.ga K "Numbered") "__init__") T.fd_Numbered_init ["self"] (spNumInit K) := by
  refine T.F_Numbered_init.ok sc_Numbered_init (fun vs H Q E h => ?_) (fun cdv A outer s H vs Q E hr h => ?_)
  · obtain ⟨p, dx, rfl, hp, k⟩ := h
    rfl
  · obtain ⟨p, dx, rfl, hp, k⟩ := h
    refine ⟨_, PSs.nox (pss_cons (ps_fld (pv 0) pe_dnewK rfl)
    (pss_one (ps_fld (pv 0) pe_int rfl))), ?_⟩
    refine fun d hd => ?_
    have npd : p ≠ d := ne_of_none hp hd
    refine ⟨_, rfl, p, _, dx, [], rfl, (by rw [upd_ne npd]; exact hp), T.cl_Numbered, T.n_Numbered_things, (by show 0 < 1000; decide), ?_⟩
    refine ⟨_, rfl, p, _, dx, _, rfl, upd_same, T.cl_Numbered, T.n_Numbered__created, (by show 1 < 1000; decide), ?_⟩
    rw [upd_upd, putF_new (fs := putF "things" (.ref d) []) ["things"] rfl (by decide +kernel)]
    exact k d hd

theorem ok_Numbered_create (T : Txt K mg) : FnOk P w K mg base CX0 1 (He.ma K (He.ga K "Numbered") "create") T.fd_Numbered_create ["self", "thing"] (spCreate K) := by
  refine T.F_Numbered_create.ok sc_Numbered_create (fun vs H Q E h => ?_) (fun cdv A outer s H vs Q E hr h => ?_)
  · obtain ⟨p, dx, d, c, kvs, v, rfl, hp, hd, hl, q⟩ := h
    rfl
  · obtain ⟨p, dx, d, c, kvs, v, rfl, hp, hd, hl, q⟩ := h
    refine ⟨_, PSs.nox (pss_cons (ps_set (i := 2) sc_Numbered_create.nd rfl (Or.inl rfl) (pe_fld (pv 0) rfl))
    (pss_cons (ps_dput (hu2 hr.units) (pe_fld (pv 0) rfl) (pv 2) (pv 1) rfl)
    (pss_cons (ps_fldaug (pv 0) pe_int in_add)
    (pss_one (ps_ret (pv 2)))))), ?_⟩
    have big : 1000000 < sizeLine := by decide
    have npd : p ≠ d := fun e => by rw [e, hd] at hp; cases hp
    refine ⟨_, rfl, p, _, dx, _, _, rfl, hp, T.cl_Numbered, T.n_Numbered__created, lk_num_created, ?_⟩
    refine ⟨_, rfl, _, rfl, p, _, dx, _, _, rfl, hp, T.cl_Numbered, T.n_Numbered_things, lk_num_things, _, rfl, d, _, rfl, DPut.k (k := .inl c) hd (by omega), ?_⟩
    refine ⟨_, rfl, p, _, dx, _, _, rfl, (by rw [upd_ne npd]; exact hp), T.cl_Numbered, T.n_Numbered__created, lk_num_created, _, _, rfl, rfl, dx, _, (by rw [upd_ne npd]; exact hp), (by show 2 < 1000; decide), ?_⟩
    rw [show putF "_created" (V.int (c + 1)) (numL d c) = numL d (c + 1) from putF_ix 1 numK rfl rfl (by decide +kernel)]
    exact ⟨_, rfl, q⟩

theorem ok_Item_init (T : Txt K mg) : FnOk P w K mg base CX0 1 (He.ma K (He.ga K "Item") "__init__") T.fd_Item_init ["self", "size", "mark"] (spItemInit K) := by
  refine T.F_Item_init.ok sc_Item_init (fun vs H Q E h => ?_) (fun cdv A outer s H vs Q E hr h => ?_)
  · obtain ⟨p, dx, size, mark, rfl, hs, hs2, hp, k⟩ := h
    rfl
  · obtain ⟨p, dx, size, mark, rfl, hs, hs2, hp, k⟩ := h
    refine ⟨_, PSs.nox (pss_cons (ps_fld (pv 0) (pv 2) rfl)
    (pss_one (ps_fld (pv 0) (pe_op op_rep (pe_lst (pa_cons pe_non pa_nil)) (pv 1)) rfl))), ?_⟩
    refine ⟨_, rfl, _, rfl, p, _, dx, [], rfl, hp, T.cl_Item, T.n_Item_mark, (by show 0 < 1000; decide), ?_⟩
    refine ⟨(by show 1 ≤ sizeLine; decide), fun l0 h0 => ?_⟩
    have n0 : p ≠ l0 := ne_of_none upd_same h0
    have big : 100000 ≤ sizeLine := by decide
    refine ⟨_, rfl, l0, _, [.non], rfl, rfl, upd_same, by omega, by omega, (by show 1 * size.toNat ≤ sizeLine; omega), fun l hl => ?_⟩
    have n1 : p ≠ l := ne_of_none (by rw [upd_ne n0, upd_same]) hl
    have n2 : l0 ≠ l := ne_of_none upd_same hl
    refine ⟨_, rfl, p, _, dx, _, rfl, (by rw [upd_ne n1, upd_ne n0, upd_same]), T.cl_Item, T.n_Item_fields, (by show 1 < 1000; decide), ?_⟩
    rw [putF_new (fs := putF "mark" (.int mark) []) ["mark"] rfl (by decide +kernel)]
    have hl' : H l = none := by rw [upd_ne n2.symm, upd_ne n1.symm] at hl; exact hl
    have h0' : H l0 = none := by rw [upd_ne n0.symm] at h0; exact h0
    refine k l _ hl' upd_same (by rw [upd_ne n1.symm, upd_same, show (List.replicate size.toNat [V.non]).flatten = List.replicate size.toNat V.non by rw [List.flatten_replicate_singleton]]) fun b o e hb => ?_
    rw [upd_ne hb, upd_ne (ne_of_none e hl'), upd_ne (ne_of_none e h0'), upd_ne hb]
    exact e

theorem ok_Site_init (T : Txt K mg) : FnOk P w K mg base CX0 5 (He.ma K (He.ga K "Site") "__init__") T.fd_Site_init ["self", "number", "sites"] (spSiteInit K) := by
  refine T.F_Site_init.ok sc_Site_init (fun vs H Q E h => ?_) (fun cdv A outer s H vs Q E hr h => ?_)
  · obtain ⟨p, dx, i, n, rfl, hn, hp, k⟩ := h
    rfl
  · obtain ⟨p, dx, i, n, rfl, hn, hp, k⟩ := h
    refine ⟨_, PSs.nox (pss_cons (ps_fld (pv 0) (pv 1) rfl)
    (pss_cons (ps_fld (pv 0) (pe_make T.mk_Mail (ok_Mail_init T) (hr.mono (by decide)) (by rfl) T.mg_Mail T.b_Mail_init .nil pass0 (pa_cons (pv 1) (pa_cons (pv 2) pa_nil))) rfl)
    (pss_cons (ps_fld (pv 0) (pe_make0 T.mk_Ages (ok_Ages_init T) (hr.mono (by decide)) (by rfl) T.mg_Ages T.b_Ages_init .nil pass0) rfl)
    (pss_cons (ps_fld (pv 0) (pe_make0 T.mk_Numbered (ok_Numbered_init T) (hr.mono (by decide)) (by rfl) T.mg_Numbered T.b_Numbered_init .nil pass0) rfl)
    (pss_cons (ps_fld (pv 0) (pe_op op_rep (pe_lst (pa_cons pe_non pa_nil)) (Wo.pe_gint (by rfl) T.c_VARIABLES)) rfl)
    (pss_cons (ps_fld (pv 0) (pe_lst pa_nil) rfl)
    (pss_cons (ps_fld (pv 0) (pe_make0 T.mk_Numbered (ok_Numbered_init T) (hr.mono (by decide)) (by rfl) T.mg_Numbered T.b_Numbered_init .nil pass0) rfl)
    (pss_cons (ps_fld (pv 0) (pe_make0 T.mk_Numbered (ok_Numbered_init T) (hr.mono (by decide)) (by rfl) T.mg_Numbered T.b_Numbered_init .nil pass0) rfl)
    (pss_cons (ps_fld (pv 0) (pe_lst pa_nil) rfl)
    (pss_cons (ps_fld (pv 0) pe_dnewT rfl)
    (pss_cons (ps_fld (pv 0) pe_dnewT rfl)
    (pss_cons (ps_fld (pv 0) pe_dnewK rfl)
    (pss_cons (ps_fld (pv 0) (pe_lst pa_nil) rfl)
    (pss_one (ps_fld (pv 0) pe_int rfl))))))))))))))), ?_⟩
    have A0 : Part K n i S0 p H H (fun _ => 0) (fun _ => False) := Part.start (by rw [hp]; exact fun z => (nomatch z)) (by rw [hp]; exact fun xs z => (nomatch z))
    refine ⟨_, rfl, ?_⟩
    have hp0 := hp
    refine ⟨_, rfl, p, _, dx, _, rfl, hp0, T.cl_Site, T.n_Site_number, (by show 0 < 1000; decide), ?_⟩
    rw [show putF "number" (V.int i) ([] : List (Str × V)) = ([("number", V.int i)] : List (Str × V)) from rfl]
    have A1 := A0.own (by rw [hp0]; exact fun xs z => (nomatch z)) (.ins (He.ga K "Site") dx ([("number", V.int i)] : List (Str × V)))
    have hp1 : (upd H p (.ins (He.ga K "Site") dx ([("number", V.int i)] : List (Str × V)))) p = some (.ins (He.ga K "Site") dx ([("number", V.int i)] : List (Str × V))) := upd_same
    revert A1 hp1
    generalize (upd H p (.ins (He.ga K "Site") dx ([("number", V.int i)] : List (Str × V)))) = H1
    intro A1 hp1
    refine ⟨_, rfl, _, rfl, fun a1 d1 hx hdx hne => ⟨a1, d1, i, n, rfl, hn, upd_same, fun G1 m1 B1 gx => ⟨rfl, ?_⟩⟩⟩
    have s1 : ∀ b o, H1 b = some o → (upd (upd H1 d1 (.own a1)) a1 (.ins (He.ga K "Mail") d1 [])) b = some o := fun b o e => by
      rw [upd_ne (ne_of_none e hx), upd_ne (ne_of_none e hdx)]; exact e
    have C1 := A1.join B1 .mail s1 hx ⟨fun z => z, fun z => z⟩ (fun z => z) (fun y z => by
      rcases List.mem_cons.mp z with rfl | z
      · trivial
      rcases List.mem_cons.mp z with rfl | z
      · trivial
      rcases List.mem_cons.mp z with rfl | z
      · trivial
      cases z) (fun y z => z.elim) ⟨_, gx, d1, rfl⟩
    have gp1 := B1.kp _ _ (s1 _ _ hp1) (ne_of_none hp1 hx)
    obtain ⟨m2, q2, e2⟩ : ∃ m2 : Sl → Addr, m2 = (fun y => open Classical in if PMail n i y then m1 y else if y = .mail then a1 else (fun _ => 0) y) ∧ m2 .mail = a1 := ⟨_, rfl, by rw [if_neg (show ¬ PMail n i .mail from fun z => z), if_pos rfl]⟩
    rw [← q2] at C1
    refine ⟨_, rfl, p, _, dx, _, rfl, gp1, T.cl_Site, T.n_Site_mail, (by show 1 < 1000; decide), ?_⟩
    rw [show putF "mail" (V.ref a1) ([("number", V.int i)] : List (Str × V)) = ([("number", V.int i), ("mail", V.ref a1)] : List (Str × V)) from putF_new ["number"] rfl (by decide +kernel)]
    have A2 := C1.own (by rw [gp1]; exact fun xs z => (nomatch z)) (.ins (He.ga K "Site") dx ([("number", V.int i), ("mail", V.ref a1)] : List (Str × V)))
    have hp2 : (upd G1 p (.ins (He.ga K "Site") dx ([("number", V.int i), ("mail", V.ref a1)] : List (Str × V)))) p = some (.ins (He.ga K "Site") dx ([("number", V.int i), ("mail", V.ref a1)] : List (Str × V))) := upd_same
    revert A2 hp2
    generalize (upd G1 p (.ins (He.ga K "Site") dx ([("number", V.int i), ("mail", V.ref a1)] : List (Str × V)))) = H2
    intro A2 hp2
    refine fun a3 d3 hx3 hdx3 hne3 => ⟨a3, d3, rfl, upd_same, rfl, ?_⟩
    have s3 := made_one (C := He.ga K "Ages") (fs := agesL S0) hx3 hdx3 hne3
    have g3 : (upd (upd (upd H2 d3 (.own a3)) a3 (.ins (He.ga K "Ages") d3 [])) a3 (.ins (He.ga K "Ages") d3 (agesL S0))) a3 = some (.ins (He.ga K "Ages") d3 (agesL S0)) := upd_same
    revert s3 g3
    generalize (upd (upd (upd H2 d3 (.own a3)) a3 (.ins (He.ga K "Ages") d3 [])) a3 (.ins (He.ga K "Ages") d3 (agesL S0))) = G3
    intro s3 g3
    have C3 := A2.add (a := a3) .ages s3 hx3 g3 (by intro z; simp [PMail] at z) (fun y z => z.elim) ⟨d3, rfl⟩
    have gp3 := s3 _ _ hp2
    refine ⟨_, rfl, p, _, dx, _, rfl, gp3, T.cl_Site, T.n_Site_ages, (by show 2 < 1000; decide), ?_⟩
    rw [show putF "ages" (V.ref a3) ([("number", V.int i), ("mail", V.ref a1)] : List (Str × V)) = ([("number", V.int i), ("mail", V.ref a1), ("ages", V.ref a3)] : List (Str × V)) from putF_new ["number", "mail"] rfl (by decide +kernel)]
    have A3 := C3.own (by rw [gp3]; exact fun xs z => (nomatch z)) (.ins (He.ga K "Site") dx ([("number", V.int i), ("mail", V.ref a1), ("ages", V.ref a3)] : List (Str × V)))
    have hp3 : (upd G3 p (.ins (He.ga K "Site") dx ([("number", V.int i), ("mail", V.ref a1), ("ages", V.ref a3)] : List (Str × V)))) p = some (.ins (He.ga K "Site") dx ([("number", V.int i), ("mail", V.ref a1), ("ages", V.ref a3)] : List (Str × V))) := upd_same
    revert A3 hp3
    generalize (upd G3 p (.ins (He.ga K "Site") dx ([("number", V.int i), ("mail", V.ref a1), ("ages", V.ref a3)] : List (Str × V)))) = H3
    intro A3 hp3
    refine fun a4 d4 hx4 hdx4 hne4 => ⟨a4, d4, rfl, upd_same, fun l4 hl4 => ⟨rfl, ?_⟩⟩
    obtain ⟨s4, hz4, hm4, nl4⟩ := made_two (fs := numL l4 0) (o := .dK []) hx4 hdx4 hne4 hl4
    have g4 : (upd (upd (upd (upd H3 d4 (.own a4)) a4 (.ins (He.ga K "Numbered") d4 [])) l4 (.dK [])) a4 (.ins (He.ga K "Numbered") d4 (numL l4 0))) a4 = some (.ins (He.ga K "Numbered") d4 (numL l4 0)) := upd_same
    revert s4 hm4 g4
    generalize (upd (upd (upd (upd H3 d4 (.own a4)) a4 (.ins (He.ga K "Numbered") d4 [])) l4 (.dK [])) a4 (.ins (He.ga K "Numbered") d4 (numL l4 0))) = G4
    intro s4 hm4 g4
    have C4 := add2 A3 (a := l4) (b := a4) .objD .objs s4 hz4 hx4 nl4 hm4 g4 (by intro z; simp [PMail] at z) (by intro z; simp [PMail] at z) (fun z => (nomatch z)) (fun y z => by first | exact z.elim | (obtain ⟨_, z, _⟩ := z; cases z)) (fun y z => .inl z) rfl ⟨d4, by show HO.ins _ _ _ = HO.ins _ _ (numL (upm (upm _ .objD l4) .objs a4 .objD) 0); simp only [upm_same, ne_eq, reduceCtorEq, not_false_eq_true, upm_ne]⟩
    have gp4 := s4 _ _ hp3
    refine ⟨_, rfl, p, _, dx, _, rfl, gp4, T.cl_Site, T.n_Site_objects, (by show 3 < 1000; decide), ?_⟩
    rw [show putF "objects" (V.ref a4) ([("number", V.int i), ("mail", V.ref a1), ("ages", V.ref a3)] : List (Str × V)) = ([("number", V.int i), ("mail", V.ref a1), ("ages", V.ref a3), ("objects", V.ref a4)] : List (Str × V)) from putF_new ["number", "mail", "ages"] rfl (by decide +kernel)]
    have A4 := C4.own (by rw [gp4]; exact fun xs z => (nomatch z)) (.ins (He.ga K "Site") dx ([("number", V.int i), ("mail", V.ref a1), ("ages", V.ref a3), ("objects", V.ref a4)] : List (Str × V)))
    have hp4 : (upd G4 p (.ins (He.ga K "Site") dx ([("number", V.int i), ("mail", V.ref a1), ("ages", V.ref a3), ("objects", V.ref a4)] : List (Str × V)))) p = some (.ins (He.ga K "Site") dx ([("number", V.int i), ("mail", V.ref a1), ("ages", V.ref a3), ("objects", V.ref a4)] : List (Str × V))) := upd_same
    revert A4 hp4
    generalize (upd G4 p (.ins (He.ga K "Site") dx ([("number", V.int i), ("mail", V.ref a1), ("ages", V.ref a3), ("objects", V.ref a4)] : List (Str × V)))) = H4
    intro A4 hp4
    refine ⟨(by show 1 ≤ sizeLine; decide), fun l0 h0 => ?_⟩
    refine ⟨l0, 8, [.non], rfl, rfl, upd_same, by decide, by decide, (by show 1 * 8 ≤ sizeLine; decide), fun a5 hy => ?_⟩
    have n0 : l0 ≠ a5 := ne_of_none upd_same hy
    have hx5 : H4 a5 = none := by rw [upd_ne n0.symm] at hy; exact hy
    have s5 : Same H4 (upd (upd H4 l0 (.lst [.non])) a5 (.lst (List.replicate 8 .non))) := fun b o e => by
      rw [upd_ne (ne_of_none e hx5), upd_ne (ne_of_none e h0)]; exact e
    rw [show (List.replicate (8 : Int).toNat [V.non]).flatten = List.replicate 8 V.non from rfl]
    have C5 := A4.add (a := a5) .vars s5 hx5 upd_same (by intro z; simp [PMail] at z) (fun y z => z.elim) ⟨_, rfl, .cons .non (.cons .non (.cons .non (.cons .non (.cons .non (.cons .non (.cons .non (.cons .non .nil)))))))⟩
    have gp5 := s5 _ _ hp4
    refine ⟨_, rfl, p, _, dx, _, rfl, gp5, T.cl_Site, T.n_Site_variables, (by show 4 < 1000; decide), ?_⟩
    rw [show putF "variables" (V.ref a5) ([("number", V.int i), ("mail", V.ref a1), ("ages", V.ref a3), ("objects", V.ref a4)] : List (Str × V)) = ([("number", V.int i), ("mail", V.ref a1), ("ages", V.ref a3), ("objects", V.ref a4), ("variables", V.ref a5)] : List (Str × V)) from putF_new ["number", "mail", "ages", "objects"] rfl (by decide +kernel)]
    have A5 := C5.own (by rw [gp5]; exact fun xs z => (nomatch z)) (.ins (He.ga K "Site") dx ([("number", V.int i), ("mail", V.ref a1), ("ages", V.ref a3), ("objects", V.ref a4), ("variables", V.ref a5)] : List (Str × V)))
    have hp5 : (upd (upd (upd H4 l0 (.lst [.non])) a5 (.lst (List.replicate 8 .non))) p (.ins (He.ga K "Site") dx ([("number", V.int i), ("mail", V.ref a1), ("ages", V.ref a3), ("objects", V.ref a4), ("variables", V.ref a5)] : List (Str × V)))) p = some (.ins (He.ga K "Site") dx ([("number", V.int i), ("mail", V.ref a1), ("ages", V.ref a3), ("objects", V.ref a4), ("variables", V.ref a5)] : List (Str × V))) := upd_same
    revert A5 hp5
    generalize (upd (upd (upd H4 l0 (.lst [.non])) a5 (.lst (List.replicate 8 .non))) p (.ins (He.ga K "Site") dx ([("number", V.int i), ("mail", V.ref a1), ("ages", V.ref a3), ("objects", V.ref a4), ("variables", V.ref a5)] : List (Str × V)))) = H5
    intro A5 hp5
    refine ⟨(by show 0 ≤ sizeLine; decide), fun a6 hx6 => ?_⟩
    have C6 := A5.add (a := a6) (o := .lst []) .inbox (sm_new hx6) hx6 upd_same (by intro z; simp [PMail] at z) (fun y z => z.elim) ⟨[], rfl, .nil⟩
    have gp6 : (upd H5 a6 (.lst [])) p = _ := (upd_ne (ne_of_none hp5 hx6)).trans hp5
    refine ⟨_, rfl, p, _, dx, _, rfl, gp6, T.cl_Site, T.n_Site_inbox, (by show 5 < 1000; decide), ?_⟩
    rw [show putF "inbox" (V.ref a6) ([("number", V.int i), ("mail", V.ref a1), ("ages", V.ref a3), ("objects", V.ref a4), ("variables", V.ref a5)] : List (Str × V)) = ([("number", V.int i), ("mail", V.ref a1), ("ages", V.ref a3), ("objects", V.ref a4), ("variables", V.ref a5), ("inbox", V.ref a6)] : List (Str × V)) from putF_new ["number", "mail", "ages", "objects", "variables"] rfl (by decide +kernel)]
    have A6 := C6.own (by rw [gp6]; exact fun xs z => (nomatch z)) (.ins (He.ga K "Site") dx ([("number", V.int i), ("mail", V.ref a1), ("ages", V.ref a3), ("objects", V.ref a4), ("variables", V.ref a5), ("inbox", V.ref a6)] : List (Str × V)))
    have hp6 : (upd (upd H5 a6 (.lst [])) p (.ins (He.ga K "Site") dx ([("number", V.int i), ("mail", V.ref a1), ("ages", V.ref a3), ("objects", V.ref a4), ("variables", V.ref a5), ("inbox", V.ref a6)] : List (Str × V)))) p = some (.ins (He.ga K "Site") dx ([("number", V.int i), ("mail", V.ref a1), ("ages", V.ref a3), ("objects", V.ref a4), ("variables", V.ref a5), ("inbox", V.ref a6)] : List (Str × V))) := upd_same
    revert A6 hp6
    generalize (upd (upd H5 a6 (.lst [])) p (.ins (He.ga K "Site") dx ([("number", V.int i), ("mail", V.ref a1), ("ages", V.ref a3), ("objects", V.ref a4), ("variables", V.ref a5), ("inbox", V.ref a6)] : List (Str × V)))) = H6
    intro A6 hp6
    refine fun a7 d7 hx7 hdx7 hne7 => ⟨a7, d7, rfl, upd_same, fun l7 hl7 => ⟨rfl, ?_⟩⟩
    obtain ⟨s7, hz7, hm7, nl7⟩ := made_two (fs := numL l7 0) (o := .dK []) hx7 hdx7 hne7 hl7
    have g7 : (upd (upd (upd (upd H6 d7 (.own a7)) a7 (.ins (He.ga K "Numbered") d7 [])) l7 (.dK [])) a7 (.ins (He.ga K "Numbered") d7 (numL l7 0))) a7 = some (.ins (He.ga K "Numbered") d7 (numL l7 0)) := upd_same
    revert s7 hm7 g7
    generalize (upd (upd (upd (upd H6 d7 (.own a7)) a7 (.ins (He.ga K "Numbered") d7 [])) l7 (.dK [])) a7 (.ins (He.ga K "Numbered") d7 (numL l7 0))) = G7
    intro s7 hm7 g7
    have C7 := add2 A6 (a := l7) (b := a7) .parD .parc s7 hz7 hx7 nl7 hm7 g7 (by intro z; simp [PMail] at z) (by intro z; simp [PMail] at z) (fun z => (nomatch z)) (fun y z => by first | exact z.elim | (obtain ⟨_, z, _⟩ := z; cases z)) (fun y z => .inl z) ⟨[], rfl, .nil⟩ ⟨d7, by show HO.ins _ _ _ = HO.ins _ _ (numL (upm (upm _ .parD l7) .parc a7 .parD) 0); simp only [upm_same, ne_eq, reduceCtorEq, not_false_eq_true, upm_ne]⟩
    have gp7 := s7 _ _ hp6
    refine ⟨_, rfl, p, _, dx, _, rfl, gp7, T.cl_Site, T.n_Site_parcels, (by show 6 < 1000; decide), ?_⟩
    rw [show putF "parcels" (V.ref a7) ([("number", V.int i), ("mail", V.ref a1), ("ages", V.ref a3), ("objects", V.ref a4), ("variables", V.ref a5), ("inbox", V.ref a6)] : List (Str × V)) = ([("number", V.int i), ("mail", V.ref a1), ("ages", V.ref a3), ("objects", V.ref a4), ("variables", V.ref a5), ("inbox", V.ref a6), ("parcels", V.ref a7)] : List (Str × V)) from putF_new ["number", "mail", "ages", "objects", "variables", "inbox"] rfl (by decide +kernel)]
    have A7 := C7.own (by rw [gp7]; exact fun xs z => (nomatch z)) (.ins (He.ga K "Site") dx ([("number", V.int i), ("mail", V.ref a1), ("ages", V.ref a3), ("objects", V.ref a4), ("variables", V.ref a5), ("inbox", V.ref a6), ("parcels", V.ref a7)] : List (Str × V)))
    have hp7 : (upd G7 p (.ins (He.ga K "Site") dx ([("number", V.int i), ("mail", V.ref a1), ("ages", V.ref a3), ("objects", V.ref a4), ("variables", V.ref a5), ("inbox", V.ref a6), ("parcels", V.ref a7)] : List (Str × V)))) p = some (.ins (He.ga K "Site") dx ([("number", V.int i), ("mail", V.ref a1), ("ages", V.ref a3), ("objects", V.ref a4), ("variables", V.ref a5), ("inbox", V.ref a6), ("parcels", V.ref a7)] : List (Str × V))) := upd_same
    revert A7 hp7
    generalize (upd G7 p (.ins (He.ga K "Site") dx ([("number", V.int i), ("mail", V.ref a1), ("ages", V.ref a3), ("objects", V.ref a4), ("variables", V.ref a5), ("inbox", V.ref a6), ("parcels", V.ref a7)] : List (Str × V)))) = H7
    intro A7 hp7
    refine fun a8 d8 hx8 hdx8 hne8 => ⟨a8, d8, rfl, upd_same, fun l8 hl8 => ⟨rfl, ?_⟩⟩
    obtain ⟨s8, hz8, hm8, nl8⟩ := made_two (fs := numL l8 0) (o := .dK []) hx8 hdx8 hne8 hl8
    have g8 : (upd (upd (upd (upd H7 d8 (.own a8)) a8 (.ins (He.ga K "Numbered") d8 [])) l8 (.dK [])) a8 (.ins (He.ga K "Numbered") d8 (numL l8 0))) a8 = some (.ins (He.ga K "Numbered") d8 (numL l8 0)) := upd_same
    revert s8 hm8 g8
    generalize (upd (upd (upd (upd H7 d8 (.own a8)) a8 (.ins (He.ga K "Numbered") d8 [])) l8 (.dK [])) a8 (.ins (He.ga K "Numbered") d8 (numL l8 0))) = G8
    intro s8 hm8 g8
    have C8 := add2 A7 (a := l8) (b := a8) .queD .ques s8 hz8 hx8 nl8 hm8 g8 (by intro z; simp [PMail] at z) (by intro z; simp [PMail] at z) (fun z => (nomatch z)) (fun y z => by first | exact z.elim | (obtain ⟨_, z, _⟩ := z; cases z)) (fun y z => .inl z) ⟨[], rfl, .nil⟩ ⟨d8, by show HO.ins _ _ _ = HO.ins _ _ (numL (upm (upm _ .queD l8) .ques a8 .queD) 0); simp only [upm_same, ne_eq, reduceCtorEq, not_false_eq_true, upm_ne]⟩
    have gp8 := s8 _ _ hp7
    refine ⟨_, rfl, p, _, dx, _, rfl, gp8, T.cl_Site, T.n_Site_questions, (by show 7 < 1000; decide), ?_⟩
    rw [show putF "questions" (V.ref a8) ([("number", V.int i), ("mail", V.ref a1), ("ages", V.ref a3), ("objects", V.ref a4), ("variables", V.ref a5), ("inbox", V.ref a6), ("parcels", V.ref a7)] : List (Str × V)) = ([("number", V.int i), ("mail", V.ref a1), ("ages", V.ref a3), ("objects", V.ref a4), ("variables", V.ref a5), ("inbox", V.ref a6), ("parcels", V.ref a7), ("questions", V.ref a8)] : List (Str × V)) from putF_new ["number", "mail", "ages", "objects", "variables", "inbox", "parcels"] rfl (by decide +kernel)]
    have A8 := C8.own (by rw [gp8]; exact fun xs z => (nomatch z)) (.ins (He.ga K "Site") dx ([("number", V.int i), ("mail", V.ref a1), ("ages", V.ref a3), ("objects", V.ref a4), ("variables", V.ref a5), ("inbox", V.ref a6), ("parcels", V.ref a7), ("questions", V.ref a8)] : List (Str × V)))
    have hp8 : (upd G8 p (.ins (He.ga K "Site") dx ([("number", V.int i), ("mail", V.ref a1), ("ages", V.ref a3), ("objects", V.ref a4), ("variables", V.ref a5), ("inbox", V.ref a6), ("parcels", V.ref a7), ("questions", V.ref a8)] : List (Str × V)))) p = some (.ins (He.ga K "Site") dx ([("number", V.int i), ("mail", V.ref a1), ("ages", V.ref a3), ("objects", V.ref a4), ("variables", V.ref a5), ("inbox", V.ref a6), ("parcels", V.ref a7), ("questions", V.ref a8)] : List (Str × V))) := upd_same
    revert A8 hp8
    generalize (upd G8 p (.ins (He.ga K "Site") dx ([("number", V.int i), ("mail", V.ref a1), ("ages", V.ref a3), ("objects", V.ref a4), ("variables", V.ref a5), ("inbox", V.ref a6), ("parcels", V.ref a7), ("questions", V.ref a8)] : List (Str × V)))) = H8
    intro A8 hp8
    refine ⟨(by show 0 ≤ sizeLine; decide), fun a9 hx9 => ?_⟩
    have C9 := A8.add (a := a9) (o := .lst []) .arr (sm_new hx9) hx9 upd_same (by intro z; simp [PMail] at z) (fun y z => z.elim) ⟨[], rfl, .nil⟩
    have gp9 : (upd H8 a9 (.lst [])) p = _ := (upd_ne (ne_of_none hp8 hx9)).trans hp8
    refine ⟨_, rfl, p, _, dx, _, rfl, gp9, T.cl_Site, T.n_Site_arrivals, (by show 8 < 1000; decide), ?_⟩
    rw [show putF "arrivals" (V.ref a9) ([("number", V.int i), ("mail", V.ref a1), ("ages", V.ref a3), ("objects", V.ref a4), ("variables", V.ref a5), ("inbox", V.ref a6), ("parcels", V.ref a7), ("questions", V.ref a8)] : List (Str × V)) = ([("number", V.int i), ("mail", V.ref a1), ("ages", V.ref a3), ("objects", V.ref a4), ("variables", V.ref a5), ("inbox", V.ref a6), ("parcels", V.ref a7), ("questions", V.ref a8), ("arrivals", V.ref a9)] : List (Str × V)) from putF_new ["number", "mail", "ages", "objects", "variables", "inbox", "parcels", "questions"] rfl (by decide +kernel)]
    have A9 := C9.own (by rw [gp9]; exact fun xs z => (nomatch z)) (.ins (He.ga K "Site") dx ([("number", V.int i), ("mail", V.ref a1), ("ages", V.ref a3), ("objects", V.ref a4), ("variables", V.ref a5), ("inbox", V.ref a6), ("parcels", V.ref a7), ("questions", V.ref a8), ("arrivals", V.ref a9)] : List (Str × V)))
    have hp9 : (upd (upd H8 a9 (.lst [])) p (.ins (He.ga K "Site") dx ([("number", V.int i), ("mail", V.ref a1), ("ages", V.ref a3), ("objects", V.ref a4), ("variables", V.ref a5), ("inbox", V.ref a6), ("parcels", V.ref a7), ("questions", V.ref a8), ("arrivals", V.ref a9)] : List (Str × V)))) p = some (.ins (He.ga K "Site") dx ([("number", V.int i), ("mail", V.ref a1), ("ages", V.ref a3), ("objects", V.ref a4), ("variables", V.ref a5), ("inbox", V.ref a6), ("parcels", V.ref a7), ("questions", V.ref a8), ("arrivals", V.ref a9)] : List (Str × V))) := upd_same
    revert A9 hp9
    generalize (upd (upd H8 a9 (.lst [])) p (.ins (He.ga K "Site") dx ([("number", V.int i), ("mail", V.ref a1), ("ages", V.ref a3), ("objects", V.ref a4), ("variables", V.ref a5), ("inbox", V.ref a6), ("parcels", V.ref a7), ("questions", V.ref a8), ("arrivals", V.ref a9)] : List (Str × V)))) = H9
    intro A9 hp9
    refine fun a10 hx10 => ?_
    have C10 := A9.add (a := a10) (o := .dT []) .hold (sm_new hx10) hx10 upd_same (by intro z; simp [PMail] at z) (fun y z => z.elim) rfl
    have gp10 : (upd H9 a10 (.dT [])) p = _ := (upd_ne (ne_of_none hp9 hx10)).trans hp9
    refine ⟨_, rfl, p, _, dx, _, rfl, gp10, T.cl_Site, T.n_Site_holdings, (by show 9 < 1000; decide), ?_⟩
    rw [show putF "holdings" (V.ref a10) ([("number", V.int i), ("mail", V.ref a1), ("ages", V.ref a3), ("objects", V.ref a4), ("variables", V.ref a5), ("inbox", V.ref a6), ("parcels", V.ref a7), ("questions", V.ref a8), ("arrivals", V.ref a9)] : List (Str × V)) = ([("number", V.int i), ("mail", V.ref a1), ("ages", V.ref a3), ("objects", V.ref a4), ("variables", V.ref a5), ("inbox", V.ref a6), ("parcels", V.ref a7), ("questions", V.ref a8), ("arrivals", V.ref a9), ("holdings", V.ref a10)] : List (Str × V)) from putF_new ["number", "mail", "ages", "objects", "variables", "inbox", "parcels", "questions", "arrivals"] rfl (by decide +kernel)]
    have A10 := C10.own (by rw [gp10]; exact fun xs z => (nomatch z)) (.ins (He.ga K "Site") dx ([("number", V.int i), ("mail", V.ref a1), ("ages", V.ref a3), ("objects", V.ref a4), ("variables", V.ref a5), ("inbox", V.ref a6), ("parcels", V.ref a7), ("questions", V.ref a8), ("arrivals", V.ref a9), ("holdings", V.ref a10)] : List (Str × V)))
    have hp10 : (upd (upd H9 a10 (.dT [])) p (.ins (He.ga K "Site") dx ([("number", V.int i), ("mail", V.ref a1), ("ages", V.ref a3), ("objects", V.ref a4), ("variables", V.ref a5), ("inbox", V.ref a6), ("parcels", V.ref a7), ("questions", V.ref a8), ("arrivals", V.ref a9), ("holdings", V.ref a10)] : List (Str × V)))) p = some (.ins (He.ga K "Site") dx ([("number", V.int i), ("mail", V.ref a1), ("ages", V.ref a3), ("objects", V.ref a4), ("variables", V.ref a5), ("inbox", V.ref a6), ("parcels", V.ref a7), ("questions", V.ref a8), ("arrivals", V.ref a9), ("holdings", V.ref a10)] : List (Str × V))) := upd_same
    revert A10 hp10
    generalize (upd (upd H9 a10 (.dT [])) p (.ins (He.ga K "Site") dx ([("number", V.int i), ("mail", V.ref a1), ("ages", V.ref a3), ("objects", V.ref a4), ("variables", V.ref a5), ("inbox", V.ref a6), ("parcels", V.ref a7), ("questions", V.ref a8), ("arrivals", V.ref a9), ("holdings", V.ref a10)] : List (Str × V)))) = H10
    intro A10 hp10
    refine fun a11 hx11 => ?_
    have C11 := A10.add (a := a11) (o := .dT []) .ents (sm_new hx11) hx11 upd_same (by intro z; simp [PMail] at z) (fun y z => z.elim) rfl
    have gp11 : (upd H10 a11 (.dT [])) p = _ := (upd_ne (ne_of_none hp10 hx11)).trans hp10
    refine ⟨_, rfl, p, _, dx, _, rfl, gp11, T.cl_Site, T.n_Site_entries, (by show 10 < 1000; decide), ?_⟩
    rw [show putF "entries" (V.ref a11) ([("number", V.int i), ("mail", V.ref a1), ("ages", V.ref a3), ("objects", V.ref a4), ("variables", V.ref a5), ("inbox", V.ref a6), ("parcels", V.ref a7), ("questions", V.ref a8), ("arrivals", V.ref a9), ("holdings", V.ref a10)] : List (Str × V)) = ([("number", V.int i), ("mail", V.ref a1), ("ages", V.ref a3), ("objects", V.ref a4), ("variables", V.ref a5), ("inbox", V.ref a6), ("parcels", V.ref a7), ("questions", V.ref a8), ("arrivals", V.ref a9), ("holdings", V.ref a10), ("entries", V.ref a11)] : List (Str × V)) from putF_new ["number", "mail", "ages", "objects", "variables", "inbox", "parcels", "questions", "arrivals", "holdings"] rfl (by decide +kernel)]
    have A11 := C11.own (by rw [gp11]; exact fun xs z => (nomatch z)) (.ins (He.ga K "Site") dx ([("number", V.int i), ("mail", V.ref a1), ("ages", V.ref a3), ("objects", V.ref a4), ("variables", V.ref a5), ("inbox", V.ref a6), ("parcels", V.ref a7), ("questions", V.ref a8), ("arrivals", V.ref a9), ("holdings", V.ref a10), ("entries", V.ref a11)] : List (Str × V)))
    have hp11 : (upd (upd H10 a11 (.dT [])) p (.ins (He.ga K "Site") dx ([("number", V.int i), ("mail", V.ref a1), ("ages", V.ref a3), ("objects", V.ref a4), ("variables", V.ref a5), ("inbox", V.ref a6), ("parcels", V.ref a7), ("questions", V.ref a8), ("arrivals", V.ref a9), ("holdings", V.ref a10), ("entries", V.ref a11)] : List (Str × V)))) p = some (.ins (He.ga K "Site") dx ([("number", V.int i), ("mail", V.ref a1), ("ages", V.ref a3), ("objects", V.ref a4), ("variables", V.ref a5), ("inbox", V.ref a6), ("parcels", V.ref a7), ("questions", V.ref a8), ("arrivals", V.ref a9), ("holdings", V.ref a10), ("entries", V.ref a11)] : List (Str × V))) := upd_same
    revert A11 hp11
    generalize (upd (upd H10 a11 (.dT [])) p (.ins (He.ga K "Site") dx ([("number", V.int i), ("mail", V.ref a1), ("ages", V.ref a3), ("objects", V.ref a4), ("variables", V.ref a5), ("inbox", V.ref a6), ("parcels", V.ref a7), ("questions", V.ref a8), ("arrivals", V.ref a9), ("holdings", V.ref a10), ("entries", V.ref a11)] : List (Str × V)))) = H11
    intro A11 hp11
    refine fun a12 hx12 => ?_
    have C12 := A11.add (a := a12) (o := .dK []) .awt (sm_new hx12) hx12 upd_same (by intro z; simp [PMail] at z) (fun y z => z.elim) rfl
    have gp12 : (upd H11 a12 (.dK [])) p = _ := (upd_ne (ne_of_none hp11 hx12)).trans hp11
    refine ⟨_, rfl, p, _, dx, _, rfl, gp12, T.cl_Site, T.n_Site__awaited, (by show 11 < 1000; decide), ?_⟩
    rw [show putF "_awaited" (V.ref a12) ([("number", V.int i), ("mail", V.ref a1), ("ages", V.ref a3), ("objects", V.ref a4), ("variables", V.ref a5), ("inbox", V.ref a6), ("parcels", V.ref a7), ("questions", V.ref a8), ("arrivals", V.ref a9), ("holdings", V.ref a10), ("entries", V.ref a11)] : List (Str × V)) = ([("number", V.int i), ("mail", V.ref a1), ("ages", V.ref a3), ("objects", V.ref a4), ("variables", V.ref a5), ("inbox", V.ref a6), ("parcels", V.ref a7), ("questions", V.ref a8), ("arrivals", V.ref a9), ("holdings", V.ref a10), ("entries", V.ref a11), ("_awaited", V.ref a12)] : List (Str × V)) from putF_new ["number", "mail", "ages", "objects", "variables", "inbox", "parcels", "questions", "arrivals", "holdings", "entries"] rfl (by decide +kernel)]
    have A12 := C12.own (by rw [gp12]; exact fun xs z => (nomatch z)) (.ins (He.ga K "Site") dx ([("number", V.int i), ("mail", V.ref a1), ("ages", V.ref a3), ("objects", V.ref a4), ("variables", V.ref a5), ("inbox", V.ref a6), ("parcels", V.ref a7), ("questions", V.ref a8), ("arrivals", V.ref a9), ("holdings", V.ref a10), ("entries", V.ref a11), ("_awaited", V.ref a12)] : List (Str × V)))
    have hp12 : (upd (upd H11 a12 (.dK [])) p (.ins (He.ga K "Site") dx ([("number", V.int i), ("mail", V.ref a1), ("ages", V.ref a3), ("objects", V.ref a4), ("variables", V.ref a5), ("inbox", V.ref a6), ("parcels", V.ref a7), ("questions", V.ref a8), ("arrivals", V.ref a9), ("holdings", V.ref a10), ("entries", V.ref a11), ("_awaited", V.ref a12)] : List (Str × V)))) p = some (.ins (He.ga K "Site") dx ([("number", V.int i), ("mail", V.ref a1), ("ages", V.ref a3), ("objects", V.ref a4), ("variables", V.ref a5), ("inbox", V.ref a6), ("parcels", V.ref a7), ("questions", V.ref a8), ("arrivals", V.ref a9), ("holdings", V.ref a10), ("entries", V.ref a11), ("_awaited", V.ref a12)] : List (Str × V))) := upd_same
    revert A12 hp12
    generalize (upd (upd H11 a12 (.dK [])) p (.ins (He.ga K "Site") dx ([("number", V.int i), ("mail", V.ref a1), ("ages", V.ref a3), ("objects", V.ref a4), ("variables", V.ref a5), ("inbox", V.ref a6), ("parcels", V.ref a7), ("questions", V.ref a8), ("arrivals", V.ref a9), ("holdings", V.ref a10), ("entries", V.ref a11), ("_awaited", V.ref a12)] : List (Str × V)))) = H12
    intro A12 hp12
    refine ⟨(by show 0 ≤ sizeLine; decide), fun a13 hx13 => ?_⟩
    have C13 := A12.add (a := a13) (o := .lst []) .noted (sm_new hx13) hx13 upd_same (by intro z; simp [PMail] at z) (fun y z => z.elim) rfl
    have gp13 : (upd H12 a13 (.lst [])) p = _ := (upd_ne (ne_of_none hp12 hx13)).trans hp12
    refine ⟨_, rfl, p, _, dx, _, rfl, gp13, T.cl_Site, T.n_Site__noted, (by show 12 < 1000; decide), ?_⟩
    rw [show putF "_noted" (V.ref a13) ([("number", V.int i), ("mail", V.ref a1), ("ages", V.ref a3), ("objects", V.ref a4), ("variables", V.ref a5), ("inbox", V.ref a6), ("parcels", V.ref a7), ("questions", V.ref a8), ("arrivals", V.ref a9), ("holdings", V.ref a10), ("entries", V.ref a11), ("_awaited", V.ref a12)] : List (Str × V)) = ([("number", V.int i), ("mail", V.ref a1), ("ages", V.ref a3), ("objects", V.ref a4), ("variables", V.ref a5), ("inbox", V.ref a6), ("parcels", V.ref a7), ("questions", V.ref a8), ("arrivals", V.ref a9), ("holdings", V.ref a10), ("entries", V.ref a11), ("_awaited", V.ref a12), ("_noted", V.ref a13)] : List (Str × V)) from putF_new ["number", "mail", "ages", "objects", "variables", "inbox", "parcels", "questions", "arrivals", "holdings", "entries", "_awaited"] rfl (by decide +kernel)]
    have A13 := C13.own (by rw [gp13]; exact fun xs z => (nomatch z)) (.ins (He.ga K "Site") dx ([("number", V.int i), ("mail", V.ref a1), ("ages", V.ref a3), ("objects", V.ref a4), ("variables", V.ref a5), ("inbox", V.ref a6), ("parcels", V.ref a7), ("questions", V.ref a8), ("arrivals", V.ref a9), ("holdings", V.ref a10), ("entries", V.ref a11), ("_awaited", V.ref a12), ("_noted", V.ref a13)] : List (Str × V)))
    have hp13 : (upd (upd H12 a13 (.lst [])) p (.ins (He.ga K "Site") dx ([("number", V.int i), ("mail", V.ref a1), ("ages", V.ref a3), ("objects", V.ref a4), ("variables", V.ref a5), ("inbox", V.ref a6), ("parcels", V.ref a7), ("questions", V.ref a8), ("arrivals", V.ref a9), ("holdings", V.ref a10), ("entries", V.ref a11), ("_awaited", V.ref a12), ("_noted", V.ref a13)] : List (Str × V)))) p = some (.ins (He.ga K "Site") dx ([("number", V.int i), ("mail", V.ref a1), ("ages", V.ref a3), ("objects", V.ref a4), ("variables", V.ref a5), ("inbox", V.ref a6), ("parcels", V.ref a7), ("questions", V.ref a8), ("arrivals", V.ref a9), ("holdings", V.ref a10), ("entries", V.ref a11), ("_awaited", V.ref a12), ("_noted", V.ref a13)] : List (Str × V))) := upd_same
    revert A13 hp13
    generalize (upd (upd H12 a13 (.lst [])) p (.ins (He.ga K "Site") dx ([("number", V.int i), ("mail", V.ref a1), ("ages", V.ref a3), ("objects", V.ref a4), ("variables", V.ref a5), ("inbox", V.ref a6), ("parcels", V.ref a7), ("questions", V.ref a8), ("arrivals", V.ref a9), ("holdings", V.ref a10), ("entries", V.ref a11), ("_awaited", V.ref a12), ("_noted", V.ref a13)] : List (Str × V)))) = H13
    intro A13 hp13
    refine ⟨_, rfl, p, _, dx, _, rfl, hp13, T.cl_Site, T.n_Site__waves, (by show 13 < 1000; decide), ?_⟩
    rw [show putF "_waves" (V.int 0) ([("number", V.int i), ("mail", V.ref a1), ("ages", V.ref a3), ("objects", V.ref a4), ("variables", V.ref a5), ("inbox", V.ref a6), ("parcels", V.ref a7), ("questions", V.ref a8), ("arrivals", V.ref a9), ("holdings", V.ref a10), ("entries", V.ref a11), ("_awaited", V.ref a12), ("_noted", V.ref a13)] : List (Str × V)) = ([("number", V.int i), ("mail", V.ref a1), ("ages", V.ref a3), ("objects", V.ref a4), ("variables", V.ref a5), ("inbox", V.ref a6), ("parcels", V.ref a7), ("questions", V.ref a8), ("arrivals", V.ref a9), ("holdings", V.ref a10), ("entries", V.ref a11), ("_awaited", V.ref a12), ("_noted", V.ref a13), ("_waves", V.int 0)] : List (Str × V)) from putF_new ["number", "mail", "ages", "objects", "variables", "inbox", "parcels", "questions", "arrivals", "holdings", "entries", "_awaited", "_noted"] rfl (by decide +kernel)]
    have A14 := A13.own (by rw [hp13]; exact fun xs z => (nomatch z)) (.ins (He.ga K "Site") dx ([("number", V.int i), ("mail", V.ref a1), ("ages", V.ref a3), ("objects", V.ref a4), ("variables", V.ref a5), ("inbox", V.ref a6), ("parcels", V.ref a7), ("questions", V.ref a8), ("arrivals", V.ref a9), ("holdings", V.ref a10), ("entries", V.ref a11), ("_awaited", V.ref a12), ("_noted", V.ref a13), ("_waves", V.int 0)] : List (Str × V)))
    have hp14 : (upd H13 p (.ins (He.ga K "Site") dx ([("number", V.int i), ("mail", V.ref a1), ("ages", V.ref a3), ("objects", V.ref a4), ("variables", V.ref a5), ("inbox", V.ref a6), ("parcels", V.ref a7), ("questions", V.ref a8), ("arrivals", V.ref a9), ("holdings", V.ref a10), ("entries", V.ref a11), ("_awaited", V.ref a12), ("_noted", V.ref a13), ("_waves", V.int 0)] : List (Str × V)))) p = some (.ins (He.ga K "Site") dx ([("number", V.int i), ("mail", V.ref a1), ("ages", V.ref a3), ("objects", V.ref a4), ("variables", V.ref a5), ("inbox", V.ref a6), ("parcels", V.ref a7), ("questions", V.ref a8), ("arrivals", V.ref a9), ("holdings", V.ref a10), ("entries", V.ref a11), ("_awaited", V.ref a12), ("_noted", V.ref a13), ("_waves", V.int 0)] : List (Str × V))) := upd_same
    revert A14 hp14
    generalize (upd H13 p (.ins (He.ga K "Site") dx ([("number", V.int i), ("mail", V.ref a1), ("ages", V.ref a3), ("objects", V.ref a4), ("variables", V.ref a5), ("inbox", V.ref a6), ("parcels", V.ref a7), ("questions", V.ref a8), ("arrivals", V.ref a9), ("holdings", V.ref a10), ("entries", V.ref a11), ("_awaited", V.ref a12), ("_noted", V.ref a13), ("_waves", V.int 0)] : List (Str × V)))) = H14
    intro A14 hp14
    refine k H14 _ (A14.imp fun x => ⟨fun h => ?_, fun h => ?_⟩) ?_
    · cases x with
      | site => exact absurd rfl h.1
      | out j => have h2 : j ∈ othersL n i := h.2; simp [PMail, h2]
      | outL j => have h2 : j ∈ othersL n i := h.2; simp [PMail, h2]
      | inc j => have h2 : j ∈ othersL n i := h.2; simp [PMail, h2]
      | item j => cases h.2
      | itemL j => cases h.2
      | _ => simp [PMail]
    · cases x with
      | site => simp [PMail] at h
      | out j => simp [PMail] at h; exact ⟨fun z => (nomatch z), h⟩
      | outL j => simp [PMail] at h; exact ⟨fun z => (nomatch z), h⟩
      | inc j => simp [PMail] at h; exact ⟨fun z => (nomatch z), h⟩
      | item j => simp [PMail] at h
      | itemL j => simp [PMail] at h
      | _ => exact ⟨fun z => (nomatch z), trivial⟩
    · rw [hp14]
      refine congrArg some (congrArg (HO.ins _ _) ?_)
      unfold siteL mkS
      simp only [upm_same, ne_eq, reduceCtorEq, not_false_eq_true, upm_ne]
      rw [e2]
      rfl

theorem ok_Site_check_variable (T : Txt K mg) : FnOk P w K mg base (L2.CX P w) 2 (He.ma K (He.ga K "Site") "_check_variable") T.fd_Site_check_variable ["self", "variable"] (spCkV K) := by
  refine T.F_Site_check_variable.ok sc_Site_check_variable (fun vs H Q E h => ?_) (fun cdv A outer s H vs Q E hr h => ?_)
  · obtain ⟨p, v, rfl, qe, q⟩ := h
    rfl
  · obtain ⟨p, v, rfl, qe, q⟩ := h
    refine ⟨_, (pss_one (ps_expr (pe_call (ok_check_index T) (hr.mono (by decide)) (by rfl) T.g_check_index T.F_check_index.kp T.b_check_index .nil (passes_call (takes_of rfl rfl rfl rfl) (fun _ _ _ _ h => h)) (pa_cons (pv 1) (pa_cons (Wo.pe_gint (by rfl) T.c_VARIABLES) (pa_cons pe_str pa_nil)))))), ?_⟩
    refine ⟨_, rfl, ?_⟩
    exact ⟨v, 8, _, rfl, by decide, qe, q⟩

theorem ok_Site_make (T : Txt K mg) : FnOk P w K mg base (L2.CX P w) 3 (He.ma K (He.ga K "Site") "make") T.fd_Site_make ["self", "variable", "size", "mark"] (spSMake K) := by
  refine T.F_Site_make.ok sc_Site_make (fun vs H Q E h => ?_) (fun cdv A outer s H vs Q E hr h => ?_)
  · obtain ⟨M, W, i, v, k, mk, rfl, R, hi, hv, hn, hl, hk, hk2, qe, q⟩ := h
    rfl
  · obtain ⟨M, W, i, v, k, mk, rfl, R, hi, hv, hn, hl, hk, hk2, qe, q⟩ := h
    refine ⟨_, (pss_cons (ps_expr (pe_meth (pv 0) T.cl_Site T.m_Site_check_variable (ok_Site_check_variable T) (hr.mono (by decide)) T.b_Site_check_variable .nil (passes_call (takes_of rfl rfl rfl rfl) (fun _ _ _ _ h => h)) (pa_cons (pv 1) pa_nil)))
    (pss_cons (ps_set (i := 4) sc_Site_make.nd rfl (Or.inl rfl) (pe_tup (pa_cons (pe_fld (pv 0) rfl) (pa_cons (pe_meth (pe_fld (pv 0) rfl) T.cl_Numbered T.m_Numbered_create (ok_Numbered_create T) (hr.mono (by decide)) T.b_Numbered_create .nil pass0 (pa_cons (pe_make T.mk_Item (ok_Item_init T) (hr.mono (by decide)) (by rfl) T.mg_Item T.b_Item_init .nil pass0 (pa_cons (pv 2) (pa_cons (pv 3) pa_nil))) pa_nil)) pa_nil))))
    (pss_cons (ps_asg (pv 4) (pg_sub (pe_fld (pv 0) rfl) (pv 1) set_list))
    (pss_one (ps_ret (pv 4)))))), ?_⟩
    obtain ⟨_, hS, dx, rfl⟩ := R.of hi .site trivial
    refine ⟨_, rfl, _, dx, _, rfl, hS, no_site (by decide +kernel), _, rfl, _, v, rfl, qe, fun hb => ?_⟩
    obtain ⟨_, hO, dx2, rfl⟩ := R.of hi .objs trivial
    obtain ⟨_, hD, rfl⟩ := R.of hi .objD trivial
    refine ⟨_, rfl, _, _, dx, _, _, rfl, hS, T.cl_Site, T.n_Site_number, lk_site_number, ?_⟩
    refine ⟨_, rfl, _, _, dx, _, _, rfl, hS, T.cl_Site, T.n_Site_objects, lk_site_objects, _, dx2, _, rfl, hO, no_num (by decide +kernel), ?_⟩
    refine ⟨_, rfl, _, rfl, fun x dx1 hx hdx hne => ⟨x, dx1, k, mk, rfl, hk, hk2, upd_same, fun l H2 hl h1 h2 up => ⟨rfl, ?_⟩⟩⟩
    have s2 : Same H H2 := fun b o e => up b o (by rw [upd_ne (ne_of_none e hx), upd_ne (ne_of_none e hdx)]; exact e) (ne_of_none e hx)
    have hl0 : H l = none := by
      have nx : l ≠ x := fun e => by rw [e, upd_same] at hl; cases hl
      have nd : l ≠ dx1 := fun e => by rw [e, upd_ne hne, upd_same] at hl; cases hl
      rw [upd_ne nx, upd_ne nd] at hl
      exact hl
    obtain ⟨M', R2, C2, mo⟩ := R.add hi rfl hn (du := dx2) s2 hx hl0 h1 h2
    refine ⟨_, dx2, _, _, _, _, rfl, s2 _ _ hO, s2 _ _ hD, by rw [List.length_map]; omega, ?_⟩
    refine ⟨(by show 2 ≤ sizeLine; decide), fun t ht => ?_⟩
    revert R2 C2 ht
    generalize (upd (upd H2 (M (.of i .objD)) (.dK (putK ((W.st i).objs.map fun n => (Sum.inl n, V.ref (M (.of i (.item n))))) (.inl (W.st i).oc) (.ref x)))) (M (.of i .objs)) (.ins (He.ga K "Numbered") dx2 (numL (M (.of i .objD)) ((W.st i).oc + 1)))) = H3
    intro R2 C2 ht
    have R3 := R2.same (Same.new (o := .tup [.int i, .int (W.st i).oc]) ht)
    have ta : TD (upd H3 t (.tup [.int i, .int (W.st i).oc])) (.ref t) (dOr (some (i, (W.st i).oc))) := .tup upd_same (.cons (.int _) (.cons (.int _) .nil))
    have C3 : ∀ T, Ch T M W H M' (W.set i ((W.st i).add k.toNat mk)) (upd H3 t (.tup [.int i, .int (W.st i).oc])) := fun T => (C2 T).trans (Ch.sm (.of (Same.new ht)))
    revert R3 ta C3
    generalize (upd H3 t (.tup [.int i, .int (W.st i).oc])) = H4
    intro R3 ta C3
    obtain ⟨_, hS4, dx4, rfl⟩ := R3.of (i := i) hi .site trivial
    obtain ⟨_, hV, vs, rfl, tv⟩ := R3.of (i := i) hi .vars trivial
    rw [mo (.of i .site) ⟨hi, trivial⟩] at hS4
    have lv : vs.length = 8 := by rw [tds_len tv, List.length_map, WSt.set_same]; exact hv
    obtain ⟨R5, C5⟩ := R3.setv (i := i) hi tv v.toNat ta
    rw [wset_set, WSt.set_same] at R5 C5
    refine ⟨_, rfl, _, rfl, _, _, dx4, _, _, rfl, hS4, T.cl_Site, T.n_Site_variables, lk_site_variables, _, rfl, _, vs, v, _, rfl, rfl, hV, ixN8 hb lv, _, rfl, ?_⟩
    refine q hb M' _ _ (mo .world trivial) R5 (fun T => (C3 T).trans (C5 T)) (ta.mono (C5 (0, "")).tl)

theorem ok_Site_assign (T : Txt K mg) : FnOk P w K mg base (L2.CX P w) 3 (He.ma K (He.ga K "Site") "assign") T.fd_Site_assign ["self", "source", "target"] (spSAssign K) := by
  refine T.F_Site_assign.ok sc_Site_assign (fun vs H Q E h => ?_) (fun cdv A outer s H vs Q E hr h => ?_)
  · obtain ⟨M, W, i, v, t, rfl, R, hi, hv, qe, q⟩ := h
    rfl
  · obtain ⟨M, W, i, v, t, rfl, R, hi, hv, qe, q⟩ := h
    refine ⟨_, (pss_cons (ps_expr (pe_meth (pv 0) T.cl_Site T.m_Site_check_variable (ok_Site_check_variable T) (hr.mono (by decide)) T.b_Site_check_variable .nil (passes_call (takes_of rfl rfl rfl rfl) (fun _ _ _ _ h => h)) (pa_cons (pv 1) pa_nil)))
    (pss_cons (ps_expr (pe_meth (pv 0) T.cl_Site T.m_Site_check_variable (ok_Site_check_variable T) (hr.mono (by decide)) T.b_Site_check_variable .nil (passes_call (takes_of rfl rfl rfl rfl) (fun _ _ _ _ h => h)) (pa_cons (pv 2) pa_nil)))
    (pss_one (ps_asg (pe_ix ix_list (pe_fld (pv 0) rfl) (pv 1) (fun _ _ => rfl)) (pg_sub (pe_fld (pv 0) rfl) (pv 2) set_list))))), ?_⟩
    obtain ⟨_, hS, dx, rfl⟩ := R.of hi .site trivial
    refine ⟨_, rfl, _, dx, _, rfl, hS, no_site (by decide +kernel), _, rfl, _, v, rfl, fun h => qe fun z => h z.1, fun hb => ?_⟩
    refine ⟨_, rfl, _, dx, _, rfl, hS, no_site (by decide +kernel), _, rfl, _, t, rfl, fun h => qe fun z => h z.2, fun hb2 => ?_⟩
    obtain ⟨_, hV, vs, rfl, tv⟩ := R.of hi .vars trivial
    have lv : vs.length = 8 := by rw [tds_len tv, List.length_map, hv]
    obtain ⟨r, hr1⟩ : ∃ r, (W.st i).vars[v.toNat]? = some r := ⟨_, List.getElem?_eq_getElem (by omega)⟩
    obtain ⟨a, ha, ta⟩ := tds_get tv (k := v.toNat) (d := dOr r) (by rw [List.getElem?_map, hr1]; rfl)
    obtain ⟨R2, C2⟩ := R.setv hi tv t.toNat ta
    refine ⟨_, rfl, _, _, dx, _, _, rfl, hS, T.cl_Site, T.n_Site_variables, lk_site_variables, _, rfl, _, vs, v, a, rfl, rfl, SqL.of hV, atI8 hb lv ha, ?_⟩
    exact ⟨_, rfl, _, _, dx, _, _, rfl, hS, T.cl_Site, T.n_Site_variables, lk_site_variables, _, rfl, _, vs, t, _, rfl, rfl, hV, ixN8 hb2 lv, q ⟨hb, hb2⟩ _ _ hr1 R2 C2⟩

theorem ok_Site_reset (T : Txt K mg) : FnOk P w K mg base (L2.CX P w) 3 (He.ma K (He.ga K "Site") "reset") T.fd_Site_reset ["self", "variable"] (spSReset K) := by
  refine T.F_Site_reset.ok sc_Site_reset (fun vs H Q E h => ?_) (fun cdv A outer s H vs Q E hr h => ?_)
  · obtain ⟨M, W, i, v, rfl, R, hi, hv, qe, q⟩ := h
    rfl
  · obtain ⟨M, W, i, v, rfl, R, hi, hv, qe, q⟩ := h
    refine ⟨_, (pss_cons (ps_expr (pe_meth (pv 0) T.cl_Site T.m_Site_check_variable (ok_Site_check_variable T) (hr.mono (by decide)) T.b_Site_check_variable .nil (passes_call (takes_of rfl rfl rfl rfl) (fun _ _ _ _ h => h)) (pa_cons (pv 1) pa_nil)))
    (pss_one (ps_asg pe_non (pg_sub (pe_fld (pv 0) rfl) (pv 1) set_list)))), ?_⟩
    obtain ⟨_, hS, dx, rfl⟩ := R.of hi .site trivial
    refine ⟨_, rfl, _, dx, _, rfl, hS, no_site (by decide +kernel), _, rfl, _, v, rfl, qe, fun hb => ?_⟩
    obtain ⟨_, hV, vs, rfl, tv⟩ := R.of hi .vars trivial
    have lv : vs.length = 8 := by rw [tds_len tv, List.length_map, hv]
    obtain ⟨R2, C2⟩ := R.setv hi tv v.toNat (r := none) (a := .non) .non
    exact ⟨_, rfl, _, _, dx, _, _, rfl, hS, T.cl_Site, T.n_Site_variables, lk_site_variables, _, rfl, _, vs, v, _, rfl, rfl, hV, ixN8 hb lv, q hb _ R2 C2⟩

theorem ok_Site_reference (T : Txt K mg) : FnOk P w K mg base (L2.CX P w) 1 (He.ma K (He.ga K "Site") "_reference") T.fd_Site_reference ["self", "variable"] (spSRef K) := by
  refine T.F_Site_reference.ok sc_Site_reference (fun vs H Q E h => ?_) (fun cdv A outer s H vs Q E hr h => ?_)
  · obtain ⟨M, W, i, v, rfl, R, hi, hv, hb, qe, q⟩ := h
    rfl
  · obtain ⟨M, W, i, v, rfl, R, hi, hv, hb, qe, q⟩ := h
    refine ⟨_, (pss_cons (ps_set (i := 2) sc_Site_reference.nd rfl (Or.inl rfl) (pe_ix ix_list (pe_fld (pv 0) rfl) (pv 1) (fun _ _ => rfl)))
    (pss_cons (ps_if (pt_cmpR op_isN (pv 2) pe_non (nomark _))
      (pss_one (ps_raise rfl (takes_of rfl rfl rfl rfl) (pmk_own PySem.F.excBase_ValueError T.x_Empty.1 T.mg_Empty T.x_Empty.2.1 (raises_own T.x_Empty.2.2.1 T.x_Empty.2.2.2) rfl)))
      pss_nil)
    (pss_one (ps_ret (pv 2))))), ?_⟩
    obtain ⟨_, hS, dx, rfl⟩ := R.of hi .site trivial
    obtain ⟨_, hV, vs, rfl, tv⟩ := R.of hi .vars trivial
    have lv : vs.length = 8 := by rw [tds_len tv, List.length_map, hv]
    obtain ⟨r, hr1⟩ : ∃ r, (W.st i).vars[v.toNat]? = some r := ⟨_, List.getElem?_eq_getElem (by omega)⟩
    obtain ⟨a, ha, ta⟩ := tds_get tv (k := v.toNat) (d := dOr r) (by rw [List.getElem?_map, hr1]; rfl)
    refine ⟨_, rfl, _, _, dx, _, _, rfl, hS, T.cl_Site, T.n_Site_variables, lk_site_variables, _, rfl, _, vs, v, a, rfl, rfl, SqL.of hV, atI8 hb lv ha, ?_⟩
    refine ⟨_, rfl, rfl, _, rfl, ?_⟩
    cases r with
    | none =>
      cases ta
      exact iteT (qe hr1)
    | some r =>
      have na : a ≠ .non := fun e => by subst e; cases ta
      refine ite2 (fun c => absurd (of_decide_eq_true c) na) (fun _ => ?_)
      exact ⟨_, rfl, q r a hr1 ta⟩

theorem ok_Site_near_item (T : Txt K mg) : FnOk P w K mg base (L2.CX P w) 2 (He.ma K (He.ga K "Site") "_near_item") T.fd_Site_near_item ["self", "variable"] (spSNear K) := by
  refine T.F_Site_near_item.ok sc_Site_near_item (fun vs H Q E h => ?_) (fun cdv A outer s H vs Q E hr h => ?_)
  · obtain ⟨M, W, i, v, rfl, R, hi, hv, hb, q1, q2, q3⟩ := h
    rfl
  · obtain ⟨M, W, i, v, rfl, R, hi, hv, hb, q1, q2, q3⟩ := h
    refine ⟨_, (pss_cons (ps_asg (pe_meth (pv 0) T.cl_Site T.m_Site_reference (ok_Site_reference T) (hr.mono (by decide)) T.b_Site_reference .nil (passes_call (takes_of rfl rfl rfl rfl) (fun _ _ _ _ h => h)) (pa_cons (pv 1) pa_nil)) (pg_tup (by rfl) (pgs_cons (pg_name (i := 2) sc_Site_near_item.nd rfl (Or.inl rfl)) (pgs_cons (pg_name (i := 3) sc_Site_near_item.nd rfl (Or.inl rfl)) pgs_nil))))
    (pss_cons (ps_if (pt_cmpR op_ne (pv 2) (pe_fld (pv 0) rfl) (nomark _))
      (pss_one (ps_raise rfl (takes_of rfl rfl rfl rfl) (pmk_own PySem.F.excBase_ValueError T.x_NotNear.1 T.mg_NotNear T.x_NotNear.2.1 (raises_own T.x_NotNear.2.2.1 T.x_NotNear.2.2.2) rfl)))
      pss_nil)
    (pss_one (ps_ret (pe_dget (hu2 hr.units) (pe_fld (pe_fld (pv 0) rfl) rfl) (pv 3) (fun _ _ => rfl)))))), ?_⟩
    obtain ⟨_, hS, dx, rfl⟩ := R.of hi .site trivial
    refine ⟨_, rfl, _, dx, _, rfl, hS, no_site (by decide +kernel), _, rfl, M, W, i, v, rfl, R, hi, hv, hb, q1, fun r a hr1 ta => ?_⟩
    obtain ⟨b, rfl, hb2, t2⟩ : ∃ b, a = .ref b ∧ H b = some (.tup [.int r.1, .int r.2]) ∧ True := by
      cases ta with
      | tup h t =>
        cases t with
        | cons h1 t =>
          cases t with
          | cons h2 t =>
            cases t
            cases h1
            cases h2
            exact ⟨_, rfl, h, trivial⟩
    refine ⟨b, _, rfl, SqT.of hb2, rfl, _, _, rfl, _, _, rfl, rfl, ?_⟩
    refine ⟨_, rfl, _, rfl, _, _, dx, _, _, rfl, hS, T.cl_Site, T.n_Site_number, lk_site_number, rfl, _, rfl, ?_⟩
    by_cases e : r.1 = i
    · rw [show (!decide (V.int r.1 = V.int i)) = false by rw [e]; simp]
      refine iteF ?_
      obtain ⟨r1, r2⟩ := r
      cases (show r1 = i from e)
      have ho := (q3 r2 hr1).1
      obtain ⟨_, hO, dx2, rfl⟩ := R.of hi .objs trivial
      obtain ⟨_, hD, rfl⟩ := R.of hi .objD trivial
      have g := DGet.k (k := Sum.inl r2) hD
      rw [valV_map ho] at g
      exact ⟨_, rfl, _, _, dx, _, _, rfl, hS, T.cl_Site, T.n_Site_objects, lk_site_objects, _, _, dx2, _, _, rfl, hO, T.cl_Numbered, T.n_Numbered_things, lk_num_things, _, rfl, _, _, rfl, g, (q3 r2 hr1).2 ho⟩
    · rw [show (!decide (V.int r.1 = V.int i)) = true by simp [e]]
      exact iteT (q2 r hr1 e)

theorem ok_Site_look (T : Txt K mg) : FnOk P w K mg base (L2.CX P w) 3 (He.ma K (He.ga K "Site") "look") T.fd_Site_look ["self", "variable"] (spSLook K) := by
  refine T.F_Site_look.ok sc_Site_look (fun vs H Q E h => ?_) (fun cdv A outer s H vs Q E hr h => ?_)
  · obtain ⟨M, W, i, v, rfl, R, hi, hv, qe, q⟩ := h
    rfl
  · obtain ⟨M, W, i, v, rfl, R, hi, hv, qe, q⟩ := h
    refine ⟨_, (pss_cons (ps_expr (pe_meth (pv 0) T.cl_Site T.m_Site_check_variable (ok_Site_check_variable T) (hr.mono (by decide)) T.b_Site_check_variable .nil (passes_call (takes_of rfl rfl rfl rfl) (fun _ _ _ _ h => h)) (pa_cons (pv 1) pa_nil)))
    (pss_one (ps_ret (pe_fld (pe_meth (pv 0) T.cl_Site T.m_Site_near_item (ok_Site_near_item T) (hr.mono (by decide)) T.b_Site_near_item .nil (passes_call (takes_of rfl rfl rfl rfl) (fun _ _ _ _ h => h)) (pa_cons (pv 1) pa_nil)) rfl)))), ?_⟩
    obtain ⟨_, hS, dx, rfl⟩ := R.of hi .site trivial
    refine ⟨_, rfl, _, dx, _, rfl, hS, no_site (by decide +kernel), _, rfl, _, v, rfl, qe, fun hb => ?_⟩
    obtain ⟨q1, q2, q3⟩ := q hb
    refine ⟨_, rfl, _, dx, _, rfl, hS, no_site (by decide +kernel), _, rfl, M, W, i, v, rfl, R, hi, hv, hb, q1, q2, fun n hn => ⟨(q3 n hn).1, fun ho => ?_⟩⟩
    obtain ⟨_, hI, dx2, rfl⟩ := R.of hi (.item n) ho
    exact ⟨_, _, dx2, _, _, rfl, hI, T.cl_Item, T.n_Item_mark, lk_item_mark, (q3 n hn).2 ho⟩

theorem ok_World_init (T : Txt K mg) : FnOk P w K mg base CX0 7 (He.ma K (He.ga K "World") "__init__") T.fd_World_init ["self", "sites"] (spWorldInit K) := by
  refine T.F_World_init.ok sc_World_init (fun vs H Q E h => ?_) (fun cdv A outer s H vs Q E hr h => ?_)
  · obtain ⟨p, dx, n, rfl, hn, hp, k⟩ := h
    rfl
  · obtain ⟨p, dx, n, rfl, hn, hp, k⟩ := h
    refine ⟨_, PSs.nox (pss_cons (ps_fld (pv 0) (pe_lc (own := [("number", 2)]) (g := gName 2) (tt := tYes) (by rfl) sc_World_init.nd (pi_range1 (by rfl) T.z_range (pa_cons (pv 1) pa_nil)) (blkOk_by (own := [("number", 2)]) (N := ["self", "sites", "number"]) (sc := defScope s_World_init) (by decide +kernel)) (fun _ _ _ _ _ => pg_name (i := 2) sc_World_init.nd rfl (Or.inl rfl)) (fun _ _ _ _ _ => pts_nil) (fun _ _ _ _ _ => (pe_make T.mk_Site (ok_Site_init T) (hr.mono (by decide)) (by rfl) T.mg_Site T.b_Site_init .nil pass0 (pa_cons (pv 2) (pa_cons (pv 1) pa_nil))))) rfl)
    (pss_one (ps_fld (pv 0) (pe_make0 T.mk_Network (ok_Network_init T) (hr.mono (by decide)) (by rfl) T.mg_Network T.b_Network_init .nil pass0) rfl))), ?_⟩
    have big : 100000 < sizeLine := by decide
    refine ⟨_, rfl, (n : Int), rfl, by omega, by omega, fun D hD => ?_⟩
    have npD : p ≠ D := ne_of_none hp hD
    refine lc_range (lo := 0) (n := (n : Int).toNat) (fun j H2 => ∃ ms, WPart K n H H2 j ms ∧ (∀ i ∈ sitesL j, ∀ x, Ds n i S0 x → ms i x ≠ D) ∧ H2 D = some (.lst ((sitesL j).map fun i => V.ref (ms i .site)))) ⟨fun _ _ => 0, WPart.start.same (sm_new hD), fun i h => (by cases h), upd_same⟩ ?_ ?_
    · rintro j H2 hj ⟨ms, B, nD, h2⟩
      have jn : (n : Int).toNat = n := rfl
      refine ⟨rfl, ?_⟩
      refine tyesT ?_
      rw [if_pos rfl]
      refine ⟨_, rfl, _, rfl, fun x dx1 hx hdx hne => ⟨x, dx1, j, n, by rw [Int.zero_add]; rfl, hn, upd_same, fun H5 m5 B5 hx5 => ⟨rfl, ?_⟩⟩⟩
      obtain ⟨B6, up⟩ := B.step hx (fun b o e => by rw [upd_ne (ne_of_none e hx), upd_ne (ne_of_none e hdx)]; exact e) B5 hx5
      have h5 := up _ _ h2
      refine ⟨_, h5, by rw [List.length_map, sitesL_len]; omega, _, B6.off hD (fun i hi y hy e => ?_) (by rw [h5]; exact fun xs z => (nomatch z)) _, fun i hi y hy e => ?_, ?_⟩
      · exact wnw hx (fun b o e => by rw [upd_ne (ne_of_none e hx), upd_ne (ne_of_none e hdx)]; exact e) B5 nD h2 i hi y hy e
      · exact wnw hx (fun b o e => by rw [upd_ne (ne_of_none e hx), upd_ne (ne_of_none e hdx)]; exact e) B5 nD h2 i hi y hy e
      · rw [upd_same, sitesL_succ, List.map_append]
        refine congrArg some (congrArg HO.lst (congr (congrArg _ (List.map_congr_left fun i hi => ?_)) ?_))
        · rw [if_neg (show i ≠ (j : Int) from by have := mem_sitesL.mp hi; omega)]
        · show _ = [V.ref _]
          rw [if_pos rfl, if_pos rfl]
    rintro H2 ⟨ms, B, nD, h2⟩
    rw [show (n : Int).toNat = n from rfl] at B nD h2
    have hp2 := B.kp _ _ hp
    refine ⟨_, rfl, p, _, dx, [], rfl, hp2, T.cl_World, T.n_World__sites, (by show 0 < 1000; decide), ?_⟩
    refine fun a d ha hd hne => ⟨a, d, rfl, upd_same, fun l hl => ⟨rfl, ?_⟩⟩
    have npm : ∀ i ∈ sitesL n, ∀ x, Ds n i S0 x → ms i x ≠ p := fun i hi x hx e => by
      have := B.fr i hi x hx
      rw [e, hp] at this
      cases this
    have hp3 : (upd H2 p (.ins (He.ga K "World") dx (putF "_sites" (.ref D) []))) p = some (.ins (He.ga K "World") dx [("_sites", .ref D)]) := upd_same
    have hD3 : (upd H2 p (.ins (He.ga K "World") dx (putF "_sites" (.ref D) []))) D = some (.lst ((sitesL n).map fun i => V.ref (ms i .site))) := by rw [upd_ne npD.symm]; exact h2
    have k3 : ∀ b o, H2 b = some o → b ≠ p → (upd H2 p (.ins (He.ga K "World") dx (putF "_sites" (.ref D) []))) b = some o := fun b o e h => by rw [upd_ne h]; exact e
    have f3 : ∀ b, (upd H2 p (.ins (He.ga K "World") dx (putF "_sites" (.ref D) []))) b = none → H b = none ∧ b ≠ p ∧ H2 b = none := fun b e => by
      have nb : b ≠ p := fun z => by rw [z, hp3] at e; cases e
      rw [upd_ne nb] at e
      refine ⟨?_, nb, e⟩
      cases q : H b with
      | none => rfl
      | some o => rw [B.kp _ _ q] at e; cases e
    revert ha hd hl hp3 hD3 k3 f3
    generalize (upd H2 p (.ins (He.ga K "World") dx (putF "_sites" (.ref D) []))) = H3
    intro ha hd hl hp3 hD3 k3 f3
    obtain ⟨s5, hl0, hl5, nla⟩ := made_two (fs := netwL l) (o := .lst []) ha hd hne hl
    have ha5 : (upd (upd (upd (upd H3 d (.own a)) a (.ins (He.ga K "Network") d [])) l (.lst [])) a (.ins (He.ga K "Network") d (netwL l))) a = some (.ins (He.ga K "Network") d (netwL l)) := upd_same
    revert s5 hl5 ha5
    generalize (upd (upd (upd (upd H3 d (.own a)) a (.ins (He.ga K "Network") d [])) l (.lst [])) a (.ins (He.ga K "Network") d (netwL l))) = H5
    intro s5 hl5 ha5
    have hp5 := s5 _ _ hp3
    refine ⟨_, rfl, p, _, dx, _, rfl, hp5, T.cl_World, T.n_World__network, (by show 1 < 1000; decide), ?_⟩
    rw [show putF "_network" (V.ref a) ([("_sites", V.ref D)] : List (Str × V)) = ([("_sites", V.ref D), ("_network", V.ref a)] : List (Str × V)) from putF_new ["_sites"] rfl (by decide +kernel)]
    have fm : ∀ b, H3 b = none → ∀ i ∈ sitesL n, ∀ x, Ds n i S0 x → ms i x ≠ b := fun b hb i hi x hx e => by
      obtain ⟨o, e1, _⟩ := B.at_ i hi x hx
      rw [e, (f3 b hb).2.2] at e1
      cases e1
    have up5 : ∀ b o, H2 b = some o → b ≠ p → (upd H5 p (.ins (He.ga K "World") dx [("_sites", .ref D), ("_network", .ref a)])) b = some o := fun b o e h => by rw [upd_ne h]; exact s5 _ _ (k3 b o e h)
    obtain ⟨R, fr⟩ := B.world (H := upd H5 p (.ins (He.ga K "World") dx [("_sites", .ref D), ("_network", .ref a)])) (p := p) (a := a) (l := l) (dx := dx) (dy := d) (D := D) (fun i hi x hx o e => up5 _ _ e (npm i hi x hx)) (fun b xs e => up5 _ _ e fun z => by rw [z, hp2] at e; cases e) (by rw [hp]; exact fun z => (nomatch z)) upd_same
      (by rw [upd_ne npD.symm]; exact s5 _ _ hD3) hD nD (by rw [upd_ne (f3 a ha).2.1]; exact ha5) (f3 a ha).1 (fm a ha) (by rw [upd_ne (f3 l hl0).2.1]; exact hl5) (f3 l hl0).1 (fm l hl0) (ne_of_none hD3 hl0)
    exact k _ _ R rfl fr fun b o e h => up5 _ _ (B.kp b o e) h

theorem ok_World_site (T : Txt K mg) : FnOk P w K mg base (L2.CX P w) 2 (He.ma K (He.ga K "World") "_site") T.fd_World_site ["self", "site"] (spWSite K) := by
  refine T.F_World_site.ok sc_World_site (fun vs H Q E h => ?_) (fun cdv A outer s H vs Q E hr h => ?_)
  · obtain ⟨M, W, i, rfl, R, hn, qe, q⟩ := h
    rfl
  · obtain ⟨M, W, i, rfl, R, hn, qe, q⟩ := h
    refine ⟨_, (pss_cons (ps_expr (pe_call (ok_check_index T) (hr.mono (by decide)) (by rfl) T.g_check_index T.F_check_index.kp T.b_check_index .nil (passes_call (takes_of rfl rfl rfl rfl) (fun _ _ _ _ h => h)) (pa_cons (pv 1) (pa_cons (pe_callB call_len_seq (by rfl) T.z_len (by decide +kernel) (pa_cons (pe_fld (pv 0) rfl) pa_nil)) (pa_cons pe_str pa_nil)))))
    (pss_one (ps_ret (pe_ix ix_list (pe_fld (pv 0) rfl) (pv 1) (fun _ _ => rfl))))), ?_⟩
    obtain ⟨_, hW, dx, rfl⟩ := R.at_ .world trivial
    obtain ⟨_, hL, e⟩ := R.at_ .sites trivial
    cases (show _ = _ from e)
    refine ⟨_, rfl, ?_⟩
    have hl : ((sitesL W.n).map fun i => V.ref (M (.of i .site))).length = W.n := by rw [List.length_map, sitesL_len]
    refine ⟨_, rfl, _, _, dx, _, _, rfl, hW, T.cl_World, T.n_World__sites, lk_world_sites, _, _, rfl, .inl (SqL.of hL), ?_⟩
    refine ⟨i, (((sitesL W.n).map fun i => V.ref (M (.of i .site))).length : Nat), _, rfl, by decide, fun h => qe fun z => h ?_, fun h => ?_⟩
    · rw [hl]
      exact mem_sitesL.mp z
    · rw [hl] at h
      have hi := mem_sitesL.mpr h
      refine ⟨_, rfl, _, _, dx, _, _, rfl, hW, T.cl_World, T.n_World__sites, lk_world_sites, _, rfl, _, _, i, _, rfl, rfl, SqL.of hL, ?_, q hi⟩
      rw [show i = ((i.toNat : Nat) : Int) by omega]
      refine atI_nat ?_
      rw [List.getElem?_map, sitesL_get (by omega)]
      rfl

theorem ok_World_make (T : Txt K mg) : FnOk P w K mg base (L2.CX P w) 4 (He.ma K (He.ga K "World") "make") T.fd_World_make ["self", "site", "variable", "size", "mark"] (spWMake K) := by
  refine T.F_World_make.ok sc_World_make (fun vs H Q E h => ?_) (fun cdv A outer s H vs Q E hr h => ?_)
  · obtain ⟨M, W, i, v, k, mk, rfl, R, hn, qe, q⟩ := h
    rfl
  · obtain ⟨M, W, i, v, k, mk, rfl, R, hn, qe, q⟩ := h
    refine ⟨_, (pss_one (ps_ret (pe_meth (pe_meth (pv 0) T.cl_World T.m_World_site (ok_World_site T) (hr.mono (by decide)) T.b_World_site .nil (passes_call (takes_of rfl rfl rfl rfl) (fun _ _ _ _ h => h)) (pa_cons (pv 1) pa_nil)) T.cl_Site T.m_Site_make (ok_Site_make T) (hr.mono (by decide)) T.b_Site_make .nil (passes_call (takes_of rfl rfl rfl rfl) (fun _ _ _ _ h => h)) (pa_cons (pv 2) (pa_cons (pv 3) (pa_cons (pv 4) pa_nil)))))), ?_⟩
    obtain ⟨_, hW, dx, rfl⟩ := R.at_ .world trivial
    refine ⟨_, rfl, _, dx, _, rfl, hW, no_world (by decide +kernel), _, rfl, M, W, i, rfl, R, hn, qe, fun hi => ?_⟩
    obtain ⟨hv, ho, hl, hk, hk2, q1, q2⟩ := q hi
    obtain ⟨_, hS, dx2, rfl⟩ := R.of hi .site trivial
    exact ⟨_, dx2, _, rfl, hS, no_site (by decide +kernel), _, rfl, _, rfl, _, rfl, M, W, i, v, k, mk, rfl, R, hi, hv, ho, hl, hk, hk2, q1, q2⟩

theorem ok_World_assign (T : Txt K mg) : FnOk P w K mg base (L2.CX P w) 4 (He.ma K (He.ga K "World") "assign") T.fd_World_assign ["self", "site", "source", "target"] (spWAssign K) := by
  refine T.F_World_assign.ok sc_World_assign (fun vs H Q E h => ?_) (fun cdv A outer s H vs Q E hr h => ?_)
  · obtain ⟨M, W, i, v, t, rfl, R, hn, qe, q⟩ := h
    rfl
  · obtain ⟨M, W, i, v, t, rfl, R, hn, qe, q⟩ := h
    refine ⟨_, (pss_one (ps_expr (pe_meth (pe_meth (pv 0) T.cl_World T.m_World_site (ok_World_site T) (hr.mono (by decide)) T.b_World_site .nil (passes_call (takes_of rfl rfl rfl rfl) (fun _ _ _ _ h => h)) (pa_cons (pv 1) pa_nil)) T.cl_Site T.m_Site_assign (ok_Site_assign T) (hr.mono (by decide)) T.b_Site_assign .nil (passes_call (takes_of rfl rfl rfl rfl) (fun _ _ _ _ h => h)) (pa_cons (pv 2) (pa_cons (pv 3) pa_nil))))), ?_⟩
    obtain ⟨_, hW, dx, rfl⟩ := R.at_ .world trivial
    refine ⟨_, rfl, _, dx, _, rfl, hW, no_world (by decide +kernel), _, rfl, M, W, i, rfl, R, hn, qe, fun hi => ?_⟩
    obtain ⟨hv, q1, q2⟩ := q hi
    obtain ⟨_, hS, dx2, rfl⟩ := R.of hi .site trivial
    exact ⟨_, dx2, _, rfl, hS, no_site (by decide +kernel), _, rfl, _, rfl, M, W, i, v, t, rfl, R, hi, hv, q1, q2⟩

theorem ok_World_reset (T : Txt K mg) : FnOk P w K mg base (L2.CX P w) 4 (He.ma K (He.ga K "World") "reset") T.fd_World_reset ["self", "site", "variable"] (spWReset K) := by
  refine T.F_World_reset.ok sc_World_reset (fun vs H Q E h => ?_) (fun cdv A outer s H vs Q E hr h => ?_)
  · obtain ⟨M, W, i, v, rfl, R, hn, qe, q⟩ := h
    rfl
  · obtain ⟨M, W, i, v, rfl, R, hn, qe, q⟩ := h
    refine ⟨_, (pss_one (ps_expr (pe_meth (pe_meth (pv 0) T.cl_World T.m_World_site (ok_World_site T) (hr.mono (by decide)) T.b_World_site .nil (passes_call (takes_of rfl rfl rfl rfl) (fun _ _ _ _ h => h)) (pa_cons (pv 1) pa_nil)) T.cl_Site T.m_Site_reset (ok_Site_reset T) (hr.mono (by decide)) T.b_Site_reset .nil (passes_call (takes_of rfl rfl rfl rfl) (fun _ _ _ _ h => h)) (pa_cons (pv 2) pa_nil)))), ?_⟩
    obtain ⟨_, hW, dx, rfl⟩ := R.at_ .world trivial
    refine ⟨_, rfl, _, dx, _, rfl, hW, no_world (by decide +kernel), _, rfl, M, W, i, rfl, R, hn, qe, fun hi => ?_⟩
    obtain ⟨hv, q1, q2⟩ := q hi
    obtain ⟨_, hS, dx2, rfl⟩ := R.of hi .site trivial
    exact ⟨_, dx2, _, rfl, hS, no_site (by decide +kernel), _, rfl, M, W, i, v, rfl, R, hi, hv, q1, q2⟩

theorem ok_World_look (T : Txt K mg) : FnOk P w K mg base (L2.CX P w) 4 (He.ma K (He.ga K "World") "look") T.fd_World_look ["self", "site", "variable"] (spWLook K) := by
  refine T.F_World_look.ok sc_World_look (fun vs H Q E h => ?_) (fun cdv A outer s H vs Q E hr h => ?_)
  · obtain ⟨M, W, i, v, rfl, R, hn, qe, q⟩ := h
    rfl
  · obtain ⟨M, W, i, v, rfl, R, hn, qe, q⟩ := h
    refine ⟨_, (pss_one (ps_ret (pe_meth (pe_meth (pv 0) T.cl_World T.m_World_site (ok_World_site T) (hr.mono (by decide)) T.b_World_site .nil (passes_call (takes_of rfl rfl rfl rfl) (fun _ _ _ _ h => h)) (pa_cons (pv 1) pa_nil)) T.cl_Site T.m_Site_look (ok_Site_look T) (hr.mono (by decide)) T.b_Site_look .nil (passes_call (takes_of rfl rfl rfl rfl) (fun _ _ _ _ h => h)) (pa_cons (pv 2) pa_nil)))), ?_⟩
    obtain ⟨_, hW, dx, rfl⟩ := R.at_ .world trivial
    refine ⟨_, rfl, _, dx, _, rfl, hW, no_world (by decide +kernel), _, rfl, M, W, i, rfl, R, hn, qe, fun hi => ?_⟩
    obtain ⟨hv, q1, q2⟩ := q hi
    obtain ⟨_, hS, dx2, rfl⟩ := R.of hi .site trivial
    exact ⟨_, dx2, _, rfl, hS, no_site (by decide +kernel), _, rfl, M, W, i, v, rfl, R, hi, hv, q1, q2⟩

theorem ok_World_variables (T : Txt K mg) : FnOk P w K mg base (L2.CX P w) 3 (He.ma K (He.ga K "World") "variables") T.fd_World_variables ["self", "site"] (spWVars K) := by
  refine T.F_World_variables.ok sc_World_variables (fun vs H Q E h => ?_) (fun cdv A outer s H vs Q E hr h => ?_)
  · obtain ⟨M, W, i, rfl, R, hn, qe, q⟩ := h
    rfl
  · obtain ⟨M, W, i, rfl, R, hn, qe, q⟩ := h
    refine ⟨_, (pss_one (ps_ret (pe_callTy call_list_of (by rfl) T.z_list (by decide +kernel) (pa_cons (pe_fld (pe_meth (pv 0) T.cl_World T.m_World_site (ok_World_site T) (hr.mono (by decide)) T.b_World_site .nil (passes_call (takes_of rfl rfl rfl rfl) (fun _ _ _ _ h => h)) (pa_cons (pv 1) pa_nil)) rfl) pa_nil)))), ?_⟩
    obtain ⟨_, hW, dx, rfl⟩ := R.at_ .world trivial
    refine ⟨_, rfl, _, dx, _, rfl, hW, no_world (by decide +kernel), _, rfl, M, W, i, rfl, R, hn, qe, fun hi => ?_⟩
    obtain ⟨hv, q⟩ := q hi
    obtain ⟨_, hS, dx2, rfl⟩ := R.of hi .site trivial
    obtain ⟨_, hV, vs, rfl, tv⟩ := R.of hi .vars trivial
    refine ⟨_, _, dx2, _, _, rfl, hS, T.cl_Site, T.n_Site_variables, lk_site_variables, ?_⟩
    exact ⟨_, _, rfl, .inl (SqL.of hV), fun l hl => q l vs hl tv⟩

theorem ok_World_inbox (T : Txt K mg) : FnOk P w K mg base (L2.CX P w) 3 (He.ma K (He.ga K "World") "inbox") T.fd_World_inbox ["self", "site"] (spWInbox K) := by
  refine T.F_World_inbox.ok sc_World_inbox (fun vs H Q E h => ?_) (fun cdv A outer s H vs Q E hr h => ?_)
  · obtain ⟨M, W, i, rfl, R, hn, qe, q⟩ := h
    rfl
  · obtain ⟨M, W, i, rfl, R, hn, qe, q⟩ := h
    refine ⟨_, (pss_one (ps_ret (pe_callTy call_list_of (by rfl) T.z_list (by decide +kernel) (pa_cons (pe_fld (pe_meth (pv 0) T.cl_World T.m_World_site (ok_World_site T) (hr.mono (by decide)) T.b_World_site .nil (passes_call (takes_of rfl rfl rfl rfl) (fun _ _ _ _ h => h)) (pa_cons (pv 1) pa_nil)) rfl) pa_nil)))), ?_⟩
    obtain ⟨_, hW, dx, rfl⟩ := R.at_ .world trivial
    refine ⟨_, rfl, _, dx, _, rfl, hW, no_world (by decide +kernel), _, rfl, M, W, i, rfl, R, hn, qe, fun hi => ?_⟩
    obtain ⟨hv, q⟩ := q hi
    obtain ⟨_, hS, dx2, rfl⟩ := R.of hi .site trivial
    obtain ⟨_, hV, vs, rfl, tv⟩ := R.of hi .inbox trivial
    refine ⟨_, _, dx2, _, _, rfl, hS, T.cl_Site, T.n_Site_inbox, lk_site_inbox, ?_⟩
    exact ⟨_, _, rfl, .inl (SqL.of hV), fun l hl => q l vs hl tv⟩

theorem ok_World_objects (T : Txt K mg) : FnOk P w K mg base (L2.CX P w) 3 (He.ma K (He.ga K "World") "objects") T.fd_World_objects ["self", "site"] (spWObjs K) := by
  refine T.F_World_objects.ok sc_World_objects (fun vs H Q E h => ?_) (fun cdv A outer s H vs Q E hr h => ?_)
  · obtain ⟨M, W, i, rfl, R, hn, qe, q⟩ := h
    rfl
  · obtain ⟨M, W, i, rfl, R, hn, qe, q⟩ := h
    refine ⟨_, (pss_one (ps_ret (pe_callB (SrtDi.call_sortedDK rfl) (by rfl) T.z_sorted (by decide +kernel) (pa_cons (pe_fld (pe_fld (pe_meth (pv 0) T.cl_World T.m_World_site (ok_World_site T) (hr.mono (by decide)) T.b_World_site .nil (passes_call (takes_of rfl rfl rfl rfl) (fun _ _ _ _ h => h)) (pa_cons (pv 1) pa_nil)) rfl) rfl) pa_nil)))), ?_⟩
    obtain ⟨_, hW, dx, rfl⟩ := R.at_ .world trivial
    refine ⟨_, rfl, _, dx, _, rfl, hW, no_world (by decide +kernel), _, rfl, M, W, i, rfl, R, hn, qe, fun hi => ?_⟩
    obtain ⟨hl, hp, q⟩ := q hi
    obtain ⟨_, hS, dx2, rfl⟩ := R.of hi .site trivial
    obtain ⟨_, hO, dx3, rfl⟩ := R.of hi .objs trivial
    obtain ⟨_, hD, e⟩ := R.of hi .objD trivial
    refine ⟨_, _, dx2, _, _, rfl, hS, T.cl_Site, T.n_Site_objects, lk_site_objects, _, _, dx3, _, _, rfl, hO, T.cl_Numbered, T.n_Numbered_things, lk_num_things, ?_⟩
    cases (show _ = _ from e)
    refine ⟨_, _, (W.st i).objs, rfl, hD, by rw [List.map_map]; rfl, fun ys l h1 h2 h3 => ?_⟩
    have e2 : ys = (W.st i).objs := h1.eq_of_pairwise (le := (· ≤ ·)) (fun a b _ _ h h' => Int.le_antisymm h h') h2 (hp.imp fun h => Int.le_of_lt h)
    rw [e2]
    exact q l h3

theorem ok_World_fields (T : Txt K mg) : FnOk P w K mg base (L2.CX P w) 3 (He.ma K (He.ga K "World") "fields") T.fd_World_fields ["self", "site", "number"] (spWFields K) := by
  refine T.F_World_fields.ok sc_World_fields (fun vs H Q E h => ?_) (fun cdv A outer s H vs Q E hr h => ?_)
  · obtain ⟨M, W, i, n, rfl, R, hn, qe, q⟩ := h
    rfl
  · obtain ⟨M, W, i, n, rfl, R, hn, qe, q⟩ := h
    refine ⟨_, (pss_cons (ps_set (i := 3) sc_World_fields.nd rfl (Or.inl rfl) (pe_fld (pe_fld (pe_meth (pv 0) T.cl_World T.m_World_site (ok_World_site T) (hr.mono (by decide)) T.b_World_site .nil (passes_call (takes_of rfl rfl rfl rfl) (fun _ _ _ _ h => h)) (pa_cons (pv 1) pa_nil)) rfl) rfl))
    (pss_cons (ps_if (pt_cmp (pc_dnotin (hu2 hr.units) (pv 2) (pv 3)))
      (pss_one (ps_raise rfl (takes_of rfl rfl rfl rfl) (pmk_own PySem.F.excBase_ValueError T.x_Unknown.1 T.mg_Unknown T.x_Unknown.2.1 (raises_own T.x_Unknown.2.2.1 T.x_Unknown.2.2.2) rfl)))
      pss_nil)
    (pss_one (ps_ret (pe_callTy call_list_of (by rfl) T.z_list (by decide +kernel) (pa_cons (pe_fld (pe_dget (hu2 hr.units) (pv 3) (pv 2) (fun _ _ => rfl)) rfl) pa_nil)))))), ?_⟩
    obtain ⟨_, hW, dx, rfl⟩ := R.at_ .world trivial
    refine ⟨_, rfl, _, dx, _, rfl, hW, no_world (by decide +kernel), _, rfl, M, W, i, rfl, R, hn, qe, fun hi => ?_⟩
    obtain ⟨q1, q2⟩ := q hi
    obtain ⟨_, hS, dx2, rfl⟩ := R.of hi .site trivial
    obtain ⟨_, hO, dx3, rfl⟩ := R.of hi .objs trivial
    obtain ⟨_, hD, e⟩ := R.of hi .objD trivial
    cases (show _ = _ from e)
    refine ⟨_, _, dx2, _, _, rfl, hS, T.cl_Site, T.n_Site_objects, lk_site_objects, _, _, dx3, _, _, rfl, hO, T.cl_Numbered, T.n_Numbered_things, lk_num_things, ?_⟩
    have g := DGet.k (k := Sum.inl n) hD
    refine ⟨_, rfl, _, rfl, _, _, rfl, g, _, rfl, ?_⟩
    by_cases ho : n ∈ (W.st i).objs
    · have g2 := g
      rw [valV_map ho] at g2 ⊢
      refine iteF ?_
      obtain ⟨_, q2⟩ := q2 ho
      obtain ⟨_, hI, dx4, rfl⟩ := R.of hi (.item n) ho
      obtain ⟨_, hF, vs, rfl, tv⟩ := R.of hi (.itemL n) ho
      refine ⟨_, rfl, _, rfl, _, _, rfl, g2, _, _, dx4, _, _, rfl, hI, T.cl_Item, T.n_Item_fields, lk_item_fields, ?_⟩
      exact ⟨_, _, rfl, .inl (SqL.of hF), fun l hl => q2 l vs hl tv⟩
    · rw [valV_nomap ho]
      exact iteT (q1 ho)

theorem ok_law_is_integer (T : Txt K mg) : FnOk P w K mg base CX0 1 (He.ga K "_law_is_integer") T.fd_law_is_integer ["actual"] spIsInt := by
  refine T.F_law_is_integer.ok sc_law_is_integer (fun vs H Q E h => ?_) (fun cdv A outer s H vs Q E hr h => ?_)
  · obtain ⟨z, rfl, k⟩ := h
    rfl
  · obtain ⟨z, rfl, k⟩ := h
    refine ⟨_, PSs.nox (pss_one (ps_ret (pe_and (pe_callB call_isi (by rfl) T.z_isinstance (by decide +kernel) (pa_cons (pv 0) (pa_cons (pe_bltn (v := .ty "int") (by rfl) T.z_int (by decide +kernel) rfl) pa_nil))) (pe_one (pe_not (pe_callB call_isi (by rfl) T.z_isinstance (by decide +kernel) (pa_cons (pv 0) (pa_cons (pe_bltn (v := .ty "bool") (by rfl) T.z_bool (by decide +kernel) rfl) pa_nil)))))))), ?_⟩
    refine ⟨_, rfl, _, _, _, _, true, rfl, .ty _, .base (.int _), kit_ty (by decide +kernel), _, rfl, iteT ?_⟩
    exact ⟨_, rfl, _, _, _, _, false, rfl, .ty _, .base (.int _), kit_ty (by decide +kernel), _, rfl, k⟩

theorem ok_law_number (T : Txt K mg) : FnOk P w K mg base CX0 1 (He.ga K "_law_number") T.fd_law_number ["cell", "k"] spNumber := by
  refine T.F_law_number.ok sc_law_number (fun vs H Q E h => ?_) (fun cdv A outer s H vs Q E hr h => ?_)
  · obtain ⟨z, j, rfl, k⟩ := h
    rfl
  · obtain ⟨z, j, rfl, k⟩ := h
    refine ⟨_, PSs.nox (pss_cons (ps_if (pt_cmpR op_ge (pv 0) (pe_op op_pow pe_int pe_int) (nomark _))
      (pss_one (ps_ret (pe_op op_sub (pv 0) (pe_op op_pow pe_int pe_int))))
      pss_nil)
    (pss_cons (ps_set (i := 2) sc_law_number.nd rfl (Or.inl rfl) (pe_op op_mod (pe_callTy call_int1 (by rfl) T.z_int (by decide +kernel) (pa_cons (pe_op op_add (pe_op op_add (pe_op op_mul (pv 0) pe_int) (pe_op op_mul (pv 1) pe_int)) pe_int) pa_nil)) pe_int))
    (pss_cons (ps_set (i := 3) sc_law_number.nd rfl (Or.inl rfl) (pe_op op_mod (pe_callTy call_int1 (by rfl) T.z_int (by decide +kernel) (pa_cons (pe_op op_add (pe_op op_mul (pv 2) (pe_op op_add (pe_op op_add (pe_op op_fdiv (pv 2) pe_int) (pv 1)) pe_int)) pe_int) pa_nil)) pe_int))
    (pss_one (ps_ret (pe_op op_add (pv 2) (pe_op op_mul (pv 3) pe_int))))))), ?_⟩
    refine ⟨_, rfl, _, _, rfl, rfl, ⟨by decide, by decide, by decide⟩, _, _, rfl, rfl, _, rfl, ?_⟩
    refine ite2 (fun _ => ?_) (fun _ => ?_)
    · refine ⟨_, rfl, _, _, rfl, rfl, ⟨by decide, by decide, by decide⟩, _, _, rfl, rfl, ?_⟩
      exact k _
    · refine ⟨_, rfl, _, _, rfl, rfl, .inr ⟨by decide, by decide⟩, _, rfl, _, _, rfl, rfl, .inr ⟨by decide, by decide⟩, _, _, rfl, rfl, _, _, rfl, rfl, .inl ⟨_, rfl, _, _, rfl, rfl, (by show (0 : Int) < 2147483647; decide), ?_⟩⟩
      refine ⟨_, rfl, _, rfl, _, _, rfl, rfl, ⟨by decide, by decide⟩, _, rfl, _, _, rfl, rfl, _, _, rfl, rfl, _, _, rfl, rfl, (.inl ⟨by omega, by omega⟩), _, _, rfl, rfl, .inl ⟨_, rfl, _, _, rfl, rfl, (by show (0 : Int) < 2147483629; decide), ?_⟩⟩
      refine ⟨_, rfl, _, rfl, _, _, rfl, rfl, .inr ⟨by decide, by decide⟩, _, _, rfl, rfl, ?_⟩
      exact k _

theorem ok_law_cell (T : Txt K mg) : FnOk P w K mg base CX0 1 (He.ga K "_law_cell") T.fd_law_cell ["script", "k"] (spCell K) := by
  refine T.F_law_cell.ok sc_law_cell (fun vs H Q E h => ?_) (fun cdv A outer s H vs Q E hr h => ?_)
  · obtain ⟨a, ss, i, rfl, hS, h0, k⟩ := h
    rfl
  · obtain ⟨a, ss, i, rfl, hS, h0, k⟩ := h
    refine ⟨_, PSs.nox (pss_cons (ps_if (pt_cmpR op_lt (pv 1) (pe_callB call_len_seq (by rfl) T.z_len (by decide +kernel) (pa_cons (pv 0) pa_nil)) (nomark _))
      (pss_one (ps_ret (pe_ix ix_list (pv 0) (pv 1) (fun _ _ => rfl))))
      pss_nil)
    (pss_one (ps_ret pe_int))), ?_⟩
    refine ⟨_, rfl, _, rfl, a, _, rfl, .inl hS, _, _, rfl, rfl, _, rfl, ?_⟩
    refine ite2 (fun hc => ?_) (fun _ => ?_)
    · have hc := of_decide_eq_true hc
      rw [List.length_map] at hc
      obtain ⟨z, _, hz⟩ := at_in (f := V.int) h0 hc
      exact ⟨_, rfl, _, rfl, a, _, _, _, rfl, rfl, hS, hz, k z⟩
    · exact k 0

theorem ok_law_makes (T : Txt K mg) : FnOk P w K mg base CX0 5 (He.ga K "_law_makes") T.fd_law_makes ["world", "site", "variable", "part", "made"] (spMakes8 K) := by
  refine T.F_law_makes.ok sc_law_makes (fun vs H Q E h => ?_) (fun cdv A outer s H vs Q E hr h => ?_)
  · obtain ⟨S, ss, N, M, W, cc, mm, bd, i, v, z, rfl, I, hbd, hi, hv, k⟩ := h
    rfl
  · obtain ⟨S, ss, N, M, W, cc, mm, bd, i, v, z, rfl, I, hbd, hi, hv, k⟩ := h
    obtain ⟨ds, hd_kw, hb_kw⟩ := kw_none T
    obtain ⟨m1, hb_kw_size⟩ := kw_size T
    obtain ⟨m2, hb_kw_mark⟩ := kw_mark T
    obtain ⟨m3, hb_kw_size_mark⟩ := kw_both T
    refine ⟨_, PSs.nox (pss_cons (ps_set (i := 5) sc_law_makes.nd rfl (Or.inl rfl) (pe_op op_mod (pe_callTy call_int1 (by rfl) T.z_int (by decide +kernel) (pa_cons (pe_op op_fdiv (pv 3) pe_int) pa_nil)) pe_int))
    (pss_cons (ps_set (i := 6) sc_law_makes.nd rfl (Or.inl rfl) (pe_op op_mod (pe_callTy call_int1 (by rfl) T.z_int (by decide +kernel) (pa_cons (pe_op op_fdiv (pv 3) pe_int) pa_nil)) (pe_op op_pow pe_int pe_int)))
    (C8.pss_cut (ps_if (pt_cmpR op_eq (pe_op op_mod (pe_callTy call_int1 (by rfl) T.z_int (by decide +kernel) (pa_cons (pe_op op_fdiv (pv 3) pe_int) pa_nil)) pe_int) pe_int (nomark _))
      (pss_one (ps_set (i := 6) sc_law_makes.nd rfl (Or.inl rfl) (pe_un un_neg (pv 6))))
      pss_nil)
    (pss_cons (ps_set (i := 7) sc_law_makes.nd rfl (Or.inl rfl) (pe_op op_mod (pe_callTy call_int1 (by rfl) T.z_int (by decide +kernel) (pa_cons (pv 3) pa_nil)) pe_int))
    (C8.pss_cut (ps_if (pt_cmpR op_eq (pv 7) pe_int (nomark _))
      (pss_one (ps_set (i := 8) sc_law_makes.nd rfl (Or.inl rfl) (pe_meth (pv 0) T.cl_World T.m_World_make (ok_World_make T) (hr.mono (by decide)) hb_kw hd_kw passL (pa_cons (pv 1) (pa_cons (pv 2) pa_nil)))))
      (pss_one (ps_if (pt_cmpR op_eq (pv 7) pe_int (nomark _))
        (pss_one (ps_set (i := 8) sc_law_makes.nd rfl (Or.inl rfl) (Wo.pe_methN (pv 0) T.cl_World T.m_World_make (ok_World_make T) (hr.mono (by decide)) hb_kw_size passL (pa_cons (pv 1) (pa_cons (pv 2) pa_nil)) (pk_cons (pv 5) pk_nil))))
        (pss_one (ps_if (pt_cmpR op_eq (pv 7) pe_int (nomark _))
          (pss_one (ps_set (i := 8) sc_law_makes.nd rfl (Or.inl rfl) (Wo.pe_methN (pv 0) T.cl_World T.m_World_make (ok_World_make T) (hr.mono (by decide)) hb_kw_mark passL (pa_cons (pv 1) (pa_cons (pv 2) pa_nil)) (pk_cons (pv 6) pk_nil))))
          (pss_one (ps_set (i := 8) sc_law_makes.nd rfl (Or.inl rfl) (Wo.pe_methN (pv 0) T.cl_World T.m_World_make (ok_World_make T) (hr.mono (by decide)) hb_kw_size_mark passL (pa_cons (pv 1) (pa_cons (pv 2) pa_nil)) (pk_cons (pv 5) (pk_cons (pv 6) pk_nil))))))))))
    (pss_cons (ps_expr (pe_bm PySem.F.plainAttrs_list PySem.F.slot_list_append PySem.F.type_list_append mt_append (pe_ix ix_list (pv 4) (pv 1) (fun _ _ => rfl)) (pa_cons (pe_tup (pa_cons (pe_op op_mul (pv 5) (pe_op op_mod (pv 7) pe_int)) (pa_cons (pe_op op_mul (pv 6) (pe_op op_fdiv (pv 7) pe_int)) pa_nil))) pa_nil)))
    (pss_cons (ps_if (PW.pt (pw_or (pt_not (pt_val (pe_callB call_isi (by rfl) T.z_isinstance (by decide +kernel) (pa_cons (pv 8) (pa_cons (pe_bltn (v := .ty "tuple") (by rfl) T.z_tuple (by decide +kernel) rfl) pa_nil))))) (pw_or1 (pt_cmpR op_ne (pe_callB call_len_seq (by rfl) T.z_len (by decide +kernel) (pa_cons (pv 8) pa_nil)) pe_int (nomark _)))))
      (pss_one (ps_ret pe_bl))
      pss_nil)
    (pss_cons (ps_if (PW.pt (pw_or (pt_not (pt_val (pe_call (ok_law_is_integer T) (hr.mono (by decide)) (by rfl) T.g_law_is_integer T.F_law_is_integer.kp T.b_law_is_integer .nil pass0 (pa_cons (pe_ix ix_tup (pv 8) pe_int (fun _ _ => rfl)) pa_nil)))) (pw_or1 (pt_not (pt_val (pe_call (ok_law_is_integer T) (hr.mono (by decide)) (by rfl) T.g_law_is_integer T.F_law_is_integer.kp T.b_law_is_integer .nil pass0 (pa_cons (pe_ix ix_tup (pv 8) pe_int (fun _ _ => rfl)) pa_nil)))))))
      (pss_one (ps_ret pe_bl))
      pss_nil)
    (pss_one (ps_ret (pe_cmpR (op_eqD hr.units) (pv 8) (pe_tup (pa_cons (pv 1) (pa_cons (pe_op op_sub (pe_callB call_len_seq (by rfl) T.z_len (by decide +kernel) (pa_cons (pe_ix ix_list (pv 4) (pv 1) (fun _ _ => rfl)) pa_nil)) pe_int) pa_nil))) (nomark _)))))))))))), ?_⟩
    have n8 : W.n ≤ 1000 := Nat.le_trans I.n8 (by decide)
    obtain ⟨_, hW, dx, rfl⟩ := I.R.at_ .world trivial
    refine ⟨_, rfl, _, _, rfl, rfl, ⟨by decide, by decide⟩, .inl ⟨_, rfl, _, _, rfl, rfl, (by show (0 : Int) < 9; decide), ?_⟩⟩
    refine ⟨_, rfl, _, _, rfl, rfl, ⟨by decide, by decide⟩, .inl ⟨_, rfl, _, _, rfl, rfl, ⟨by decide, by decide, by decide⟩, _, _, rfl, rfl, (by show (0 : Int) < 10 ^ Int.toNat 30; decide +kernel), ?_⟩⟩
    refine ⟨fun σ H2 => ∃ u : Int, σ = [some (.ref (M .world)), some (.int i), some (.int v), some (.int z), some (.ref (N .mA)), some (.int (z / 4 % 9)), some (.int u), none, none] ∧ H2 = H, ?_, ?_⟩
    · refine ⟨_, rfl, _, _, rfl, rfl, ⟨by decide, by decide⟩, .inl ⟨_, rfl, _, _, rfl, rfl, (by show (0 : Int) < 2; decide), rfl, _, rfl, ?_⟩⟩
      refine ite2 (fun _ => ?_) (fun _ => ?_)
      · exact ⟨_, rfl, _, rfl, _, rfl, rfl⟩
      · exact ⟨_, rfl, rfl⟩
    rintro σ H2 ⟨u, rfl, rfl⟩
    refine ⟨_, rfl, .inl ⟨_, rfl, _, _, rfl, rfl, (by show (0 : Int) < 4; decide), ?_⟩⟩
    have w0 : 0 ≤ z / 4 % 9 := Int.emod_nonneg _ (by decide)
    have w1 : z / 4 % 9 < 9 := Int.emod_lt_of_pos _ (by decide)
    have c0 : 0 ≤ z % 4 := Int.emod_nonneg _ (by decide)
    have c1 : z % 4 < 4 := Int.emod_lt_of_pos _ (by decide)
    generalize z / 4 % 9 = wd at w0 w1 ⊢
    have call : ∀ (kk mk : Int) (Q2 : V → Hp → Prop), 0 ≤ kk → kk ≤ 8 → (∀ (M' : WS → Addr) (H' : Hp) (a : V), M' .world = M .world → WAt K M' H' (W.set i (((W.st i).add kk.toNat mk).setv v.toNat (some (i, (W.st i).oc)))) → (∀ T, Ch T M W H2 M' (W.set i (((W.st i).add kk.toNat mk).setv v.toNat (some (i, (W.st i).oc)))) H') → TD H' a (dRf (i, (W.st i).oc)) → Q2 a H') →
        spWMake K [.ref (M .world), .int i, .int v, .int kk, .int mk] H2 Q2 E0 := fun kk mk Q2 k0 k1 q => by
      have lo := I.b i hi
      refine ⟨M, W, i, v, kk, mk, rfl, I.R, n8, fun z => absurd hi z, fun _ => ⟨I.ok.v i hi, ?_, ?_, by omega, by omega, fun z => absurd hv z, fun _ => q⟩⟩
      · rw [I.ok.o i hi, I.ok.c i hi]
        intro h
        have := mem_sitesL.mp h
        omega
      · rw [I.ok.o i hi, sitesL_len]
        omega
    refine ⟨fun σ H3 => ∃ (M' : WS → Addr) (kk mk : Int) (a : V), σ = [some (.ref (M .world)), some (.int i), some (.int v), some (.int z), some (.ref (N .mA)), some (.int wd), some (.int u), some (.int (z % 4)), some a] ∧ M' .world = M .world ∧ WAt K M' H3 (W.set i (((W.st i).add kk.toNat mk).setv v.toNat (some (i, (W.st i).oc)))) ∧ (∀ T, Ch T M W H2 M' (W.set i (((W.st i).add kk.toNat mk).setv v.toNat (some (i, (W.st i).oc)))) H3) ∧ TD H3 a (dRf (i, (W.st i).oc)) ∧ 0 ≤ kk ∧ kk ≤ 8 ∧ kk = wd * (z % 4 % 2) ∧ mk = u * (z % 4 / 2), ?_, ?_⟩
    · refine ⟨_, rfl, rfl, _, rfl, ?_⟩
      refine ite2 (fun e => ?_) (fun e0 => ?_)
      · have e : z % 4 = 0 := by have := of_decide_eq_true e; injection this
        refine ⟨_, rfl, _, dx, _, rfl, hW, no_world (by decide +kernel), _, rfl, _, rfl, call 0 0 _ (by omega) (by omega) fun M' H' a mw R3 C3 ta => ?_⟩
        exact ⟨M', 0, 0, a, rfl, mw, R3, C3, ta, by omega, by omega, by rw [e]; simp, by rw [e]; simp⟩
      refine ⟨_, rfl, rfl, _, rfl, ?_⟩
      refine ite2 (fun e => ?_) (fun e1 => ?_)
      · have e : z % 4 = 1 := by have := of_decide_eq_true e; injection this
        refine ⟨_, rfl, _, dx, _, rfl, hW, no_world (by decide +kernel), _, rfl, _, rfl, _, rfl, rfl, rfl, call wd 0 _ (by omega) (by omega) fun M' H' a mw R3 C3 ta => ?_⟩
        exact ⟨M', wd, 0, a, rfl, mw, R3, C3, ta, by omega, by omega, by rw [e]; simp, by rw [e]; simp⟩
      refine ⟨_, rfl, rfl, _, rfl, ?_⟩
      refine ite2 (fun e => ?_) (fun e2 => ?_)
      · have e : z % 4 = 2 := by have := of_decide_eq_true e; injection this
        refine ⟨_, rfl, _, dx, _, rfl, hW, no_world (by decide +kernel), _, rfl, _, rfl, _, rfl, rfl, rfl, call 0 u _ (by omega) (by omega) fun M' H' a mw R3 C3 ta => ?_⟩
        exact ⟨M', 0, u, a, rfl, mw, R3, C3, ta, by omega, by omega, by rw [e]; simp, by rw [e]; simp⟩
      · have e : z % 4 = 3 := by
          have h0 : z % 4 ≠ 0 := fun h => e0 (decide_eq_true (congrArg V.int h))
          have h1 : z % 4 ≠ 1 := fun h => e1 (decide_eq_true (congrArg V.int h))
          have h2 : z % 4 ≠ 2 := fun h => e2 (decide_eq_true (congrArg V.int h))
          omega
        refine ⟨_, rfl, _, dx, _, rfl, hW, no_world (by decide +kernel), _, rfl, _, rfl, _, rfl, _, rfl, rfl, rfl, call wd u _ (by omega) (by omega) fun M' H' a mw R3 C3 ta => ?_⟩
        exact ⟨M', wd, u, a, rfl, mw, R3, C3, ta, by omega, by omega, by rw [e]; simp, by rw [e]; simp⟩
    rintro σ H3 ⟨M', kk, mk, a, rfl, mw, R3, C3, ta, kk0, kk8, ekk, emk⟩
    have A3 := I.A.ch (C3 (0, ""))
    have S3 := I.s.ch (C3 (0, ""))
    obtain ⟨_, hmA, e⟩ := A3.at_ .mA trivial
    cases (show _ = _ from e)
    obtain ⟨_, hm, us, rfl, tu⟩ := A3.at_ (.m i) hi
    refine ⟨_, rfl, _, rfl, _, _, i, _, rfl, rfl, SqL.of hmA, at_site hi, ?_⟩
    refine ⟨.inl ⟨rfl, _, SqL.of hm⟩, _, rfl, _, rfl, _, _, rfl, rfl, (by show (0 : Int) < 2; decide), _, _, rfl, rfl, .inl ⟨by omega, by omega⟩, _, rfl, _, rfl, _, _, rfl, rfl, ⟨by decide, by decide⟩, _, _, rfl, rfl, .inr ⟨by omega, by omega⟩, (by show 2 ≤ sizeLine; decide), fun t ht => ?_⟩
    subst ekk emk
    have s4 : Same H3 (upd H3 t (.tup [.int (wd * (z % 4 % 2)), .int (u * (z % 4 / 2))])) := Same.new ht
    have tt : TD (upd H3 t (.tup [.int (wd * (z % 4 % 2)), .int (u * (z % 4 / 2))])) (.ref t) (dMk ((wd * (z % 4 % 2)), (u * (z % 4 / 2)))) := .tup upd_same (.cons (.int _) (.cons (.int _) .nil))
    have A4 := A3.same s4
    have R4 := R3.same s4
    have S4 := S3.same s4
    have hm4 := s4 _ _ hm
    have tu4 := tu.mono (TSame.of s4)
    have ta4 := ta.mono (TSame.of s4)
    revert tt A4 R4 S4 hm4 tu4 ta4
    generalize (upd H3 t (.tup [.int (wd * (z % 4 % 2)), .int (u * (z % 4 / 2))])) = H4
    intro tt A4 R4 S4 hm4 tu4 ta4
    have lu : us.length = (mm i).length := by rw [tds_len tu, List.length_map]
    have lb := I.b i hi
    refine ⟨_, us, _, rfl, rfl, hm4, Nat.lt_of_le_of_lt (show us.length ≤ 100 by omega) (by decide), ?_⟩
    obtain ⟨A5, R5, tl5⟩ := A4.put R4 (x := .m i) (o' := .lst (us ++ [.ref t])) (L' := l8 N W.n cc (fun j => if j = i then mm i ++ [((wd * (z % 4 % 2)), (u * (z % 4 / 2)))] else mm j)) hi ⟨_, rfl, by
      show TDs H4 _ ((if i = i then mm i ++ [((wd * (z % 4 % 2)), (u * (z % 4 / 2)))] else mm i).map dMk)
      rw [if_pos rfl, List.map_append]
      exact tds_app tu4 (.cons tt .nil)⟩ (fun y o ne _ c => by
      cases y with
      | m j =>
        obtain ⟨vs, e, c⟩ := c
        refine ⟨vs, e, ?_⟩
        show TDs H4 _ ((if j = i then mm i ++ [((wd * (z % 4 % 2)), (u * (z % 4 / 2)))] else mm j).map dMk)
        rw [if_neg fun z => ne (by rw [z])]
        exact c
      | _ => exact c)
    have S5 : ScS K S (ss.map V.int) N (D8 W.n) M' (upd H4 (N (.m i)) (.lst (us ++ [.ref t]))) _ := S4.put (x := .m i) hi
    have ta5 := ta4.mono tl5
    revert A5 R5 S5 ta5
    generalize (upd H4 (N (.m i)) (.lst (us ++ [.ref t]))) = H5
    intro A5 R5 S5 ta5
    have I5 : I8 K S ss N M' H5 (W.set i (((W.st i).add (wd * (z % 4 % 2)).toNat (u * (z % 4 / 2))).setv v.toNat (some (i, (W.st i).oc)))) cc (fun j => if j = i then mm i ++ [((wd * (z % 4 % 2)), (u * (z % 4 / 2)))] else mm j) (bd + 1) := ⟨R5, A5, S5, I.ok.make hi hv kk0 kk8, I.n1, I.n8, fun j hj => by
      by_cases e : j = i
      · subst e
        show (if j = j then mm j ++ [((wd * (z % 4 % 2)), (u * (z % 4 / 2)))] else mm j).length ≤ _
        rw [if_pos rfl, List.length_append]
        exact Nat.add_le_add_right (I.b j hi) 1
      · show (if j = i then mm i ++ [((wd * (z % 4 % 2)), (u * (z % 4 / 2)))] else mm j).length ≤ _
        rw [if_neg e]
        exact Nat.le_succ_of_le (I.b j hj)⟩
    obtain ⟨b, rfl, hb⟩ := td_pair ta5
    refine ⟨_, rfl, _, _, _, _, true, rfl, .ty _, .base (.tup hb), kit_ty (by decide +kernel), _, rfl, ?_⟩
    refine iteF ?_
    refine ⟨_, rfl, _, _, rfl, .inr (SqT.of hb), rfl, _, rfl, iteF ?_⟩
    refine ⟨_, rfl, _, _, 0, _, rfl, rfl, SqT.of hb, two0, _, rfl, _, rfl, iteF ⟨_, rfl, _, _, 1, _, rfl, rfl, SqT.of hb, two1, _, rfl, _, rfl, iteF ?_⟩⟩
    obtain ⟨us5, hm5, tu5⟩ := I5.mrow (i := i) hi
    have l5 : us5.length = (mm i).length + 1 := by
      rw [tds_len tu5, List.length_map]
      show (if i = i then mm i ++ [(wd * (z % 4 % 2), u * (z % 4 / 2))] else mm i).length = _
      rw [if_pos rfl, List.length_append]
      rfl
    refine ⟨_, rfl, _, rfl, _, rfl, _, rfl, _, _, i, _, rfl, rfl, SqL.of I5.ms, at_site hi, _, _, rfl, .inl (SqL.of hm5), _, _, rfl, rfl, ?_⟩
    refine ⟨(by show 2 ≤ sizeLine; decide), fun t2 ht2 => ?_⟩
    have eo : (us5.length : Int) - 1 = (W.st i).oc := by rw [l5, I.ok.c i hi]; omega
    have s6 : Same H5 (upd H5 t2 (.tup [.int i, .int ((us5.length : Int) - 1)])) := Same.new ht2
    have tb : TD (upd H5 t2 (.tup [.int i, .int ((us5.length : Int) - 1)])) (.ref t2) (dRf (i, (W.st i).oc)) := by
      rw [eo]
      exact .tup upd_same (.cons (.int _) (.cons (.int _) .nil))
    have ta6 := ta5.mono (TSame.of s6)
    have sh : SeqAt.shaped (dRf (i, (W.st i).oc)) = true := shaped_rf
    refine ⟨_, _, ta6.dp, tb.dp, sh, sh, ?_⟩
    rw [eqv_rf]
    exact k M' _ _ _ mw (I5.same s6)

theorem ok_law_looks (T : Txt K mg) : FnOk P w K mg base CX0 5 (He.ga K "_law_looks") T.fd_law_looks ["world", "site", "variable", "contents", "made"] (spLooks8 K) := by
  refine T.F_law_looks.ok sc_law_looks (fun vs H Q E h => ?_) (fun cdv A outer s H vs Q E hr h => ?_)
  · obtain ⟨S, ss, N, M, W, mm, bd, i, v, rfl, I, hi, hv, k⟩ := h
    rfl
  · obtain ⟨S, ss, N, M, W, mm, bd, i, v, rfl, I, hi, hv, k⟩ := h
    refine ⟨_, PSs.nox (pss_cons (ps_set (i := 5) sc_law_looks.nd rfl (Or.inl rfl) (pe_ix ix_list (pe_ix ix_list (pv 3) (pv 1) (fun _ _ => rfl)) (pv 2) (fun _ _ => rfl)))
    (pss_cons (ps_try_as (i := 7) (c := .ref (He.ga K "Empty")) (tb := _) (ts := t_looks K) (Wout := fun _ _ _ _ => False) rfl rfl sc_law_looks.nd rfl rfl ⟨rfl, by decide, Or.inl T.mg_Empty⟩ takes0
      (fun W pn xe tk _ => (pss_one (ps_set (i := 6) sc_law_looks.nd rfl (Or.inl rfl) (Fh.pe_methW (pv 0) T.cl_World T.m_World_look (ok_World_look T) (hr.mono (by decide)) T.b_World_look (fun σ => passAt tk σ) (pa_cons (pv 1) (pa_cons (pv 2) pa_nil))))))
      (fun a oe cls d pn hz hf => pss_when fun hcd => by
        obtain ⟨rfl, rfl⟩ := hcd
        exact (pss_one (ps_ret (pe_and (pe_cmpR op_isN (pv 5) pe_non (nomark _)) (pe_and (pe_callB (call_isE T.ec_Empty hz hf) (by rfl) T.z_isinstance (by decide +kernel) (pa_cons (pv 7) (pa_cons (pe_glob (v := .ref (He.ga K "FarheapError")) (by rfl) T.mg_FarheapError rfl) pa_nil))) (pe_one (pe_not (pe_callB (call_isE T.ec_Empty hz hf) (by rfl) T.z_isinstance (by decide +kernel) (pa_cons (pv 7) (pa_cons (pe_glob (v := .ref (He.ga K "Unknown")) (by rfl) T.mg_Unknown rfl) pa_nil)))))))))))
    (pss_one (ps_ret (pe_and (pe_cmpR op_notN (pv 5) pe_non (nomark _)) (pe_and (pe_call (ok_law_is_integer T) (hr.mono (by decide)) (by rfl) T.g_law_is_integer T.F_law_is_integer.kp T.b_law_is_integer .nil pass0 (pa_cons (pv 6) pa_nil)) (pe_one (pe_cmpR op_eq (pv 6) (pe_ix ix_tup (pe_ix ix_list (pe_ix ix_list (pv 4) (pv 1) (fun _ _ => rfl)) (pe_ix ix_tup (pv 5) pe_int (fun _ _ => rfl)) (fun _ _ => rfl)) pe_int (fun _ _ => rfl)) (nomark _))))))))), ?_⟩
    have n8 : W.n ≤ 1000 := Nat.le_trans I.n8 (by decide)
    obtain ⟨_, hW, dx, rfl⟩ := I.R.at_ .world trivial
    obtain ⟨vs, hc, tv⟩ := I.row hi
    have l8 := I.ok.v i hi
    have lv : vs.length = 8 := by rw [tds_len tv, List.length_map, l8]
    obtain ⟨r, hr1⟩ : ∃ r, (W.st i).vars[v.toNat]? = some r := ⟨_, List.getElem?_eq_getElem (by omega)⟩
    obtain ⟨a, ha, ta⟩ := tds_get tv (k := v.toNat) (d := dOr r) (by rw [List.getElem?_map, hr1]; rfl)
    refine ⟨_, rfl, _, rfl, _, _, i, _, rfl, rfl, SqL.of I.cs, at_site hi, _, rfl, _, vs, v, a, rfl, rfl, SqL.of hc, atI8 hv lv ha, ?_⟩
    refine ⟨_, rfl, _, dx, _, rfl, hW, no_world (by decide +kernel), _, rfl, _, rfl, M, W, i, v, rfl, I.R, n8, fun z => absurd hi z, fun _ => ⟨l8, fun z => absurd hv z, fun _ => ⟨fun e => ?_, fun r' e ne => ?_, fun n e => ?_⟩⟩⟩
    · rw [hr1] at e
      cases Option.some.inj e
      cases ta
      exact ⟨true, T.u_Empty_Empty, fun _ b hb => ⟨⟨rfl, rfl⟩, _, rfl, rfl, _, rfl, iteT ⟨_, rfl, _, _, true, rfl, fun u h => h, T.k_Empty_FarheapError, _, rfl, iteT ⟨_, rfl, _, _, false, rfl, fun u h => h, T.k_Empty_Unknown, _, rfl, k⟩⟩⟩, fun q => Bool.noConfusion q⟩
    · exact absurd (I.ok.r i hi r' (List.mem_of_getElem? e)).1 ne
    · obtain ⟨_, h0, h1⟩ := I.ok.r i hi _ (List.mem_of_getElem? e)
      have ho : n ∈ (W.st i).objs := by rw [I.ok.o i hi]; exact mem_sitesL.mpr ⟨h0, h1⟩
      refine ⟨ho, fun _ => ?_⟩
      rw [hr1] at e
      cases Option.some.inj e
      obtain ⟨b, rfl, hb⟩ := td_pair ta
      obtain ⟨us, hm, tu⟩ := I.mrow hi
      obtain ⟨p, hp⟩ : ∃ p, (mm i)[n.toNat]? = some p := ⟨_, List.getElem?_eq_getElem (show n.toNat < (mm i).length by omega)⟩
      obtain ⟨c, hc2, tc⟩ := tds_get tu (k := n.toNat) (d := dMk p) (by rw [List.getElem?_map, hp]; rfl)
      obtain ⟨b2, rfl, hb2⟩ := td_pair tc
      have en : n = ((n.toNat : Nat) : Int) := by omega
      have em : ((W.st i).itm n).mark = p.2 := by rw [en, (I.ok.t i hi _ _ hp).1]
      rw [em]
      refine ⟨_, rfl, rfl, _, rfl, ?_⟩
      rw [show (!decide (V.ref b = V.non)) = true by simp]
      refine iteT ⟨_, rfl, _, rfl, _, rfl, iteT ⟨_, rfl, _, rfl, _, rfl, _, _, i, _, rfl, rfl, SqL.of I.ms, at_site hi, _, rfl, _, _, 1, _, rfl, rfl, SqT.of hb, two1, _, us, n, _, rfl, rfl, SqL.of hm, ?_, _, _, 1, _, rfl, rfl, SqT.of hb2, two1, rfl, ?_⟩⟩
      · rw [en]
        exact atI_nat hc2
      · rw [show decide (V.int p.2 = V.int p.2) = true by simp]
        exact k

theorem ok_law_holds (T : Txt K mg) : FnOk P w K mg base CX0 5 (He.ga K "_law_holds") T.fd_law_holds ["world", "site", "contents"] (spHolds8 K) := by
  refine T.F_law_holds.ok sc_law_holds (fun vs H Q E h => ?_) (fun cdv A outer s H vs Q E hr h => ?_)
  · obtain ⟨S, ss, N, M, W, mm, bd, i, rfl, I, hi, k⟩ := h
    rfl
  · obtain ⟨S, ss, N, M, W, mm, bd, i, rfl, I, hi, k⟩ := h
    refine ⟨_, PSs.nox (pss_cons (ps_set (i := 3) sc_law_holds.nd rfl (Or.inl rfl) (pe_meth (pv 0) T.cl_World T.m_World_variables (ok_World_variables T) (hr.mono (by decide)) T.b_World_variables .nil passL (pa_cons (pv 1) pa_nil)))
    (pss_one (ps_ret (pe_and (pe_callB call_isi (by rfl) T.z_isinstance (by decide +kernel) (pa_cons (pv 3) (pa_cons (pe_bltn (v := .ty "list") (by rfl) T.z_list (by decide +kernel) rfl) pa_nil))) (pe_one (pe_cmpR (op_eqD hr.units) (pv 3) (pe_ix ix_list (pv 2) (pv 1) (fun _ _ => rfl)) (nomark _))))))), ?_⟩
    have n8 : W.n ≤ 1000 := Nat.le_trans I.n8 (by decide)
    obtain ⟨_, hW, dx, rfl⟩ := I.R.at_ .world trivial
    refine ⟨_, rfl, _, dx, _, rfl, hW, no_world (by decide +kernel), _, rfl, M, W, i, rfl, I.R, n8, fun z => absurd hi z, fun _ => ⟨I.ok.v i hi, fun l xs hl tx => ?_⟩⟩
    have I2 := I.same (Same.new (o := .lst xs) hl)
    obtain ⟨vs, hc, tv⟩ := I2.row hi
    have t1 := tx.mono (TSame.of (Same.new (o := .lst xs) hl))
    have hl1 : (upd H l (.lst xs)) l = some (.lst xs) := upd_same
    have sh : SeqAt.shaped (.list ((W.st i).vars.map dOr)) = true := shaped_ors (I.ok.v i hi)
    refine ⟨_, rfl, _, _, _, _, true, rfl, .ty _, .base (.lst hl1), kit_ty (by decide +kernel), _, rfl, iteT ?_⟩
    refine ⟨_, rfl, _, rfl, _, rfl, _, _, i, _, rfl, rfl, SqL.of I2.cs, at_site hi, _, _, .lst (SqL.of hl1) t1.dp, .lst (SqL.of hc) tv.dp, sh, sh, ?_⟩
    rw [eqv_ors]
    exact k _ (Same.new hl)

theorem ok_law_ends_well (T : Txt K mg) : FnOk P w K mg base CX0 6 (He.ga K "_law_ends_well") T.fd_law_ends_well ["world", "sites", "contents", "made"] (spEnds8 K) := by
  refine T.F_law_ends_well.ok sc_law_ends_well (fun vs H Q E h => ?_) (fun cdv A outer s H vs Q E hr h => ?_)
  · obtain ⟨S, ss, N, M, W, mm, bd, rfl, I, hbd, k⟩ := h
    rfl
  · obtain ⟨S, ss, N, M, W, mm, bd, rfl, I, hbd, k⟩ := h
    refine ⟨_, PSs.nox (pss_cons (ps_for PassesOwn.never rfl (pi_range1 (by rfl) T.z_range (pa_cons (pv 1) pa_nil)) (pg_name (i := 4) sc_law_ends_well.nd rfl (Or.inl rfl))
      (pss_cons (ps_if (PW.pt (pw_or (pt_not (pt_val (pe_call (ok_law_holds T) (hr.mono (by decide)) (by rfl) T.g_law_holds T.F_law_holds.kp T.b_law_holds .nil pass0 (pa_cons (pv 0) (pa_cons (pv 4) (pa_cons (pv 2) pa_nil)))))) (pw_or1 (pt_cmpR (op_neD hr.units) (pe_meth (pv 0) T.cl_World T.m_World_inbox (ok_World_inbox T) (hr.mono (by decide)) T.b_World_inbox .nil passL (pa_cons (pv 4) pa_nil)) (pe_lst pa_nil) (nomark _)))))
        (pss_one (ps_ret pe_bl))
        pss_nil)
      (pss_cons (ps_if (pt_cmpR (op_neD hr.units) (pe_meth (pv 0) T.cl_World T.m_World_objects (ok_World_objects T) (hr.mono (by decide)) T.b_World_objects .nil passL (pa_cons (pv 4) pa_nil)) (pe_listRg rfl (by rfl) T.z_list (prg_1 (by rfl) T.z_range (pe_callB call_len_seq (by rfl) T.z_len (by decide +kernel) (pa_cons (pe_ix ix_list (pv 3) (pv 4) (fun _ _ => rfl)) pa_nil)))) (nomark _))
        (pss_one (ps_ret pe_bl))
        pss_nil)
      (pss_cons (ps_for PassesOwn.never rfl (pi_range1 (by rfl) T.z_range (pa_cons (pe_callB call_len_seq (by rfl) T.z_len (by decide +kernel) (pa_cons (pe_ix ix_list (pv 3) (pv 4) (fun _ _ => rfl)) pa_nil)) pa_nil)) (pg_name (i := 5) sc_law_ends_well.nd rfl (Or.inl rfl))
        (pss_cons (ps_set (i := 6) sc_law_ends_well.nd rfl (Or.inl rfl) (pe_meth (pv 0) T.cl_World T.m_World_fields (ok_World_fields T) (hr.mono (by decide)) T.b_World_fields .nil passL (pa_cons (pv 4) (pa_cons (pv 5) pa_nil))))
        (pss_one (ps_if (PW.pt (pw_or (pt_not (pt_val (pe_callB call_isi (by rfl) T.z_isinstance (by decide +kernel) (pa_cons (pv 6) (pa_cons (pe_bltn (v := .ty "list") (by rfl) T.z_list (by decide +kernel) rfl) pa_nil))))) (pw_or1 (pt_cmpR (op_neD hr.units) (pv 6) (pe_op op_rep (pe_lst (pa_cons pe_non pa_nil)) (pe_ix ix_tup (pe_ix ix_list (pe_ix ix_list (pv 3) (pv 4) (fun _ _ => rfl)) (pv 5) (fun _ _ => rfl)) pe_int (fun _ _ => rfl))) (nomark _)))))
          (pss_one (ps_ret pe_bl))
          pss_nil))))
      (pss_one (ps_for PassesOwn.never rfl (pi_range1 (by rfl) T.z_range (pa_cons pe_int pa_nil)) (pg_name (i := 7) sc_law_ends_well.nd rfl (Or.inl rfl))
        (pss_one (ps_if (pt_not (pt_val (pe_call (ok_law_looks T) (hr.mono (by decide)) (by rfl) T.g_law_looks T.F_law_looks.kp T.b_law_looks .nil pass0 (pa_cons (pv 0) (pa_cons (pv 4) (pa_cons (pv 7) (pa_cons (pv 2) (pa_cons (pv 3) pa_nil))))))))
          (pss_one (ps_ret pe_bl))
          pss_nil))))))))
    (pss_one (ps_ret pe_bl))), ?_⟩
    have n8 : W.n ≤ 1000 := Nat.le_trans I.n8 (by decide)
    have nn := I.n8
    refine ⟨_, rfl, (W.n : Int), rfl, by omega, by omega, ?_⟩
    refine for_range (lo := 0) (n := (W.n : Int).toNat) (fun j σ H2 => ∃ v4 v5 v6 v7, σ = [some (.ref (M .world)), some (.int W.n), some (.ref (N .cA)), some (.ref (N .mA)), v4, v5, v6, v7] ∧ Same H H2) ⟨none, none, none, none, rfl, fun _ _ h => h⟩ ?_ ?_
    · rintro j σ H2 hj ⟨v4, v5, v6, v7, rfl, s2⟩
      have hi : (j : Int) ∈ sitesL W.n := mem_sitesL.mpr ⟨by omega, by omega⟩
      have I2 := I.same s2
      rw [Int.zero_add]
      refine ⟨_, rfl, _, rfl, _, rfl, S, ss, N, M, W, mm, bd, (j : Int), rfl, I2, hi, fun H3 s3 => ⟨_, rfl, iteF ?_⟩⟩
      have I3 := I2.same s3
      obtain ⟨_, hW, dx, rfl⟩ := I3.R.at_ .world trivial
      refine ⟨_, rfl, _, dx, _, rfl, hW, no_world (by decide +kernel), _, rfl, M, W, (j : Int), rfl, I3.R, n8, fun z => absurd hi z, fun _ => ⟨by rw [I.ok.x _ hi]; decide, fun l xs hl tx => ?_⟩⟩
      rw [I.ok.x _ hi] at tx
      cases tx
      refine ⟨(by show 0 ≤ sizeLine; decide), fun l2 hl2 => ?_⟩
      have sA : Same H3 (upd H3 l (.lst [])) := Same.new hl
      have sB : Same (upd H3 l (.lst [])) (upd (upd H3 l (.lst [])) l2 (.lst [])) := Same.new hl2
      have e1 := sB _ _ (upd_same (H := H3) (a := l) (o := .lst []))
      have e2 : (upd (upd H3 l (.lst [])) l2 (.lst [])) l2 = some (.lst []) := upd_same
      have s5 := sA.trans sB
      revert e1 e2 s5
      generalize (upd (upd H3 l (.lst [])) l2 (.lst [])) = H5
      intro e1 e2 s5
      have I5 := I3.same s5
      have hW5 := s5 _ _ hW
      have lb := I.b _ hi
      refine ⟨.list [], .list [], .lst (SqL.of e1) TDs.nil.dp, .lst (SqL.of e2) TDs.nil.dp, rfl, rfl, _, rfl, iteF ?_⟩
      -- the numbers
      refine ⟨_, rfl, _, dx, _, rfl, hW5, no_world (by decide +kernel), _, rfl, M, W, (j : Int), rfl, I5.R, n8, fun z => absurd hi z, fun _ => ⟨by rw [I.ok.o _ hi, sitesL_len]; omega, by rw [I.ok.o _ hi]; exact pw_sitesL _, fun l3 hl3 => ?_⟩⟩
      rw [I.ok.o _ hi]
      have s6 : Same H5 (upd H5 l3 (.lst ((sitesL (mm j).length).map V.int))) := Same.new hl3
      have h6 : (upd H5 l3 (.lst ((sitesL (mm j).length).map V.int))) l3 = some (.lst ((sitesL (mm j).length).map V.int)) := upd_same
      revert s6 h6
      generalize (upd H5 l3 (.lst ((sitesL (mm j).length).map V.int))) = H6
      intro s6 h6
      have I6 := I5.same s6
      obtain ⟨us, hm, tu⟩ := I6.mrow hi
      have lu : us.length = (mm j).length := by rw [tds_len tu, List.length_map]
      refine ⟨_, rfl, _, rfl, _, _, (j : Int), _, rfl, rfl, SqL.of I6.ms, at_site hi, _, _, rfl, .inl (SqL.of hm), _, rfl, ?_⟩
      refine ⟨RgOk.of_le (by decide) (by omega) (by decide) (by omega), fun l4 hl4 => ?_⟩
      rw [lu, rgV_sites]
      have s7 : Same H6 (upd H6 l4 (.lst ((sitesL (mm j).length).map V.int))) := Same.new hl4
      have h7 : (upd H6 l4 (.lst ((sitesL (mm j).length).map V.int))) l4 = some (.lst ((sitesL (mm j).length).map V.int)) := upd_same
      have h6' := s7 _ _ h6
      refine ⟨_, _, Ce.dp_I (SqL.of h6'), Ce.dp_I (SqL.of h7), Ce.shaped_I, Ce.shaped_I, _, rfl, ?_⟩
      rw [Ce.eqv_I]
      refine iteF ?_
      have I7 := I6.same s7
      have s27 : Same H (upd H6 l4 (.lst ((sitesL (mm j).length).map V.int))) := (s2.trans s3).trans ((s5.trans s6).trans s7)
      have hm7 := s7 _ _ hm
      revert I7 s27 hm7
      generalize (upd H6 l4 (.lst ((sitesL (mm j).length).map V.int))) = H7
      intro I7 s27 hm7
      -- for number
      refine ⟨_, rfl, _, rfl, _, _, (j : Int), _, rfl, rfl, SqL.of I7.ms, at_site hi, _, _, rfl, .inl (SqL.of hm7), (us.length : Int), rfl, by omega, by omega, ?_⟩
      refine for_range (lo := 0) (n := (us.length : Int).toNat) (fun q σ H8 => ∃ v5 v6 v7, σ = [some (.ref (M .world)), some (.int W.n), some (.ref (N .cA)), some (.ref (N .mA)), some (.int j), v5, v6, v7] ∧ Same H H8) ⟨v5, v6, v7, rfl, s27⟩ ?_ ?_
      · rintro q σ H8 hq ⟨v5, v6, v7, rfl, s8⟩
        have hq2 : q < (mm j).length := by omega
        obtain ⟨p, hp⟩ : ∃ p, (mm j)[q]? = some p := ⟨_, List.getElem?_eq_getElem hq2⟩
        obtain ⟨et, p0, p8⟩ := I.ok.t _ hi q p hp
        have I8' := I.same s8
        obtain ⟨_, hW8, dx8, rfl⟩ := I8'.R.at_ .world trivial
        rw [Int.zero_add]
        have ho : (q : Int) ∈ (W.st j).objs := by rw [I.ok.o _ hi]; exact mem_sitesL.mpr ⟨by omega, by omega⟩
        refine ⟨_, rfl, _, dx8, _, rfl, hW8, no_world (by decide +kernel), _, rfl, _, rfl, M, W, (j : Int), (q : Int), rfl, I8'.R, n8, fun z => absurd hi z, fun _ => ⟨fun z => absurd ho z, fun _ => ⟨?_, fun l5 xs hl5 tx => ?_⟩⟩⟩
        · rw [et]
          show (List.replicate p.1.toNat none).length ≤ _
          rw [List.length_replicate]
          omega
        rw [et] at tx
        have s9 : Same H8 (upd H8 l5 (.lst xs)) := Same.new hl5
        have h9 : (upd H8 l5 (.lst xs)) l5 = some (.lst xs) := upd_same
        have tx9 := tx.mono (TSame.of s9)
        revert s9 h9 tx9
        generalize (upd H8 l5 (.lst xs)) = H9
        intro s9 h9 tx9
        have I9 := I8'.same s9
        obtain ⟨us9, hm9, tu9⟩ := I9.mrow hi
        obtain ⟨c, hc, tc⟩ := tds_get tu9 (k := q) (d := dMk p) (by rw [List.getElem?_map, hp]; rfl)
        obtain ⟨b, rfl, hb⟩ := td_pair tc
        refine ⟨_, rfl, _, _, _, _, true, rfl, .ty _, .base (.lst h9), kit_ty (by decide +kernel), _, rfl, iteF ?_⟩
        refine ⟨_, rfl, (by show 1 ≤ sizeLine; decide), fun l6 hl6 => ?_⟩
        have s10 : Same H9 (upd H9 l6 (.lst [.non])) := Same.new hl6
        have h10 : (upd H9 l6 (.lst [.non])) l6 = some (.lst [.non]) := upd_same
        revert s10 h10
        generalize (upd H9 l6 (.lst [.non])) = H10
        intro s10 h10
        have I10 := I9.same s10
        refine ⟨_, rfl, _, rfl, _, _, (j : Int), _, rfl, rfl, SqL.of I10.ms, at_site hi, _, rfl, _, us9, (q : Int), _, rfl, rfl, SqL.of (s10 _ _ hm9), atI_nat hc, _, _, 0, _, rfl, rfl, SqT.of (s10 _ _ hb), two0, ?_⟩
        refine ⟨l6, p.1, [.non], rfl, rfl, h10, by omega, by omega, (by
          have : (100 : Nat) ≤ sizeLine := by decide
          show 1 * p.1.toNat ≤ sizeLine
          omega), fun l7 hl7 => ?_⟩
        rw [List.flatten_replicate_singleton]
        have s11 : Same H10 (upd H10 l7 (.lst (List.replicate p.1.toNat .non))) := Same.new hl7
        have h11 : (upd H10 l7 (.lst (List.replicate p.1.toNat .non))) l7 = some (.lst (List.replicate p.1.toNat .non)) := upd_same
        have t11 := tds_nons (H := upd H10 l7 (.lst (List.replicate p.1.toNat .non))) p.1.toNat
        have tx11 := (tx9.mono (TSame.of s10)).mono (TSame.of s11)
        have h9' := s11 _ _ (s10 _ _ h9)
        have shp : SeqAt.shaped (.list ((List.replicate p.1.toNat (none : Option Rf)).map dOr)) = true := shaped_ors8
        refine ⟨_, _, .lst (SqL.of h9') tx11.dp, .lst (SqL.of h11) t11.dp, shp, shp, _, rfl, ?_⟩
        rw [eqv_ors]
        refine iteF ?_
        exact ⟨_, _, _, rfl, (s8.trans s9).trans (s10.trans s11)⟩
      rintro σ H8 ⟨v5, v6, v7, rfl, s8⟩
      -- for variable
      refine ⟨8, rfl, by decide, by decide, ?_⟩
      refine for_range (lo := 0) (n := 8) (fun q σ H9 => ∃ v5 v6 v7, σ = [some (.ref (M .world)), some (.int W.n), some (.ref (N .cA)), some (.ref (N .mA)), some (.int j), v5, v6, v7] ∧ Same H H9) ⟨v5, v6, v7, rfl, s8⟩ ?_ ?_
      · rintro q σ H9 hq ⟨v5, v6, v7, rfl, s9⟩
        rw [Int.zero_add]
        refine ⟨_, rfl, _, rfl, _, rfl, _, rfl, _, rfl, S, ss, N, M, W, mm, bd, (j : Int), (q : Int), rfl, I.same s9, hi, ⟨by omega, by omega⟩, _, rfl, iteF ?_⟩
        exact ⟨_, _, _, rfl, s9⟩
      rintro σ H9 ⟨v5, v6, v7, rfl, s9⟩
      exact ⟨_, _, _, _, rfl, s9⟩
    rintro σ H2 ⟨v4, v5, v6, v7, rfl, s2⟩
    exact k _

theorem ok_law (T : Txt K mg) : FnOk P w K mg base CX0 9 (He.ga K "law") T.fd_law ["script"] (spLaw K) := by
  refine T.F_law.ok sc_law (fun vs H Q E h => ?_) (fun cdv A outer s H vs Q E hr h => ?_)
  · obtain ⟨S, ss, rfl, hS, hl, k⟩ := h
    rfl
  · obtain ⟨S, ss, rfl, hS, hl, k⟩ := h
    refine ⟨_, PSs.nox (C8.pss_cut (ps_set (i := 1) sc_law.nd rfl (Or.inl rfl) (pe_op op_add pe_int (pe_op op_mod (pe_callTy call_int1 (by rfl) T.z_int (by decide +kernel) (pa_cons (pe_call (ok_law_cell T) (hr.mono (by decide)) (by rfl) T.g_law_cell T.F_law_cell.kp T.b_law_cell .nil pass0 (pa_cons (pv 0) (pa_cons pe_int pa_nil))) pa_nil)) pe_int)))
    (pss_cons (ps_set (i := 2) sc_law.nd rfl (Or.inl rfl) (pe_make T.mk_World (ok_World_init T) (hr.mono (by decide)) (by rfl) T.mg_World T.b_World_init .nil pass0 (pa_cons (pv 1) pa_nil)))
    (pss_cons (ps_setLc (i := 4) (own := [("k", 3)]) (g := gName 3) (tt := tYes) (by rfl) sc_law.nd rfl rfl (sw_true rfl rfl rfl (by decide +kernel)) (pi_range1 (by rfl) T.z_range (pa_cons (pv 1) pa_nil)) (blkOk_by (own := [("k", 3)]) (N := ["script", "sites", "world", "k", "contents", "made", "part", "site", "deed", "variable", "target", "good"]) (sc := defScope s_law) (by decide +kernel)) (fun _ _ _ _ _ => pg_name (i := 3) sc_law.nd rfl (Or.inl rfl)) (fun _ _ _ _ _ => pts_nil) (fun _ _ _ _ _ => (pe_op op_rep (pe_lst (pa_cons pe_non pa_nil)) pe_int)))
    (pss_cons (ps_setLc (i := 5) (own := [("k", 3)]) (g := gName 3) (tt := tYes) (by rfl) sc_law.nd rfl rfl (sw_true rfl rfl rfl (by decide +kernel)) (pi_range1 (by rfl) T.z_range (pa_cons (pv 1) pa_nil)) (blkOk_by (own := [("k", 3)]) (N := ["script", "sites", "world", "k", "contents", "made", "part", "site", "deed", "variable", "target", "good"]) (sc := defScope s_law) (by decide +kernel)) (fun _ _ _ _ _ => pg_name (i := 3) sc_law.nd rfl (Or.inl rfl)) (fun _ _ _ _ _ => pts_nil) (fun _ _ _ _ _ => (pe_lst pa_nil)))
    (pss_cons (ps_for PassesOwn.never rfl (pi_range2 (by rfl) T.z_range (pa_cons pe_int (pa_cons (pe_callB call_len_seq (by rfl) T.z_len (by decide +kernel) (pa_cons (pv 0) pa_nil)) pa_nil))) (pg_name (i := 3) sc_law.nd rfl (Or.inl rfl))
      (pss_cons (ps_set (i := 6) sc_law.nd rfl (Or.inl rfl) (pe_call (ok_law_number T) (hr.mono (by decide)) (by rfl) T.g_law_number T.F_law_number.kp T.b_law_number .nil pass0 (pa_cons (pe_ix ix_list (pv 0) (pv 3) (fun _ _ => rfl)) (pa_cons (pv 3) pa_nil))))
      (pss_cons (ps_set (i := 7) sc_law.nd rfl (Or.inl rfl) (pe_op op_mod (pe_callTy call_int1 (by rfl) T.z_int (by decide +kernel) (pa_cons (pv 6) pa_nil)) (pv 1)))
      (pss_cons (ps_set (i := 8) sc_law.nd rfl (Or.inl rfl) (pe_op op_mod (pe_callTy call_int1 (by rfl) T.z_int (by decide +kernel) (pa_cons (pe_op op_fdiv (pv 6) pe_int) pa_nil)) pe_int))
      (pss_cons (ps_set (i := 9) sc_law.nd rfl (Or.inl rfl) (pe_op op_mod (pe_callTy call_int1 (by rfl) T.z_int (by decide +kernel) (pa_cons (pe_op op_fdiv (pv 6) pe_int) pa_nil)) pe_int))
      (pss_cons (ps_set (i := 10) sc_law.nd rfl (Or.inl rfl) (pe_op op_mod (pe_callTy call_int1 (by rfl) T.z_int (by decide +kernel) (pa_cons (pe_op op_fdiv (pv 6) pe_int) pa_nil)) pe_int))
      (C8.pss_cut (ps_set (i := 11) sc_law.nd rfl (Or.inl rfl) pe_bl)
      (C8.pss_cut (ps_if (pt_cmpR op_lt (pv 8) pe_int (nomark _))
        (pss_cons (ps_set (i := 11) sc_law.nd rfl (Or.inl rfl) (pe_call (ok_law_makes T) (hr.mono (by decide)) (by rfl) T.g_law_makes T.F_law_makes.kp T.b_law_makes .nil pass0 (pa_cons (pv 2) (pa_cons (pv 7) (pa_cons (pv 9) (pa_cons (pe_op op_fdiv (pv 6) pe_int) (pa_cons (pv 5) pa_nil)))))))
        (pss_one (ps_asg (pe_tup (pa_cons (pv 7) (pa_cons (pe_op op_sub (pe_callB call_len_seq (by rfl) T.z_len (by decide +kernel) (pa_cons (pe_ix ix_list (pv 5) (pv 7) (fun _ _ => rfl)) pa_nil)) pe_int) pa_nil))) (pg_sub (pe_ix ix_list (pv 4) (pv 7) (fun _ _ => rfl)) (pv 9) set_list))))
        (pss_one (ps_if (pt_cmpR op_lt (pv 8) pe_int (nomark _))
          (pss_cons (ps_expr (pe_meth (pv 2) T.cl_World T.m_World_assign (ok_World_assign T) (hr.mono (by decide)) T.b_World_assign .nil passL (pa_cons (pv 7) (pa_cons (pv 9) (pa_cons (pv 10) pa_nil)))))
          (pss_one (ps_asg (pe_ix ix_list (pe_ix ix_list (pv 4) (pv 7) (fun _ _ => rfl)) (pv 9) (fun _ _ => rfl)) (pg_sub (pe_ix ix_list (pv 4) (pv 7) (fun _ _ => rfl)) (pv 10) set_list))))
          (pss_one (ps_if (pt_cmpR op_eq (pv 8) pe_int (nomark _))
            (pss_cons (ps_expr (pe_meth (pv 2) T.cl_World T.m_World_reset (ok_World_reset T) (hr.mono (by decide)) T.b_World_reset .nil passL (pa_cons (pv 7) (pa_cons (pv 9) pa_nil))))
            (pss_one (ps_asg pe_non (pg_sub (pe_ix ix_list (pv 4) (pv 7) (fun _ _ => rfl)) (pv 9) set_list))))
            (pss_one (ps_set (i := 11) sc_law.nd rfl (Or.inl rfl) (pe_call (ok_law_looks T) (hr.mono (by decide)) (by rfl) T.g_law_looks T.F_law_looks.kp T.b_law_looks .nil pass0 (pa_cons (pv 2) (pa_cons (pv 7) (pa_cons (pv 9) (pa_cons (pv 4) (pa_cons (pv 5) pa_nil)))))))))))))
      (pss_cons (ps_if (PW.pt (pw_or (pt_not (pt_val (pv 11))) (pw_or1 (pt_not (pt_val (pe_call (ok_law_holds T) (hr.mono (by decide)) (by rfl) T.g_law_holds T.F_law_holds.kp T.b_law_holds .nil pass0 (pa_cons (pv 2) (pa_cons (pv 7) (pa_cons (pv 4) pa_nil)))))))))
        (pss_one (ps_ret pe_bl))
        pss_nil)
      (pss_one (ps_if (pt_not (pt_val (pe_call (ok_law_holds T) (hr.mono (by decide)) (by rfl) T.g_law_holds T.F_law_holds.kp T.b_law_holds .nil pass0 (pa_cons (pv 2) (pa_cons (pe_op op_mod (pe_op op_add (pv 7) pe_int) (pv 1)) (pa_cons (pv 4) pa_nil))))))
        (pss_one (ps_ret pe_bl))
        pss_nil)))))))))))
    (pss_one (ps_ret (pe_call (ok_law_ends_well T) (hr.mono (by decide)) (by rfl) T.g_law_ends_well T.F_law_ends_well.kp T.b_law_ends_well .nil pass0 (pa_cons (pv 2) (pa_cons (pv 1) (pa_cons (pv 4) (pa_cons (pv 5) pa_nil)))))))))))), ?_⟩
    have big : 100000 < sizeLine := by decide
    refine ⟨fun σ H2 => ∃ n : Nat, (1 ≤ n ∧ n ≤ 8) ∧ σ = [some (.ref S), some (.int n), none, none, none, none, none, none, none, none, none, none] ∧ H2 = H, ?_, ?_⟩
    · refine ⟨_, rfl, S, ss, 0, rfl, hS, by decide, fun r => ?_⟩
      refine .inl ⟨_, rfl, _, _, rfl, rfl, (by show (0 : Int) < 8; decide), _, _, rfl, rfl, (1 + r % 8).toNat, ⟨by omega, by omega⟩, ?_, rfl⟩
      rw [Int.toNat_of_nonneg (by omega)]
      rfl
    rintro σ H2 ⟨n, ⟨n1, n8⟩, rfl, rfl⟩
    refine ⟨_, rfl, fun x dx hx hdx hne => ⟨x, dx, n, rfl, by omega, upd_same, fun H1 M R mw fr kp => ⟨rfl, ?_⟩⟩⟩
    refine ⟨_, rfl, (n : Int), rfl, by omega, by omega, fun D1 hD1 => ?_⟩
    refine lc_range (lo := 0) (n := (n : Int).toNat) (fun j G => ∃ cs, RowsL H1 G D1 j cs (List.replicate 8 .non)) ⟨fun _ => 0, RowsL.start hD1⟩ ?_ ?_
    · rintro j G hj ⟨cs, A1⟩
      refine ⟨rfl, ?_⟩
      refine tyesT ?_
      rw [if_pos rfl]
      refine ⟨(by show 1 ≤ sizeLine; decide), fun l0 h0 => ?_⟩
      have s0 : Same G (upd G l0 (.lst [.non])) := Same.new h0
      refine ⟨l0, 8, [.non], rfl, rfl, upd_same, by decide, by decide, (by show 1 * 8 ≤ sizeLine; decide), fun x1 hx1 => ?_⟩
      obtain ⟨e1, B1⟩ := A1.step (x := x1) (s0.trans (Same.new (o := .lst (List.replicate 8 .non)) hx1)) (s0.free hx1) upd_same
      exact ⟨_, e1, by rw [List.length_map, sitesL_len]; omega, _, B1⟩
    rintro G1 ⟨cs, A1⟩
    rw [show (n : Int).toNat = n from rfl] at A1
    refine ⟨_, rfl, (n : Int), rfl, by omega, by omega, fun D2 hD2 => ?_⟩
    refine lc_range (lo := 0) (n := (n : Int).toNat) (fun j G => ∃ cs, RowsL G1 G D2 j cs []) ⟨fun _ => 0, RowsL.start hD2⟩ ?_ ?_
    · rintro j G hj ⟨cs, A1⟩
      refine ⟨rfl, ?_⟩
      refine tyesT ?_
      rw [if_pos rfl]
      refine ⟨(by show 0 ≤ sizeLine; decide), fun x1 hx1 => ?_⟩
      obtain ⟨e1, B1⟩ := A1.step (x := x1) (Same.new (o := .lst []) hx1) hx1 upd_same
      exact ⟨_, e1, by rw [List.length_map, sitesL_len]; omega, _, B1⟩
    rintro G2 ⟨ms, A2⟩
    rw [show (n : Int).toNat = n from rfl] at A2
    have npH : ∀ b o, H2 b = some o → H1 b = some o := fun b o e => kp b o (by rw [upd_ne (ne_of_none e hx), upd_ne (ne_of_none e hdx)]; exact e) (ne_of_none e hx)
    have fw : ∀ s, Dom (W0 n) s → H2 (M s) = none := fun s hs => by
      by_cases e : s = .world
      · rw [e, mw]; exact hx
      · have := fr s e hs
        have n1 : M s ≠ x := fun z => by rw [z, upd_same] at this; cases this
        rw [upd_ne n1] at this
        have n2 : M s ≠ dx := fun z => by rw [z, upd_same] at this; cases this
        rw [upd_ne n2] at this
        exact this
    have I := I8.start (ss := ss) (S := S) R A1 A2 hS npH fw n1 n8
    subst mw
    clear A1 A2 npH fw kp fr hx hdx hne
    have eA : N8 D1 D2 cs ms .cA = D1 := rfl
    have eM : N8 D1 D2 cs ms .mA = D2 := rfl
    generalize N8 D1 D2 cs ms = N at I eA eM
    subst eA eM
    refine ⟨_, rfl, _, _, rfl, .inl I.s.sq, 1, ((ss.map V.int).length : Int), rfl, ⟨by decide, by decide, by rw [List.length_map]; omega, by rw [List.length_map]; omega⟩, ?_⟩
    refine for_range (lo := 1) (n := (((ss.map V.int).length : Int) - 1).toNat) (fun j σ G => ∃ (M : WS → Addr) (W : WSt) (mm : Int → List (Int × Int)) (v3 v6 v7 v8 v9 v10 v11 : Option V), σ = [some (.ref S), some (.int n), some (.ref (M .world)), v3, some (.ref (N .cA)), some (.ref (N .mA)), v6, v7, v8, v9, v10, v11] ∧ W.n = n ∧ I8 K S ss N M G W (fun i => (W.st i).vars) mm j)
      ⟨M, _, _, none, none, none, none, none, none, none, rfl, rfl, I⟩ ?_ ?_
    · clear I
      clear M R
      rintro j σ G hj ⟨M, W, mm, v3, v6, v7, v8, v9, v10, v11, rfl, en, I⟩
      rw [List.length_map] at hj
      have hj2 : 1 + j < ss.length := by omega
      obtain ⟨z, hz⟩ : ∃ z, ss[1 + j]? = some z := ⟨_, List.getElem?_eq_getElem hj2⟩
      refine ⟨_, rfl, _, rfl, _, _, ((1 + j : Nat) : Int), _, rfl, rfl, I.s.sq, atI_nat (by rw [List.getElem?_map, hz]; rfl), _, rfl, z, _, rfl, fun part => ?_⟩
      refine ⟨_, rfl, .inl ⟨_, rfl, _, rfl, _, _, rfl, rfl, (by show (0 : Int) < (n : Int); omega), ?_⟩⟩
      refine ⟨_, rfl, _, _, rfl, rfl, ⟨by decide, by decide⟩, .inl ⟨_, rfl, _, _, rfl, rfl, (by show (0 : Int) < 8; decide), ?_⟩⟩
      refine ⟨_, rfl, _, _, rfl, rfl, ⟨by decide, by decide⟩, .inl ⟨_, rfl, _, _, rfl, rfl, (by show (0 : Int) < 8; decide), ?_⟩⟩
      refine ⟨_, rfl, _, _, rfl, rfl, ⟨by decide, by decide⟩, .inl ⟨_, rfl, _, _, rfl, rfl, (by show (0 : Int) < 8; decide), ?_⟩⟩
      refine ⟨fun σ H3 => ∃ (i d v t : Int), (i ∈ sitesL W.n ∧ (0 ≤ v ∧ v < 8) ∧ (0 ≤ t ∧ t < 8)) ∧ σ = [some (.ref S), some (.int n), some (.ref (M .world)), some (.int ((1 + j : Nat) : Int)), some (.ref (N .cA)), some (.ref (N .mA)), some (.int part), some (.int i), some (.int d), some (.int v), some (.int t), some (.bl true)] ∧ H3 = G,
        ⟨part % (n : Int), part / 8 % 8, part / 64 % 8, part / 512 % 8, ⟨mem_sitesL.mpr ⟨Int.emod_nonneg _ (by omega), by rw [en]; exact Int.emod_lt_of_pos _ (by omega)⟩, by omega, by omega⟩, rfl, rfl⟩, ?_⟩
      rintro σ H3 ⟨i, d, v, t, ⟨hi, hv, ht⟩, rfl, rfl⟩
      have n8 : W.n ≤ 1000 := Nat.le_trans I.n8 (by decide)
      obtain ⟨_, hW, dw, rfl⟩ := I.R.at_ .world trivial
      obtain ⟨cv, hc, tc⟩ := I.row hi
      have l8 := I.ok.v i hi
      have lc : cv.length = 8 := by rw [tds_len tc, List.length_map]; exact l8
      refine ⟨fun σ H4 => ∃ (M' : WS → Addr) (W' : WSt) (mm' : Int → List (Int × Int)), σ = [some (.ref S), some (.int n), some (.ref (M' .world)), some (.int ((1 + j : Nat) : Int)), some (.ref (N .cA)), some (.ref (N .mA)), some (.int part), some (.int i), some (.int d), some (.int v), some (.int t), some (.bl true)] ∧ W'.n = n ∧ I8 K S ss N M' H4 W' (fun i => (W'.st i).vars) mm' (j + 1), ?_, ?_⟩
      · refine ⟨_, rfl, _, _, rfl, rfl, _, rfl, ?_⟩
        refine ite2 (fun _ => ?_) (fun _ => ?_)
        · refine ⟨_, rfl, _, rfl, _, rfl, _, rfl, _, _, rfl, rfl, ⟨by decide, by decide⟩, _, rfl, S, ss, N, M, W, _, mm, j, i, v, _, rfl, I, by omega, hi, hv, fun M' H5 kk mk mw I5 => ?_⟩
          obtain ⟨us5, hm5, tu5⟩ := I5.mrow (i := i) hi
          have l5 : us5.length = (mm i).length + 1 := by
            rw [tds_len tu5, List.length_map]
            show (if i = i then mm i ++ [(kk, mk)] else mm i).length = _
            rw [if_pos rfl, List.length_append]
            rfl
          have eo : (us5.length : Int) - 1 = (W.st i).oc := by rw [l5, I.ok.c i hi]; omega
          refine ⟨_, rfl, _, rfl, _, rfl, _, _, i, _, rfl, rfl, SqL.of I5.ms, at_site hi, _, _, rfl, .inl (SqL.of hm5), _, _, rfl, rfl, (by show 2 ≤ sizeLine; decide), fun a ha => ?_⟩
          have I6 := I5.same (Same.new (o := .tup [.int i, .int ((us5.length : Int) - 1)]) ha)
          have ta : TD (upd H5 a (.tup [.int i, .int ((us5.length : Int) - 1)])) (.ref a) (dOr (some (i, (W.st i).oc))) := by
            show TD _ _ (dRf _)
            rw [eo]
            exact .tup upd_same (.cons (.int _) (.cons (.int _) .nil))
          obtain ⟨cv6, hc6, tc6⟩ := I6.row (i := i) hi
          have lc6 : cv6.length = 8 := by rw [tds_len tc6, List.length_map]; exact l8
          have I7 := I6.setc (i := i) hi tc6 v.toNat ta
          refine ⟨_, rfl, _, rfl, _, _, i, _, rfl, rfl, SqL.of I6.cs, at_site hi, _, rfl, _, cv6, v, _, rfl, rfl, hc6, ixN8 hv lc6, ?_⟩
          refine ⟨M', W.set i (((W.st i).add kk.toNat mk).setv v.toNat (some (i, (W.st i).oc))), _, by rw [mw]; rfl, en, I7.cc fun q => ?_⟩
          by_cases e : q = i
          · subst e
            rw [if_pos rfl, WSt.set_same]
            rfl
          · rw [if_neg e, WSt.set_ne e]
        refine ⟨_, rfl, _, _, rfl, rfl, _, rfl, ?_⟩
        refine ite2 (fun _ => ?_) (fun _ => ?_)
        · refine ⟨_, rfl, _, dw, _, rfl, hW, no_world (by decide +kernel), _, rfl, _, rfl, _, rfl, M, W, i, v, t, rfl, I.R, n8, fun z => absurd hi z, fun _ => ⟨l8, fun z => absurd ⟨hv, ht⟩ z, fun _ r H5 hr5 R5 C5 => ?_⟩⟩
          have I6 := I.step hi (fun q hq => by rw [← hq]; exact List.mem_of_getElem? hr5) R5 C5
          obtain ⟨cv6, hc6, tc6⟩ := I6.row (i := i) hi
          have lc6 : cv6.length = 8 := by rw [tds_len tc6, List.length_map]; exact l8
          obtain ⟨a, ha, ta⟩ := tds_get tc6 (k := v.toNat) (d := dOr r) (by rw [List.getElem?_map, hr5]; rfl)
          have I7 := I6.setc (i := i) hi tc6 t.toNat ta
          refine ⟨_, rfl, _, rfl, _, _, i, _, rfl, rfl, SqL.of I6.cs, at_site hi, _, rfl, _, cv6, v, a, rfl, rfl, SqL.of hc6, atI8 hv lc6 ha, ?_⟩
          refine ⟨_, rfl, _, rfl, _, _, i, _, rfl, rfl, SqL.of I6.cs, at_site hi, _, rfl, _, cv6, t, _, rfl, rfl, hc6, ixN8 ht lc6, ?_⟩
          refine ⟨M, W.set i ((W.st i).setv t.toNat r), mm, rfl, en, (I7.cc fun q => ?_).up (Nat.le_succ j)⟩
          by_cases e : q = i
          · subst e
            rw [if_pos rfl, WSt.set_same]
            rfl
          · rw [if_neg e, WSt.set_ne e]
        refine ⟨_, rfl, rfl, _, rfl, ?_⟩
        refine ite2 (fun _ => ?_) (fun _ => ?_)
        · refine ⟨_, rfl, _, dw, _, rfl, hW, no_world (by decide +kernel), _, rfl, _, rfl, M, W, i, v, rfl, I.R, n8, fun z => absurd hi z, fun _ => ⟨l8, fun z => absurd hv z, fun _ H5 R5 C5 => ?_⟩⟩
          have I6 := I.step hi (fun q hq => by cases hq) R5 C5
          obtain ⟨cv6, hc6, tc6⟩ := I6.row (i := i) hi
          have lc6 : cv6.length = 8 := by rw [tds_len tc6, List.length_map]; exact l8
          have I7 := I6.setc (i := i) hi tc6 v.toNat (r := none) (a := .non) .non
          refine ⟨_, rfl, _, rfl, _, _, i, _, rfl, rfl, SqL.of I6.cs, at_site hi, _, rfl, _, cv6, v, _, rfl, rfl, hc6, ixN8 hv lc6, ?_⟩
          refine ⟨M, W.set i ((W.st i).setv v.toNat none), mm, rfl, en, (I7.cc fun q => ?_).up (Nat.le_succ j)⟩
          by_cases e : q = i
          · subst e
            rw [if_pos rfl, WSt.set_same]
            rfl
          · rw [if_neg e, WSt.set_ne e]
        · refine ⟨_, rfl, _, rfl, _, rfl, _, rfl, _, rfl, S, ss, N, M, W, mm, j, i, v, rfl, I, hi, hv, ?_⟩
          exact ⟨M, W, mm, rfl, en, I.up (by omega)⟩
      rintro σ H4 ⟨M', W', mm', rfl, en', I'⟩
      have hi' : i ∈ sitesL W'.n := by rw [en', ← en]; exact hi
      refine ⟨_, rfl, _, rfl, iteF ?_⟩
      refine ⟨_, rfl, _, rfl, _, rfl, S, ss, N, M', W', mm', _, i, rfl, I', hi', fun H5 s5 => ⟨_, rfl, iteF ?_⟩⟩
      have I5 := I'.same s5
      refine ⟨_, rfl, _, rfl, _, _, rfl, rfl, _, rfl, _, _, rfl, rfl, (by show (0 : Int) < (n : Int); omega), _, rfl, S, ss, N, M', W', mm', _, (i + 1) % (n : Int), rfl, I5, mem_sitesL.mpr ⟨Int.emod_nonneg _ (by omega), by rw [en']; exact Int.emod_lt_of_pos _ (by omega)⟩, fun H6 s6 => ⟨_, rfl, iteF ?_⟩⟩
      exact ⟨M', W', mm', _, _, _, _, _, _, _, rfl, en', I5.same s6⟩
    clear I R M
    rintro σ G ⟨M, W, mm, v3, v6, v7, v8, v9, v10, v11, rfl, en, I⟩
    subst en
    exact ⟨_, rfl, _, rfl, _, rfl, _, rfl, S, ss, N, M, W, mm, _, rfl, I, (by rw [List.length_map]; omega), k⟩

end
/-! ### the head -/
def d_check_index : Fh.Dx := ⟨fun K => (He.ga K "check_index"), "check_index", "check_index", defArgs s_check_index, defBody s_check_index, defScope s_check_index, [], []⟩
def d_Outgoing_init : Fh.Dx := ⟨fun K => (He.ma K (He.ga K "Outgoing") "__init__"), "__init__", "Outgoing.__init__", defArgs s_Outgoing_init, defBody s_Outgoing_init, defScope s_Outgoing_init, [], []⟩
def d_Incoming_init : Fh.Dx := ⟨fun K => (He.ma K (He.ga K "Incoming") "__init__"), "__init__", "Incoming.__init__", defArgs s_Incoming_init, defBody s_Incoming_init, defScope s_Incoming_init, [], []⟩
def d_Network_init : Fh.Dx := ⟨fun K => (He.ma K (He.ga K "Network") "__init__"), "__init__", "Network.__init__", defArgs s_Network_init, defBody s_Network_init, defScope s_Network_init, [], []⟩
def d_Ages_init : Fh.Dx := ⟨fun K => (He.ma K (He.ga K "Ages") "__init__"), "__init__", "Ages.__init__", defArgs s_Ages_init, defBody s_Ages_init, defScope s_Ages_init, [], []⟩
def d_Mail_init : Fh.Dx := ⟨fun K => (He.ma K (He.ga K "Mail") "__init__"), "__init__", "Mail.__init__", defArgs s_Mail_init, defBody s_Mail_init, defScope s_Mail_init, [], []⟩
def d_Numbered_init : Fh.Dx := ⟨fun K => (He.ma K (He.ga K "Numbered") "__init__"), "__init__", "Numbered.__init__", defArgs s_Numbered_init, defBody s_Numbered_init, defScope s_Numbered_init, [], []⟩
def d_Numbered_create : Fh.Dx := ⟨fun K => (He.ma K (He.ga K "Numbered") "create"), "create", "Numbered.create", defArgs s_Numbered_create, defBody s_Numbered_create, defScope s_Numbered_create, [], []⟩
def d_Item_init : Fh.Dx := ⟨fun K => (He.ma K (He.ga K "Item") "__init__"), "__init__", "Item.__init__", defArgs s_Item_init, defBody s_Item_init, defScope s_Item_init, [], []⟩
def d_Site_init : Fh.Dx := ⟨fun K => (He.ma K (He.ga K "Site") "__init__"), "__init__", "Site.__init__", defArgs s_Site_init, defBody s_Site_init, defScope s_Site_init, [], []⟩
def d_Site_make : Fh.Dx := ⟨fun K => (He.ma K (He.ga K "Site") "make"), "make", "Site.make", defArgs s_Site_make, defBody s_Site_make, defScope s_Site_make, [], []⟩
def d_Site_assign : Fh.Dx := ⟨fun K => (He.ma K (He.ga K "Site") "assign"), "assign", "Site.assign", defArgs s_Site_assign, defBody s_Site_assign, defScope s_Site_assign, [], []⟩
def d_Site_reset : Fh.Dx := ⟨fun K => (He.ma K (He.ga K "Site") "reset"), "reset", "Site.reset", defArgs s_Site_reset, defBody s_Site_reset, defScope s_Site_reset, [], []⟩
def d_Site_look : Fh.Dx := ⟨fun K => (He.ma K (He.ga K "Site") "look"), "look", "Site.look", defArgs s_Site_look, defBody s_Site_look, defScope s_Site_look, [], []⟩
def d_Site_check_variable : Fh.Dx := ⟨fun K => (He.ma K (He.ga K "Site") "_check_variable"), "_check_variable", "Site._check_variable", defArgs s_Site_check_variable, defBody s_Site_check_variable, defScope s_Site_check_variable, [], []⟩
def d_Site_reference : Fh.Dx := ⟨fun K => (He.ma K (He.ga K "Site") "_reference"), "_reference", "Site._reference", defArgs s_Site_reference, defBody s_Site_reference, defScope s_Site_reference, [], []⟩
def d_Site_near_item : Fh.Dx := ⟨fun K => (He.ma K (He.ga K "Site") "_near_item"), "_near_item", "Site._near_item", defArgs s_Site_near_item, defBody s_Site_near_item, defScope s_Site_near_item, [], []⟩
def d_World_init : Fh.Dx := ⟨fun K => (He.ma K (He.ga K "World") "__init__"), "__init__", "World.__init__", defArgs s_World_init, defBody s_World_init, defScope s_World_init, [], []⟩
def d_World_site : Fh.Dx := ⟨fun K => (He.ma K (He.ga K "World") "_site"), "_site", "World._site", defArgs s_World_site, defBody s_World_site, defScope s_World_site, [], []⟩
def d_World_make : Fh.Dx := ⟨fun K => (He.ma K (He.ga K "World") "make"), "make", "World.make", defArgs s_World_make, defBody s_World_make, defScope s_World_make, [], [("size", .int 0), ("mark", .int 0)]⟩
def d_World_assign : Fh.Dx := ⟨fun K => (He.ma K (He.ga K "World") "assign"), "assign", "World.assign", defArgs s_World_assign, defBody s_World_assign, defScope s_World_assign, [], []⟩
def d_World_reset : Fh.Dx := ⟨fun K => (He.ma K (He.ga K "World") "reset"), "reset", "World.reset", defArgs s_World_reset, defBody s_World_reset, defScope s_World_reset, [], []⟩
def d_World_look : Fh.Dx := ⟨fun K => (He.ma K (He.ga K "World") "look"), "look", "World.look", defArgs s_World_look, defBody s_World_look, defScope s_World_look, [], []⟩
def d_World_variables : Fh.Dx := ⟨fun K => (He.ma K (He.ga K "World") "variables"), "variables", "World.variables", defArgs s_World_variables, defBody s_World_variables, defScope s_World_variables, [], []⟩
def d_World_inbox : Fh.Dx := ⟨fun K => (He.ma K (He.ga K "World") "inbox"), "inbox", "World.inbox", defArgs s_World_inbox, defBody s_World_inbox, defScope s_World_inbox, [], []⟩
def d_World_objects : Fh.Dx := ⟨fun K => (He.ma K (He.ga K "World") "objects"), "objects", "World.objects", defArgs s_World_objects, defBody s_World_objects, defScope s_World_objects, [], []⟩
def d_World_fields : Fh.Dx := ⟨fun K => (He.ma K (He.ga K "World") "fields"), "fields", "World.fields", defArgs s_World_fields, defBody s_World_fields, defScope s_World_fields, [], []⟩
def d_law_is_integer : Fh.Dx := ⟨fun K => (He.ga K "_law_is_integer"), "_law_is_integer", "_law_is_integer", defArgs s_law_is_integer, defBody s_law_is_integer, defScope s_law_is_integer, [], []⟩
def d_law_number : Fh.Dx := ⟨fun K => (He.ga K "_law_number"), "_law_number", "_law_number", defArgs s_law_number, defBody s_law_number, defScope s_law_number, [], []⟩
def d_law_cell : Fh.Dx := ⟨fun K => (He.ga K "_law_cell"), "_law_cell", "_law_cell", defArgs s_law_cell, defBody s_law_cell, defScope s_law_cell, [], []⟩
def d_law_makes : Fh.Dx := ⟨fun K => (He.ga K "_law_makes"), "_law_makes", "_law_makes", defArgs s_law_makes, defBody s_law_makes, defScope s_law_makes, [], []⟩
def d_law_looks : Fh.Dx := ⟨fun K => (He.ga K "_law_looks"), "_law_looks", "_law_looks", defArgs s_law_looks, defBody s_law_looks, defScope s_law_looks, [], []⟩
def d_law_holds : Fh.Dx := ⟨fun K => (He.ga K "_law_holds"), "_law_holds", "_law_holds", defArgs s_law_holds, defBody s_law_holds, defScope s_law_holds, [], []⟩
def d_law_ends_well : Fh.Dx := ⟨fun K => (He.ga K "_law_ends_well"), "_law_ends_well", "_law_ends_well", defArgs s_law_ends_well, defBody s_law_ends_well, defScope s_law_ends_well, [], []⟩
def d_law : Fh.Dx := ⟨fun K => (He.ga K "law"), "law", "law", defArgs s_law, defBody s_law, defScope s_law, [], []⟩
def fn : List Fh.Dx := [d_check_index, d_Outgoing_init, d_Incoming_init, d_Network_init, d_Ages_init, d_Mail_init, d_Numbered_init, d_Numbered_create, d_Item_init, d_Site_init, d_Site_make, d_Site_assign, d_Site_reset, d_Site_look, d_Site_check_variable, d_Site_reference, d_Site_near_item, d_World_init, d_World_site, d_World_make, d_World_assign, d_World_reset, d_World_look, d_World_variables, d_World_inbox, d_World_objects, d_World_fields, d_law_is_integer, d_law_number, d_law_cell, d_law_makes, d_law_looks, d_law_holds, d_law_ends_well, d_law]
def ex : List (PySem.W.Frag → Bool) := [Fh.excCB "Empty", Fh.kitOB "Empty" "FarheapError" true, Fh.kitOB "Empty" "Unknown" false]
def fa : List He.Fa := [.glo "FarheapError", .glo "Unknown", .glo "Empty", .glo "NotNear", .glo "NotFar", .glo "Outgoing", .cls "Outgoing", .noat "Outgoing" "_letters", .noat "Outgoing" "_acknowledged", .glo "Incoming", .cls "Incoming", .noat "Incoming" "count", .glo "Network", .cls "Network", .noat "Network" "_packets", .glo "Ages", .cls "Ages", .noat "Ages" "clock", .noat "Ages" "bound", .noat "Ages" "settled", .noat "Ages" "low", .noat "Ages" "pending", .glo "Mail", .cls "Mail", .noat "Mail" "_number", .noat "Mail" "others", .noat "Mail" "_outgoing", .noat "Mail" "_incoming", .glo "Numbered", .cls "Numbered", .noat "Numbered" "things", .noat "Numbered" "_created", .glo "Item", .cls "Item", .noat "Item" "mark", .noat "Item" "fields", .glo "Site", .cls "Site", .noat "Site" "number", .noat "Site" "mail", .noat "Site" "ages", .noat "Site" "objects", .noat "Site" "variables", .noat "Site" "inbox", .noat "Site" "parcels", .noat "Site" "questions", .noat "Site" "arrivals", .noat "Site" "holdings", .noat "Site" "entries", .noat "Site" "_awaited", .noat "Site" "_noted", .noat "Site" "_waves", .glo "World", .cls "World", .noat "World" "_sites", .noat "World" "_network", .glo "check_index", .mkr "Outgoing", .mkr "Incoming", .mkr "Network", .mkr "Ages", .mkr "Mail", .mkr "Numbered", .meth "Numbered" "create", .mkr "Item", .mkr "Site", .meth "Site" "make", .meth "Site" "assign", .meth "Site" "reset", .meth "Site" "look", .meth "Site" "_check_variable", .meth "Site" "_reference", .meth "Site" "_near_item", .mkr "World", .meth "World" "_site", .meth "World" "make", .meth "World" "assign", .meth "World" "reset", .meth "World" "look", .meth "World" "variables", .meth "World" "inbox", .meth "World" "objects", .meth "World" "fields", .glo "_law_is_integer", .glo "_law_number", .glo "_law_cell", .glo "_law_makes", .glo "_law_looks", .glo "_law_holds", .glo "_law_ends_well", .glo "law", .free "list", .free "enumerate", .free "min", .free "len", .free "property", .free "iter", .free "max", .free "range", .free "all", .free "sorted", .free "isinstance", .free "int", .free "bool", .free "tuple", .exc "Unknown", .exc "Empty", .exc "NotNear", .exc "NotFar", .int "VARIABLES" 8, .exm "Empty" "Empty" true, .exm "Unknown" "Empty" false, .exm "NotNear" "Empty" false]
abbrev R : PySem.W.OpenRow := PySem.W.OpenLaw.row PySem.Challenge.rw_farheap_k08_make_assign_reset_look
abbrev hk : PySem.W.Hook := Fh.hookX 4 fa ex fn
def ob (s : PySem.W.SharedT) : He.AlD := Fh.obsXG 4 fa ex fn (HandSHeadRun.getT s)
theorem ob_eq (s : PySem.W.SharedT) : ob s = hk.obs s.abs := Fh.obsXG_eq (HandSHeadRun.getT_eq s)
theorem map3 {α A B C : Type} {o : Option α} {a : α → A} {b : α → B} {c : α → C} {x : A} {y : B} {z : C} (h1 : o.map a = some x) (h2 : o.map b = some y) (h3 : o.map c = some z) : o.map (fun s => (a s, b s, c s)) = some (x, y, z) := by
  cases o with
  | none => cases h1
  | some s => cases h1; cases h2; cases h3; rfl
theorem run_a (w : World) (os : OsState) : (HandSHeadRun.endF (HandSHeadRun.stepQ (HandSHeadRun.denQ HandSHeadRun.tabQ) R.prog w) 8000 R.prog w os).map (fun s => HandSHeadRun.looksF R.prog (PySem.W.boot_heap w.params) s.abs) = some true := by
  kernel_rfl
theorem run_b (w : World) (os : OsState) : (HandSHeadRun.endF (HandSHeadRun.stepQ (HandSHeadRun.denQ HandSHeadRun.tabQ) R.prog w) 8000 R.prog w os).map (fun s => HandSHeadRun.seenQ (PySem.W.view R.prog [33]) ["_wall", "FarheapError", "Unknown", "Empty", "NotNear", "NotFar", "check_index", "Outgoing", "Incoming", "Network", "Ages", "Mail", "Numbered", "Item", "VARIABLES", "Site", "World", "_law_is_integer", "_law_number", "_law_cell", "_law_makes", "_law_looks", "_law_holds", "_law_ends_well"] (importedModules R.prog.main.body) (fun s => PySem.W.xlAt (PySem.W.view R.prog [33]) [] s && PySem.W.recOk R.toRowW.records s) s.abs) = some (PySem.W.openGood (PySem.W.view R.prog [33]) ["_wall", "FarheapError", "Unknown", "Empty", "NotNear", "NotFar", "check_index", "Outgoing", "Incoming", "Network", "Ages", "Mail", "Numbered", "Item", "VARIABLES", "Site", "World", "_law_is_integer", "_law_number", "_law_cell", "_law_makes", "_law_looks", "_law_holds", "_law_ends_well"]) := by
  kernel_rfl
theorem run_c (w : World) (os : OsState) : (HandSHeadRun.endF (HandSHeadRun.stepQ (HandSHeadRun.denQ HandSHeadRun.tabQ) R.prog w) 8000 R.prog w os).map (fun s => ob s) = some (hk.val w) := by
  kernel_rfl
theorem run (w : World) : HandSHeadRun.RunEq R (PySem.W.view R.prog [33]) hk ob 8000 ["_wall", "FarheapError", "Unknown", "Empty", "NotNear", "NotFar", "check_index", "Outgoing", "Incoming", "Network", "Ages", "Mail", "Numbered", "Item", "VARIABLES", "Site", "World", "_law_is_integer", "_law_number", "_law_cell", "_law_makes", "_law_looks", "_law_holds", "_law_ends_well"] w := fun os => map3 (run_a w os) (run_b w os) (run_c w os)
theorem mkTxt {K : PySem.W.Frag} {h : Heap} {mg : Str → Option Value} (X : K.In h) (G : h.Ns mainGlobals mg) (c : Fh.SaysX fa ex fn K) : Nonempty (Txt K mg) := by
  obtain ⟨fd_check_index, F_check_index⟩ := c.def_ 0 (d := d_check_index) rfl
  obtain ⟨fd_Outgoing_init, F_Outgoing_init⟩ := c.def_ 1 (d := d_Outgoing_init) rfl
  obtain ⟨fd_Incoming_init, F_Incoming_init⟩ := c.def_ 2 (d := d_Incoming_init) rfl
  obtain ⟨fd_Network_init, F_Network_init⟩ := c.def_ 3 (d := d_Network_init) rfl
  obtain ⟨fd_Ages_init, F_Ages_init⟩ := c.def_ 4 (d := d_Ages_init) rfl
  obtain ⟨fd_Mail_init, F_Mail_init⟩ := c.def_ 5 (d := d_Mail_init) rfl
  obtain ⟨fd_Numbered_init, F_Numbered_init⟩ := c.def_ 6 (d := d_Numbered_init) rfl
  obtain ⟨fd_Numbered_create, F_Numbered_create⟩ := c.def_ 7 (d := d_Numbered_create) rfl
  obtain ⟨fd_Item_init, F_Item_init⟩ := c.def_ 8 (d := d_Item_init) rfl
  obtain ⟨fd_Site_init, F_Site_init⟩ := c.def_ 9 (d := d_Site_init) rfl
  obtain ⟨fd_Site_make, F_Site_make⟩ := c.def_ 10 (d := d_Site_make) rfl
  obtain ⟨fd_Site_assign, F_Site_assign⟩ := c.def_ 11 (d := d_Site_assign) rfl
  obtain ⟨fd_Site_reset, F_Site_reset⟩ := c.def_ 12 (d := d_Site_reset) rfl
  obtain ⟨fd_Site_look, F_Site_look⟩ := c.def_ 13 (d := d_Site_look) rfl
  obtain ⟨fd_Site_check_variable, F_Site_check_variable⟩ := c.def_ 14 (d := d_Site_check_variable) rfl
  obtain ⟨fd_Site_reference, F_Site_reference⟩ := c.def_ 15 (d := d_Site_reference) rfl
  obtain ⟨fd_Site_near_item, F_Site_near_item⟩ := c.def_ 16 (d := d_Site_near_item) rfl
  obtain ⟨fd_World_init, F_World_init⟩ := c.def_ 17 (d := d_World_init) rfl
  obtain ⟨fd_World_site, F_World_site⟩ := c.def_ 18 (d := d_World_site) rfl
  obtain ⟨fd_World_make, F_World_make⟩ := c.def_ 19 (d := d_World_make) rfl
  obtain ⟨fd_World_assign, F_World_assign⟩ := c.def_ 20 (d := d_World_assign) rfl
  obtain ⟨fd_World_reset, F_World_reset⟩ := c.def_ 21 (d := d_World_reset) rfl
  obtain ⟨fd_World_look, F_World_look⟩ := c.def_ 22 (d := d_World_look) rfl
  obtain ⟨fd_World_variables, F_World_variables⟩ := c.def_ 23 (d := d_World_variables) rfl
  obtain ⟨fd_World_inbox, F_World_inbox⟩ := c.def_ 24 (d := d_World_inbox) rfl
  obtain ⟨fd_World_objects, F_World_objects⟩ := c.def_ 25 (d := d_World_objects) rfl
  obtain ⟨fd_World_fields, F_World_fields⟩ := c.def_ 26 (d := d_World_fields) rfl
  obtain ⟨fd_law_is_integer, F_law_is_integer⟩ := c.def_ 27 (d := d_law_is_integer) rfl
  obtain ⟨fd_law_number, F_law_number⟩ := c.def_ 28 (d := d_law_number) rfl
  obtain ⟨fd_law_cell, F_law_cell⟩ := c.def_ 29 (d := d_law_cell) rfl
  obtain ⟨fd_law_makes, F_law_makes⟩ := c.def_ 30 (d := d_law_makes) rfl
  obtain ⟨fd_law_looks, F_law_looks⟩ := c.def_ 31 (d := d_law_looks) rfl
  obtain ⟨fd_law_holds, F_law_holds⟩ := c.def_ 32 (d := d_law_holds) rfl
  obtain ⟨fd_law_ends_well, F_law_ends_well⟩ := c.def_ 33 (d := d_law_ends_well) rfl
  obtain ⟨fd_law, F_law⟩ := c.def_ 34 (d := d_law) rfl
  exact ⟨⟨He.glo_ok X G (c.fact 0 (f := .glo "FarheapError") rfl), He.glo_ok X G (c.fact 1 (f := .glo "Unknown") rfl), He.glo_ok X G (c.fact 2 (f := .glo "Empty") rfl), He.glo_ok X G (c.fact 3 (f := .glo "NotNear") rfl), He.glo_ok X G (c.fact 4 (f := .glo "NotFar") rfl), He.glo_ok X G (c.fact 5 (f := .glo "Outgoing") rfl), He.cls_ok (c.fact 6 (f := .cls "Outgoing") rfl), He.noat_ok (c.fact 7 (f := .noat "Outgoing" "_letters") rfl), He.noat_ok (c.fact 8 (f := .noat "Outgoing" "_acknowledged") rfl), He.glo_ok X G (c.fact 9 (f := .glo "Incoming") rfl), He.cls_ok (c.fact 10 (f := .cls "Incoming") rfl), He.noat_ok (c.fact 11 (f := .noat "Incoming" "count") rfl), He.glo_ok X G (c.fact 12 (f := .glo "Network") rfl), He.cls_ok (c.fact 13 (f := .cls "Network") rfl), He.noat_ok (c.fact 14 (f := .noat "Network" "_packets") rfl), He.glo_ok X G (c.fact 15 (f := .glo "Ages") rfl), He.cls_ok (c.fact 16 (f := .cls "Ages") rfl), He.noat_ok (c.fact 17 (f := .noat "Ages" "clock") rfl), He.noat_ok (c.fact 18 (f := .noat "Ages" "bound") rfl), He.noat_ok (c.fact 19 (f := .noat "Ages" "settled") rfl), He.noat_ok (c.fact 20 (f := .noat "Ages" "low") rfl), He.noat_ok (c.fact 21 (f := .noat "Ages" "pending") rfl), He.glo_ok X G (c.fact 22 (f := .glo "Mail") rfl), He.cls_ok (c.fact 23 (f := .cls "Mail") rfl), He.noat_ok (c.fact 24 (f := .noat "Mail" "_number") rfl), He.noat_ok (c.fact 25 (f := .noat "Mail" "others") rfl), He.noat_ok (c.fact 26 (f := .noat "Mail" "_outgoing") rfl), He.noat_ok (c.fact 27 (f := .noat "Mail" "_incoming") rfl), He.glo_ok X G (c.fact 28 (f := .glo "Numbered") rfl), He.cls_ok (c.fact 29 (f := .cls "Numbered") rfl), He.noat_ok (c.fact 30 (f := .noat "Numbered" "things") rfl), He.noat_ok (c.fact 31 (f := .noat "Numbered" "_created") rfl), He.glo_ok X G (c.fact 32 (f := .glo "Item") rfl), He.cls_ok (c.fact 33 (f := .cls "Item") rfl), He.noat_ok (c.fact 34 (f := .noat "Item" "mark") rfl), He.noat_ok (c.fact 35 (f := .noat "Item" "fields") rfl), He.glo_ok X G (c.fact 36 (f := .glo "Site") rfl), He.cls_ok (c.fact 37 (f := .cls "Site") rfl), He.noat_ok (c.fact 38 (f := .noat "Site" "number") rfl), He.noat_ok (c.fact 39 (f := .noat "Site" "mail") rfl), He.noat_ok (c.fact 40 (f := .noat "Site" "ages") rfl), He.noat_ok (c.fact 41 (f := .noat "Site" "objects") rfl), He.noat_ok (c.fact 42 (f := .noat "Site" "variables") rfl), He.noat_ok (c.fact 43 (f := .noat "Site" "inbox") rfl), He.noat_ok (c.fact 44 (f := .noat "Site" "parcels") rfl), He.noat_ok (c.fact 45 (f := .noat "Site" "questions") rfl), He.noat_ok (c.fact 46 (f := .noat "Site" "arrivals") rfl), He.noat_ok (c.fact 47 (f := .noat "Site" "holdings") rfl), He.noat_ok (c.fact 48 (f := .noat "Site" "entries") rfl), He.noat_ok (c.fact 49 (f := .noat "Site" "_awaited") rfl), He.noat_ok (c.fact 50 (f := .noat "Site" "_noted") rfl), He.noat_ok (c.fact 51 (f := .noat "Site" "_waves") rfl), He.glo_ok X G (c.fact 52 (f := .glo "World") rfl), He.cls_ok (c.fact 53 (f := .cls "World") rfl), He.noat_ok (c.fact 54 (f := .noat "World" "_sites") rfl), He.noat_ok (c.fact 55 (f := .noat "World" "_network") rfl), He.glo_ok X G (c.fact 56 (f := .glo "check_index") rfl), He.mkr_ok (c.fact 57 (f := .mkr "Outgoing") rfl), He.mkr_ok (c.fact 58 (f := .mkr "Incoming") rfl), He.mkr_ok (c.fact 59 (f := .mkr "Network") rfl), He.mkr_ok (c.fact 60 (f := .mkr "Ages") rfl), He.mkr_ok (c.fact 61 (f := .mkr "Mail") rfl), He.mkr_ok (c.fact 62 (f := .mkr "Numbered") rfl), He.meth_ok (c.fact 63 (f := .meth "Numbered" "create") rfl), He.mkr_ok (c.fact 64 (f := .mkr "Item") rfl), He.mkr_ok (c.fact 65 (f := .mkr "Site") rfl), He.meth_ok (c.fact 66 (f := .meth "Site" "make") rfl), He.meth_ok (c.fact 67 (f := .meth "Site" "assign") rfl), He.meth_ok (c.fact 68 (f := .meth "Site" "reset") rfl), He.meth_ok (c.fact 69 (f := .meth "Site" "look") rfl), He.meth_ok (c.fact 70 (f := .meth "Site" "_check_variable") rfl), He.meth_ok (c.fact 71 (f := .meth "Site" "_reference") rfl), He.meth_ok (c.fact 72 (f := .meth "Site" "_near_item") rfl), He.mkr_ok (c.fact 73 (f := .mkr "World") rfl), He.meth_ok (c.fact 74 (f := .meth "World" "_site") rfl), He.meth_ok (c.fact 75 (f := .meth "World" "make") rfl), He.meth_ok (c.fact 76 (f := .meth "World" "assign") rfl), He.meth_ok (c.fact 77 (f := .meth "World" "reset") rfl), He.meth_ok (c.fact 78 (f := .meth "World" "look") rfl), He.meth_ok (c.fact 79 (f := .meth "World" "variables") rfl), He.meth_ok (c.fact 80 (f := .meth "World" "inbox") rfl), He.meth_ok (c.fact 81 (f := .meth "World" "objects") rfl), He.meth_ok (c.fact 82 (f := .meth "World" "fields") rfl), He.glo_ok X G (c.fact 83 (f := .glo "_law_is_integer") rfl), He.glo_ok X G (c.fact 84 (f := .glo "_law_number") rfl), He.glo_ok X G (c.fact 85 (f := .glo "_law_cell") rfl), He.glo_ok X G (c.fact 86 (f := .glo "_law_makes") rfl), He.glo_ok X G (c.fact 87 (f := .glo "_law_looks") rfl), He.glo_ok X G (c.fact 88 (f := .glo "_law_holds") rfl), He.glo_ok X G (c.fact 89 (f := .glo "_law_ends_well") rfl), He.glo_ok X G (c.fact 90 (f := .glo "law") rfl), He.free_ok X G (c.fact 91 (f := .free "list") rfl), He.free_ok X G (c.fact 92 (f := .free "enumerate") rfl), He.free_ok X G (c.fact 93 (f := .free "min") rfl), He.free_ok X G (c.fact 94 (f := .free "len") rfl), He.free_ok X G (c.fact 95 (f := .free "property") rfl), He.free_ok X G (c.fact 96 (f := .free "iter") rfl), He.free_ok X G (c.fact 97 (f := .free "max") rfl), He.free_ok X G (c.fact 98 (f := .free "range") rfl), He.free_ok X G (c.fact 99 (f := .free "all") rfl), He.free_ok X G (c.fact 100 (f := .free "sorted") rfl), He.free_ok X G (c.fact 101 (f := .free "isinstance") rfl), He.free_ok X G (c.fact 102 (f := .free "int") rfl), He.free_ok X G (c.fact 103 (f := .free "bool") rfl), He.free_ok X G (c.fact 104 (f := .free "tuple") rfl), He.exc_ok (c.fact 105 (f := .exc "Unknown") rfl), He.exc_ok (c.fact 106 (f := .exc "Empty") rfl), He.exc_ok (c.fact 107 (f := .exc "NotNear") rfl), He.exc_ok (c.fact 108 (f := .exc "NotFar") rfl), He.int_ok X G (c.fact 109 (f := .int "VARIABLES" 8) rfl), He.exm_ok (c.fact 110 (f := .exm "Empty" "Empty" true) rfl), He.exm_ok (c.fact 111 (f := .exm "Unknown" "Empty" false) rfl), He.exm_ok (c.fact 112 (f := .exm "NotNear" "Empty" false) rfl), Fh.excC_ok (c.ext 0 (f := Fh.excCB "Empty") rfl), Fh.kitO_ok (c.ext 1 (f := Fh.kitOB "Empty" "FarheapError" true) rfl), Fh.kitO_ok (c.ext 2 (f := Fh.kitOB "Empty" "Unknown" false) rfl), fd_check_index, F_check_index, fd_Outgoing_init, F_Outgoing_init, fd_Incoming_init, F_Incoming_init, fd_Network_init, F_Network_init, fd_Ages_init, F_Ages_init, fd_Mail_init, F_Mail_init, fd_Numbered_init, F_Numbered_init, fd_Numbered_create, F_Numbered_create, fd_Item_init, F_Item_init, fd_Site_init, F_Site_init, fd_Site_make, F_Site_make, fd_Site_assign, F_Site_assign, fd_Site_reset, F_Site_reset, fd_Site_look, F_Site_look, fd_Site_check_variable, F_Site_check_variable, fd_Site_reference, F_Site_reference, fd_Site_near_item, F_Site_near_item, fd_World_init, F_World_init, fd_World_site, F_World_site, fd_World_make, F_World_make, fd_World_assign, F_World_assign, fd_World_reset, F_World_reset, fd_World_look, F_World_look, fd_World_variables, F_World_variables, fd_World_inbox, F_World_inbox, fd_World_objects, F_World_objects, fd_World_fields, F_World_fields, fd_law_is_integer, F_law_is_integer, fd_law_number, F_law_number, fd_law_cell, F_law_cell, fd_law_makes, F_law_makes, fd_law_looks, F_law_looks, fd_law_holds, F_law_holds, fd_law_ends_well, F_law_ends_well, fd_law, F_law⟩⟩
theorem facts {P : Program} {w : World} {K : PySem.W.Frag} {h : Heap} {mg : Str → Option Value} {f : Addr} (X : K.In h) (G : h.Ns mainGlobals mg) (hfa : mg ("law" : Str) = some (.ref f)) (c : Fh.SaysX fa ex fn K) :
    ∃ fd : FuncData, (∀ (s : Shared) (v : Value), BindsTo s fd ⟨[v], []⟩ [("script", v)]) ∧ ∀ base : Heap, K.In base → base.Ns mainGlobals mg → FnOk P w K mg base CX0 9 f fd ["script"] (spLaw K) := by
  obtain ⟨T⟩ := mkTxt X G c
  have e := hfa.symm.trans T.g_law
  cases e
  have b := FunD.bindsA (ps := ["script"]) T.F_law fun _ _ _ _ _ _ us hl => match us, hl with | [_], _ => rfl
  exact ⟨T.fd_law, fun s v => b s [v] rfl, fun base _ _ => ok_law T⟩
end K08
open PySem PySem.W PySem.Calls PyProof.Rows
set_option maxRecDepth 100000 in
set_option maxHeartbeats 0 in
theorem PySem.Challenge.cw_farheap_k08_make_assign_reset_look_holds : PySem.Challenge.rw_farheap_k08_make_assign_reset_look.Holds := by
  w_on; o_law
  refine HandSHeadRun.head_any (r := OpenLaw.row PySem.Challenge.rw_farheap_k08_make_assign_reset_look) (q := view (OpenLaw.row PySem.Challenge.rw_farheap_k08_make_assign_reset_look).prog [33]) (H := K08.hk) (ob := K08.ob) (M := 8000) (loose := ["_wall", "FarheapError", "Unknown", "Empty", "NotNear", "NotFar", "check_index", "Outgoing", "Incoming", "Network", "Ages", "Mail", "Numbered", "Item", "VARIABLES", "Site", "World", "_law_is_integer", "_law_number", "_law_cell", "_law_makes", "_law_looks", "_law_holds", "_law_ends_well"]) (d := HandSHeadRun.topDef (OpenLaw.row PySem.Challenge.rw_farheap_k08_make_assign_reset_look).prog 33) (kwd := []) K08.ob_eq
    (by kernel_rfl) (fun s => by kernel_rfl) K08.run (by kernel_rfl) (by kernel_rfl) (by kernel_rfl) (by rfl) (by first | assumption | decide +kernel) (by decide +kernel) ⟨rfl, rfl, rfl, rfl, rfl, by decide +kernel⟩ ?hw ?hc
  case hw => w_witness2
  case hc =>
    refine L2.walk_ofE (l := PySem.Challenge.rw_farheap_k08_make_assign_reset_look) (n := 63) (k := 9) (x := "script") (CX := L2.CX0) rfl (by decide) (by kernel_rfl) ⟨rfl, by decide, by decide⟩ ?F (fun _ _ _ _ z => z)
    intro w mg fa h Y G hmg0
    obtain ⟨K, KX, c⟩ := Y
    have hmg : mg ("law" : PySem.Str) = some (.ref fa) := by
      have e : (HandSHeadRun.topDef (OpenLaw.row PySem.Challenge.rw_farheap_k08_make_assign_reset_look).prog 33).name = ("law" : PySem.Str) := by kernel_rfl
      rw [← e]
      exact hmg0
    obtain ⟨fd, hb, hF⟩ := K08.facts (P := (PySem.Challenge.rw_farheap_k08_make_assign_reset_look).prog) (w := w) KX G hmg c
    exact ⟨K, fd, K08.spLaw K, KX, hb, fun H a ns hl _ hS => ⟨a, ns, rfl, hS, hl, fun _ => rfl⟩, hF⟩
#print axioms PySem.Challenge.cw_farheap_k08_make_assign_reset_look_holds
