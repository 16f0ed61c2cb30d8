import PyProof.Rows.All
import Wide.All
import OpenK.AllK
import Wide.FinOn
import KE.KStateDown
import HandS.Base
import HandS.Call
import HandS.Exc
import HandS.Property
import HandS.Defaults
import HandS.Head0
import HandS.Head1
import HandS.Head2
import HandS.HeadEnd
import HandS.HeadHook1
import HandS.HeadHook2
import HandS.ForMost
import HandS.Lambda
import KE.KNestM
import HandS.HeadHook4
import HandS.HeadWalk
import KE.SortKeyHeap
import HandS.SortKw
import HandS.Conv
import KE.KDictList
import KE.KDictWalk
import KE.KDictCopyH
import HandS.TupLen
import HandS.SortRule
import HandS.More
import HandS.SortInts
import KE.KDictSum
import HandS.SetKeys
import HandS.DictTup
import PyProof.DictMoreH
import HandS.Sort
import HandS.SortOrd
import HandS.DictComp
import HandS.IsInst
import HandS.Codes
import HandS.List
import HandS.Words
import HandS.Style
import HandS.NoneIn
import PySem.Challenge.RW_farheap_k07_whole_greatest_is_least
set_option Elab.async false
set_option linter.all false
set_option maxRecDepth 100000
set_option maxHeartbeats 4000000
/-! The head's facts, with facts of one's own (a Bool of the written part) and defs found by a way of one's own (a property's getter). -/
namespace Fh
open PySem PySem.Spec PyProof.Rows L2 He
/-- one def: where it stands, its text, its defaults -/
structure Dx where
  ad : PySem.W.Frag → Addr
  name : Str
  qual : Str
  params : Arguments
  body : List Stmt
  scope : Scope
  dfl : List Dv := []
  kwd : List (Str × Dv) := []
def fnX (K : PySem.W.Frag) (a : Addr) : FnW := match K.lookup a with
  | some ⟨_, _, .func fd, _⟩ => some (fd.name, fd.qualname, fd.params, fd.body, fd.scope, fd.globals, fd.closure, fd.builtins)
  | _ => none
def Dx.val (d : Dx) : FnW := some (d.name, d.qual, d.params, .stmts d.body, d.scope, mainGlobals, [], builtinsNs)
def Dx.dvs (K : PySem.W.Frag) (d : Dx) : List V := d.dfl.map (Dv.v K)
def Dx.kws (K : PySem.W.Frag) (d : Dx) : List (Str × V) := d.kwd.map fun q => (q.1, q.2.v K)
def Dx.ok (K : PySem.W.Frag) (d : Dx) : Bool := PySem.W.keepIn K (.ref (d.ad K)) && (match K.lookup (d.ad K) with
  | some ⟨_, _, .func fd, _⟩ => PySem.W.codeIn K fd.code d.qual && (dflB K fd.defaults (d.dvs K) && kwdB K fd.kwdefaults (d.kws K))
  | _ => false)
theorem Dx.funD {K : PySem.W.Frag} {d : Dx} (e : fnX K (d.ad K) = d.val) (c : d.ok K = true) : ∃ fd, FunD K d.name d.qual d.params d.body d.scope (d.dvs K) (d.kws K) (d.ad K) fd := by
  obtain ⟨kp, c2⟩ := ba c
  unfold fnX at e
  cases q : K.lookup (d.ad K) with
  | none =>
    rw [q] at c2
    cases c2
  | some o =>
    obtain ⟨oc, od, dt, osl⟩ := o
    rw [q] at c2 e
    cases dt with
    | func fd =>
      obtain ⟨n1, n2, n3, n4, n5, n6, n7, n8, n9, n10, n11, n12, n13, n14, n15⟩ := fd
      have e2 : (some (n1, n2, n3, n4, n5, n6, n7, n15) : FnW) = some (d.name, d.qual, d.params, .stmts d.body, d.scope, mainGlobals, [], builtinsNs) := e
      simp only [Option.some.injEq, Prod.mk.injEq] at e2
      obtain ⟨h1, h2, h3, h4, h5, h6, h7, h8⟩ := e2
      subst h1 h2 h3 h4 h5 h6 h7 h8
      have c3 : (PySem.W.codeIn K n13 d.qual && (dflB K n8 (d.dvs K) && kwdB K n9 (d.kws K))) = true := c2
      obtain ⟨k1, k2⟩ := ba c3
      obtain ⟨k3, k4⟩ := ba k2
      exact ⟨_, ⟨oc, od, n8, n9, n10, n11, n12, n13, n14, osl, rfl, q, k1, dflB_ok k3, kwdB_ok k4⟩, kp⟩
    | _ => cases c2
def obsX (fa : List Fa) (ex : List (PySem.W.Frag → Bool)) (fn : List Dx) (K : PySem.W.Frag) : AlD := ((fa.all fun f => f.ok K) && ((ex.all fun f => f K) && fn.all fun d => d.ok K), fn.map fun d => fnX K (d.ad K))
def valX (fn : List Dx) : AlD := (true, fn.map Dx.val)
def SaysX (fa : List Fa) (ex : List (PySem.W.Frag → Bool)) (fn : List Dx) (K : PySem.W.Frag) : Prop := obsX fa ex fn K = valX fn
def obsXG (n : Nat) (fa : List Fa) (ex : List (PySem.W.Frag → Bool)) (fn : List Dx) (g : Addr → Option Obj) : AlD := obsX fa ex fn (frG g (asD g n))
def hookX (n : Nat) (fa : List Fa) (ex : List (PySem.W.Frag → Bool)) (fn : List Dx) : PySem.W.Hook where
  α := AlD
  obs := fun s => obsXG n fa ex fn s.heap.get?
  val := fun _ => valX fn
  says := fun _ h => ∃ K : PySem.W.Frag, K.In h ∧ SaysX fa ex fn K
  of := fun _ _ e => ⟨_, frG_in, e⟩
  keeps := fun _ _ _ ⟨K, hK, c⟩ k => ⟨K, PySem.W.Frag.In.keeps hK k, c⟩
theorem obsXG_eq {n : Nat} {fa : List Fa} {ex : List (PySem.W.Frag → Bool)} {fn : List Dx} {g : Addr → Option Obj} {s : Shared} (h : ∀ a, g a = s.heap.get? a) : obsXG n fa ex fn g = (hookX n fa ex fn).obs s := by
  have e : g = s.heap.get? := funext h
  rw [e] <;> rfl
section
variable {fa : List Fa} {ex : List (PySem.W.Frag → Bool)} {fn : List Dx} {K : PySem.W.Frag}
theorem SaysX.all (c : SaysX fa ex fn K) : ((fa.all fun f => f.ok K) && ((ex.all fun f => f K) && fn.all fun d => d.ok K)) = true := congrArg (fun z : AlD => z.1) c
theorem SaysX.fact (c : SaysX fa ex fn K) (i : Nat) {f : Fa} (h : fa[i]? = some f := by rfl) : f.ok K = true := List.all_eq_true.mp (ba c.all).1 f (List.mem_of_getElem? h)
theorem SaysX.ext (c : SaysX fa ex fn K) (i : Nat) {f : PySem.W.Frag → Bool} (h : ex[i]? = some f := by rfl) : f K = true := List.all_eq_true.mp (ba (ba c.all).2).1 f (List.mem_of_getElem? h)
theorem SaysX.def_ (c : SaysX fa ex fn K) (i : Nat) {d : Dx} (h : fn[i]? = some d := by rfl) : ∃ fd, FunD K d.name d.qual d.params d.body d.scope (d.dvs K) (d.kws K) (d.ad K) fd := by
  have e : fn.map (fun d => fnX K (d.ad K)) = fn.map Dx.val := congrArg (fun z : AlD => z.2) c
  have e2 : (fn.map fun d => fnX K (d.ad K))[i]? = (fn.map Dx.val)[i]? := by rw [e]
  rw [List.getElem?_map, List.getElem?_map, h] at e2
  exact Dx.funD (Option.some.inj e2) (List.all_eq_true.mp (ba (ba c.all).2).2 d (List.mem_of_getElem? h))
end
/-! ### a property of an own class -/
/-- its getter -/
def pgA (K : PySem.W.Frag) (C : Addr) (f : Str) : Addr := match PySem.W.recIn K (ma K C f) "property" with
  | some (.ref g :: _) => g
  | _ => 0
def propB (C f : Str) (K : PySem.W.Frag) : Bool := eqO (PySem.W.findIn K (.ref (ga K C)) f) (some (some (.ref (ma K (ga K C) f)))) &&
  (eqO (PySem.W.specialIn K (.ref (ma K (ga K C) f)) "__get__") (some (some (.builtin "property.__get__"))) && (decide (PySem.W.takesIn K (.ref (ma K (ga K C) f)) = some true) && (match PySem.W.recIn K (ma K (ga K C) f) "property" with
  | some (.ref _ :: _) => true
  | _ => false)))
theorem prop_ok {K : PySem.W.Frag} {C f : Str} (h : propB C f K = true) : PropOf K (ga K C) f (ma K (ga K C) f) (pgA K (ga K C) f) := by
  obtain ⟨h1, h⟩ := ba h
  obtain ⟨h2, h⟩ := ba h
  obtain ⟨h3, h4⟩ := ba h
  refine ⟨eqO_ok h1, eqO_ok h2, of_decide_eq_true h3, ?_⟩
  unfold pgA
  cases q : PySem.W.recIn K (ma K (ga K C) f) "property" with
  | none =>
    rw [q] at h4
    cases h4
  | some l =>
    rw [q] at h4
    cases l with
    | nil => cases h4
    | cons v r =>
      cases v with
      | ref g => exact ⟨r, rfl⟩
      | _ => cases h4
end Fh

/-! What stays: all but the tables of code objects, which stay tables. -/
namespace Sx
open PySem PySem.Spec PyProof.Rows L2 LamX
def NT : HO → Bool
  | .tbl _ => false
  | _ => true
def NC : HO → Bool
  | .tbl _ => false
  | .ext _ => false
  | _ => true
/-- all but tables stays; tables stay tables; the table T.1 tells code objects of the name T.2 -/
structure Sm (T : Addr × Str) (H H' : Hp) : Prop where
  at_ : ∀ b o, H b = some o → NT o = true → H' b = some o
  isT : ∀ P ps, H P = some (.tbl ps) → ∃ ps', H' P = some (.tbl ps')
  tb : TabS H T.1 T.2 → TabS H' T.1 T.2
section
variable {T : Addr × Str} {H H' H1 H2 : Hp} {p : Addr} {o u : HO}
theorem Sm.get (s : Sm T H H') (b : Addr) (o : HO) (h : H b = some o) (nt : NT o = true := by rfl) : H' b = some o := s.at_ b o h nt
instance : CoeFun (Sm T H H') fun _ => ∀ b o, H b = some o → (nt : NT o = true := by rfl) → H' b = some o := ⟨fun s => @Sm.get _ _ _ s⟩
theorem Sm.ext (s : ∀ b o, H b = some o → H' b = some o) : Sm T H H' := ⟨fun b o h _ => s b o h, fun P ps h => ⟨ps, s _ _ h⟩, fun t => t.ext s⟩
theorem Sm.of (s : Same H H') : Sm T H H' := .ext fun b o h => s b o h
theorem Sm.refl (H : Hp) : Sm T H H := .ext fun _ _ h => h
theorem Sm.trans (a : Sm T H H1) (b : Sm T H1 H2) : Sm T H H2 := ⟨fun c o h n => b.at_ c o (a.at_ c o h n) n, fun P ps h => by
  obtain ⟨ps', h1⟩ := a.isT P ps h
  exact b.isT P ps' h1, fun t => b.tb (a.tb t)⟩
theorem Sm.free (s : Sm T H H') (h : H' p = none) : H p = none := by
  cases e : H p with
  | none => rfl
  | some o =>
    cases n : NT o with
    | true =>
      have := s.at_ p o e n
      rw [h] at this
      cases this
    | false =>
      cases o with
      | tbl ps =>
        obtain ⟨ps', h1⟩ := s.isT p ps e
        rw [h] at h1
        cases h1
      | _ => cases n
theorem Sm.new (h : H p = none) : Sm T H (upd H p o) := .ext fun b u e => by rw [upd_ne (ne_of_none e h)]; exact e
theorem Sm.put (s : Sm T H H') (h : H p = none) (hu : H' p = some u) (nc : NC u = true := by rfl) : Sm T H (upd H' p o) := by
  have nP : ∀ P ps, H' P = some (.tbl ps) → P ≠ p := fun P ps e z => by
    subst z
    rw [hu] at e
    cases e
    cases nc
  refine ⟨fun b v e n => ?_, fun P ps e => ?_, fun t => ?_⟩
  · rw [upd_ne (ne_of_none e h)]
    exact s.at_ b v e n
  · obtain ⟨ps', h1⟩ := s.isT P ps e
    exact ⟨ps', by rw [upd_ne (nP _ _ h1)]; exact h1⟩
  · obtain ⟨ps2, a1, a2, a3⟩ := s.tb t
    refine ⟨ps2, by rw [upd_ne (nP _ _ a1)]; exact a1, a2, fun pos cv hc => ?_⟩
    obtain ⟨c, e1, e2⟩ := a3 pos cv hc
    refine ⟨c, e1, ?_⟩
    rw [upd_ne]
    · exact e2
    · rintro rfl
      rw [hu] at e2
      cases e2
      cases nc
theorem Sm.tups (s : Sm T H H') : ∀ b xs, H b = some (.tup xs) → H' b = some (.tup xs) := fun b xs h => s.at_ b _ h rfl
end
end Sx
namespace Sx
open PySem PySem.Spec PyProof.Rows L2 LamX
theorem Sm.tr {T : Addr × Str} {H H1 H2 : Hp} (a : Sm T H H1) (b : Same H1 H2) : Sm T H H2 := a.trans (.of b)
end Sx
namespace Sx
open PySem PySem.Spec PyProof.Rows L2 LamX
theorem Sm.seq {T : Addr × Str} {K : PySem.W.Frag} {H H' : Hp} {a : Addr} {xs : List V} (s : Sm T H H') (h : SqL K H a xs) : SqL K H' a xs := by
  rcases h with h | h
  · rcases h with h | ⟨o, h⟩
    · exact .inl (.inl (s _ _ h))
    · exact .inl (.inr ⟨o, s _ _ h⟩)
  · exact .inr h
end Sx

/-! The head's facts, with the tables of defs in which a lambda is made. -/
namespace Fh
open PySem PySem.Spec PyProof.Rows L2 He LamX
/-- what is told of the written part K and of the defs tf whose tables are empty yet -/
structure SaysY (fa : List Fa) (ex : List (PySem.W.Frag → Bool)) (fn : List Dx) (tf : List Defn) (h : Heap) (K : PySem.W.Frag) : Prop where
  x : SaysX fa ex fn K
  hd : ∀ p ∈ tf, PySem.W.codeHdIn K (cT K p).1 (cT K p).2 = true
  out : ∀ p ∈ tf, K.lookup (cT K p).2 = none
  nil : ∀ p ∈ tf, h.get? (cT K p).2 = some { cls := .none, data := .fields #[] }
def obsY (fa : List Fa) (ex : List (PySem.W.Frag → Bool)) (fn : List Dx) (tf : List Defn) (n : Nat) (g : Addr → Option Obj) : AlD × Bool := (obsX fa ex fn (frT g (asD g n)), tabsB g tf (frT g (asD g n)))
def valY (fn : List Dx) : AlD × Bool := (valX fn, true)
theorem saysY_of {n : Nat} {fa : List Fa} {ex : List (PySem.W.Frag → Bool)} {fn : List Dx} {tf : List Defn} {h : Heap} (e : obsY fa ex fn tf n h.get? = valY fn) : SaysY fa ex fn tf h (frT h.get? (asD h.get? n)) := by
  have e1 : obsX fa ex fn (frT h.get? (asD h.get? n)) = valX fn := congrArg (fun z : AlD × Bool => z.1) e
  have e2 : tabsB h.get? tf (frT h.get? (asD h.get? n)) = true := congrArg (fun z : AlD × Bool => z.2) e
  have each : ∀ p ∈ tf, PySem.W.codeHdIn (frT h.get? (asD h.get? n)) (cT (frT h.get? (asD h.get? n)) p).1 (cT (frT h.get? (asD h.get? n)) p).2 = true ∧ ∃ o, h.get? (cT (frT h.get? (asD h.get? n)) p).2 = some o ∧ emptyTab o = true := fun p hp => by
    obtain ⟨a1, a2⟩ := ba (List.all_eq_true.mp e2 p hp)
    cases q : h.get? (cT (frT h.get? (asD h.get? n)) p).2 with
    | none =>
      rw [q] at a2
      cases a2
    | some o =>
      rw [q] at a2
      exact ⟨a1, o, rfl, a2⟩
  refine ⟨e1, fun p hp => (each p hp).1, fun p hp => ?_, fun p hp => ?_⟩
  · obtain ⟨_, o, q, z⟩ := each p hp
    exact frT_none q z
  · obtain ⟨_, o, q, z⟩ := each p hp
    rw [q, emptyTab_eq z]
def hookY (n : Nat) (fa : List Fa) (ex : List (PySem.W.Frag → Bool)) (fn : List Dx) (tf : List Defn) : PySem.W.Hook where
  α := AlD × Bool
  obs := fun s => obsY fa ex fn tf n s.heap.get?
  val := fun _ => valY fn
  says := fun _ h => ∃ K : PySem.W.Frag, K.In h ∧ SaysY fa ex fn tf h K
  of := fun _ _ e => ⟨_, frT_in, saysY_of e⟩
  keeps := fun _ _ _ ⟨K, hK, c⟩ k => ⟨K, PySem.W.Frag.In.keeps hK k, ⟨c.x, c.hd, c.out, fun p hp => k _ _ (c.nil p hp)⟩⟩
theorem obsY_eq {n : Nat} {fa : List Fa} {ex : List (PySem.W.Frag → Bool)} {fn : List Dx} {tf : List Defn} {g : Addr → Option Obj} {s : Shared} (h : ∀ a, g a = s.heap.get? a) : obsY fa ex fn tf n g = (hookY n fa ex fn tf).obs s := by
  have e : g = s.heap.get? := funext h
  rw [e] <;> rfl
/-- THE RULE for a def, its frame's code object told -/
theorem okC {P : Program} {w : World} {K : PySem.W.Frag} {mg : Str → Option Value} {base : Heap} {x qual : Str} {params : Arguments} {body : List Stmt} {scope : Scope} {dvs : List V} {kws : List (Str × V)} {f : Addr} {fd : FuncData} {CX : CXT} {N ps : List Str} {k : Nat} {sp : Sp} (p : Defn) (hp : fAd K p = f)
    (F : FunD K x qual params body scope dvs kws f fd) (S : FnScope N ps scope) (len : ∀ vs H Q E, sp vs H Q E → vs.length = ps.length)
    (hbody : ∀ (cdv : Value) (A : Around) (outer : List Env) (s : Shared) (H : Hp) (vs : List V) (Q : VK) (E : XK), cdv = .ref (cT K p).1 → Room k (A.deeper (envOfC qual scope s.heap.objs.size f cdv)) → sp vs H Q E →
      ∃ t, PSs (cxOf CX P w K mg base N qual scope f cdv A outer s H E) body t ∧ t { nx := fun _ H' => Q .non H', rt := Q } (start N vs) H) : FnOk P w K mg base CX (k + 1) f fd ps sp := by
  obtain ⟨oc, od, dV, kV, doc, pm, an, cdv, ct, osl, rfl, lk, hcd, _, _⟩ := F.ex
  obtain ⟨c, hc⟩ := codeIn_ref hcd
  subst hp
  have e : (cT K p).1 = c := codeOf_eq lk hc
  exact fn_of lk hcd S len fun A outer s H vs Q E hr hsp => hbody cdv A outer s H vs Q E (by rw [e]; exact hc) hr hsp
end Fh

/-! sorted(xs, key=lambda y: y[1], reverse=True) -/
namespace Sx
open PySem PySem.Spec PyProof.Rows L2 LamX
section
variable {X : Cx} {pins : List (Addr × Obj)} {σ : L2.St} {H : Hp} {s : Shared}
/-- the heap behind the making of a lambda, told whole -/
theorem lamRun {c P : Addr} {ar : Arguments} {bd : Expr} {sc : Scope} {lp : Pos} {E Q : Value → Shared → Prop} (I : Inv X pins σ H s) (B : TabB X.base X.mg c P) (hcd : X.env.code = .ref c) (T : TabS H P (X.env.qual ++ "<lambda>"))
    (hdf : defaultsOf ar X.env = ([], [])) (hfr : ∀ y ∈ sc.names, y.2 = .free → ∃ c, X.env.cells.lookup y.1 = some c)
    (k : ∀ (f c' : Addr) (pm tv : Value) (H1 : Hp) (s' : Shared), Sm (P, X.env.qual ++ "<lambda>") H H1 → Inv X pins σ H1 s' → s'.heap.get? f = some (PySem.W.kla_obj "<lambda>" (X.env.qual ++ "<lambda>") ar bd sc (cloFrom X.env.cells sc.names []) pm c' tv) → H1 c' = some (CodeO c' (X.env.qual ++ "<lambda>")) → Q (.ref f) s') :
    wpAny (model X.prog X.w) X.A (eval (.Lambda ar bd sc lp) X.env) Q E s := by
  have T0 := T
  obtain ⟨ps, hP, ok, codes⟩ := T
  refine PySem.W.kla_eval hdf ?_
  have atP : s.heap.get? P = some { cls := .none, data := .fields ps } := I.hok P _ hP
  cases hc : codeAmong lp ps.toList with
  | some cv =>
    obtain ⟨c', rfl, hco⟩ := codes lp cv hc
    refine PySem.W.kla_makeFunctionHit (mg := X.mg) (c := c) (P := P) (ps := ps) (closure_ok hfr) I.ok.glob (I.mod.glob.keeps I.bk) hcd (B.code.keeps I.bk) atP ok hc (B.bm.keeps I.bk) fun tv h' tk hx _ => ?_
    exact k h'.objs.size c' ((X.mg "__name__").getD .none) tv H _ (Sm.refl H) (I.kept (t' := tk) fun b o e => Heap.get?_push_of_some _ (hx b o e)) (Heap.get?_push_size _ rfl) hco
  | none =>
    refine PySem.W.kla_makeFunction (mg := X.mg) (c := c) (P := P) (ps := ps) (closure_ok hfr) I.ok.glob (I.mod.glob.keeps I.bk) hcd (B.code.keeps I.bk) atP ok hc B.gP (B.bm.keeps I.bk) fun c' tv h' tk hx hge _ hrec htb => ?_
    obtain ⟨c2, oc, vs, t, e2, hoc, hd, hv⟩ := hrec
    cases e2
    have nC : H c' = none := I.hok.fresh hge
    have nP : P ≠ c' := ne_of_none hP nC
    have I1 := inv_table (t' := tk) (q := X.env.qual ++ "<lambda>") (more := #[rawInt lp.line, rawInt lp.col, .ref c']) (h' := h'.push (PySem.W.kla_obj "<lambda>" (X.env.qual ++ "<lambda>") ar bd sc (cloFrom X.env.cells sc.names []) ((X.mg "__name__").getD .none) c' tv)) I hP
      (fun b o hb e => Heap.get?_push_of_some _ (hx b o hb e)) (Heap.get?_push_of_some _ htb) hge ⟨oc, vs, t, Heap.get?_push_of_some _ hoc, hd, hv⟩
    have other : ∀ b, b ≠ P → b ≠ c' → (upd (upd H P (.tbl (ps ++ #[rawInt lp.line, rawInt lp.col, .ref c']))) c' (CodeO c' (X.env.qual ++ "<lambda>"))) b = H b := fun b h1 h2 => by rw [upd_ne h2, upd_ne h1]
    have nw : (upd (upd H P (.tbl (ps ++ #[rawInt lp.line, rawInt lp.col, .ref c']))) c' (CodeO c' (X.env.qual ++ "<lambda>"))) P = some (.tbl (ps ++ #[rawInt lp.line, rawInt lp.col, .ref c'])) := by rw [upd_ne nP, upd_same]
    have keep : ∀ b o, H b = some o → b ≠ P → (upd (upd H P (.tbl (ps ++ #[rawInt lp.line, rawInt lp.col, .ref c']))) c' (CodeO c' (X.env.qual ++ "<lambda>"))) b = some o := fun b o e nb => by rw [other b nb (ne_of_none e nC)]; exact e
    have sm : Sm (P, X.env.qual ++ "<lambda>") H (upd (upd H P (.tbl (ps ++ #[rawInt lp.line, rawInt lp.col, .ref c']))) c' (CodeO c' (X.env.qual ++ "<lambda>"))) := by
      have eL : (ps ++ #[rawInt lp.line, rawInt lp.col, .ref c']).toList = ps.toList ++ [rawInt lp.line, rawInt lp.col, .ref c'] := by simp
      refine ⟨fun b o e n => keep b o e fun z => ?_, fun P' ps' e => ?_, fun _ => ⟨_, nw, by rw [eL]; exact PySem.TriplesOk_snoc _ _ _ _ ok, fun p' cv hcv => ?_⟩⟩
      · subst z
        rw [hP] at e
        cases e
        cases n
      · by_cases z : P' = P
        · subst z
          exact ⟨_, nw⟩
        · exact ⟨ps', keep _ _ e z⟩
      · rw [eL] at hcv
        rcases among_app _ ok hcv with y | y
        · obtain ⟨c0, e1, e3⟩ := codes p' cv y
          exact ⟨c0, e1, keep c0 _ e3 fun y2 => by rw [y2, hP] at e3; exact codeO_ne _ (Option.some.inj e3).symm⟩
        · exact ⟨c', y, upd_same⟩
    exact k h'.objs.size c' ((X.mg "__name__").getD .none) tv _ _ sm I1 (Heap.get?_push_size _ rfl) upd_same
end
end Sx

namespace Sx
open PySem PySem.Spec PyProof.Rows L2 LamX
theorem snd_le (k : V → Int) (a b : V) : PySem.W.dataLe true (fun y => PyData.int (k y)) a b = decide (k b ≤ k a) := by
  have e : PySem.W.dataLe true (fun y => PyData.int (k y)) a b = !(decide (k a < k b) || (!decide (k b < k a) && false)) := rfl
  rw [e, Bool.and_false, Bool.or_false]
  by_cases h : k a < k b
  · rw [decide_eq_true h, decide_eq_false (by omega)]; rfl
  · rw [decide_eq_false h, decide_eq_true (by omega)]; rfl
theorem snd_sorted (k : V → Int) (xs : List V) : (xs.mergeSort (PySem.W.dataLe true (fun y => PyData.int (k y)))).Pairwise fun a b => k b ≤ k a := by
  have h := List.pairwise_mergeSort (le := PySem.W.dataLe true (fun y => PyData.int (k y))) (fun a b c h1 h2 => by
    rw [snd_le] at h1 h2 ⊢
    have h1 := of_decide_eq_true h1
    have h2 := of_decide_eq_true h2
    exact decide_eq_true (by omega)) (fun a b => by
    rw [snd_le, snd_le]
    rcases Int.le_total (k b) (k a) with h | h
    · rw [decide_eq_true h]; rfl
    · rw [decide_eq_true h, Bool.or_true]) xs
  exact h.imp fun {a b} q => by
    rw [snd_le] at q
    exact of_decide_eq_true q
/-- the body of the lambda, its scope -/
abbrev sndB (j : Nat) (p1 p2 p3 : Pos) : Expr := .Subscript (.Name "source" p1) (.Constant (.int 1) j p2) p3
abbrev sndS : Scope := { kind := .function, names := [(Str.ofString "source", .local)], isGenerator := false, isCoroutine := false, more := [] }
abbrev sndA (p0 : Pos) : Arguments := { posonlyargs := [], args := [{ arg := "source", annotation := none, pos := p0 : Arg }], vararg := none, kwonlyargs := [], kw_defaults := [], kwarg := none, defaults := [] }
theorem snd_call {prog : Program} {w : World} {A : Around} {s : Shared} {f c' t : Addr} {q : Str} {cl : List (Str × Addr)} {pm tv : Value} {items : Array Value} {z : Int} {u : Tok} {j : Nat} {p0 p1 p2 p3 : Pos} (hd : A.depth < recursionLimit) (lim : s.heap.NoLimit)
    (hf : s.heap.get? f = some (PySem.W.kla_obj "<lambda>" q (sndA p0) (sndB j p1 p2 p3) sndS cl pm c' tv)) (hcd : s.heap.CodeRec (.ref c') q) (ht : IsTup s.heap t items) (hx : items[1]? = some (.int z u)) :
    wpAny (model prog w) A (call (.ref f) [.ref t]) (PySem.W.KeyPure (.int z) s) (fun _ _ => False) s := by
  refine wpAny_call (codeAny_mono (R := fun r s' => ∃ v, r = .ok (.ret v) ∧ PySem.W.KeyPure (.int z) s v s') (PySem.W.kla_callFunE hd hf rfl rfl rfl rfl hcd ?_) fun r s' h => ?_)
  · rw [show bindArgs (PySem.W.kla_fn "<lambda>" q (sndA p0) (sndB j p1 p2 p3) sndS cl pm (.ref c') tv) ⟨[.ref t], []⟩ = pure [(("source" : Str), .ref t)] by rfl]
    refine wpAny_pure (wpAny_newFunctionEnv (fun x hx => by cases hx with | head => decide | tail _ h => cases h) (fun x hx => by cases hx with | head => rfl | tail _ h => cases h) (fun h₁ hns hsb => ⟨lim.fresh _ hsb, ?_⟩) rfl)
    have kp : ∀ b o, s.heap.get? b = some o → h₁.get? b = some o := fun b o e => hsb.extBut b o (Nat.ne_of_lt (Heap.lt_size e)) (Heap.get?_push_of_some _ e)
    refine PySem.W.kla_codeExpr (Subscript_ (wpAny_Name (wpAny_loadName_local (v := .ref t) rfl rfl hns rfl (wpAny_Constant_int ?_))))
    have ht' : IsTup h₁ t items := by
      obtain ⟨o, e, c, n, d⟩ := ht
      exact ⟨o, kp _ _ e, c, n, d⟩
    have e1 : 1 < items.size := by
      obtain ⟨h, _⟩ := Array.getElem?_eq_some_iff.mp hx
      exact h
    refine subscriptTail_builtinR (x := .int z u) (T := "tuple") ht'.typeIs slot_tuple_getitem.lookup (PyProof.Rows.getItem_tuple (j := 1) ht' (by decide) (by decide) (seqIndex_of (by decide) (by omega)) hx ⟨rfl, ?_⟩)
    exact ⟨_, rfl, _, _, rfl, kp, .int z u⟩
  · obtain ⟨v, rfl, hk⟩ := h
    exact hk
end Sx

namespace Sx
open PySem PySem.Spec PyProof.Rows L2 LamX
/-- sorted(xs, key=lambda source: source[1], reverse=True): xs a list of tuples with an int at 1 -/
def tSortSnd (K : PySem.W.Frag) (T : Addr × Str) (t : TA) : TE := fun σ H Q => t σ H fun vs H1 => ∃ (l : Addr) (xs : List V) (k : V → Int), vs = [.ref l] ∧ SqL K H1 l xs ∧ (∀ y ∈ xs, ∃ a zs, y = .ref a ∧ H1 a = some (.tup zs) ∧ zs[1]? = some (.int (k y))) ∧ TabS H1 T.1 T.2 ∧
  ∀ (H2 : Hp) (ys : List V) (p : Addr), Sm T H1 H2 → ys.Perm xs → ys.Pairwise (fun a b => k b ≤ k a) → H2 p = none → Q (.ref p) (upd H2 p (.lst ys))
theorem each_vals : ∀ {xs : List V} {its : List Value}, Vals xs its → PySem.W.EachIs (fun (v : Value) (y : V) => RelV y v) its xs
  | _, _, .nil => .nil
  | _, _, .cons r t => .cons r (each_vals t)
theorem vals_each : ∀ {xs : List V} {its : List Value}, PySem.W.EachIs (fun (v : Value) (y : V) => RelV y v) its xs → Vals xs its
  | _, _, .nil => .nil
  | _, _, .cons r t => .cons r (vals_each t)
theorem snd_b {a : Addr} (q : Addr) (b : Bool) : Builtin.«list.sort» ⟨[.ref a], [(Str.ofString "key", .ref q), (Str.ofString "reverse", .bool b)]⟩ = ksk_tree a (.ref q) b := ksk_t2 q a b
section
variable {X : Cx}
theorem pe_sortSnd {c P : Addr} {es : List Expr} {ta : TA} {e : Expr} {j j2 : Nat} {p p0 p1 p2 p3 p4 lp kp kp2 pos : Pos} (ha : PA X (e :: es) ta) (hg : Gl X "sorted") (hm : X.mg "sorted" = none) (hr : Room 2 X.A)
    (B : TabB X.base X.mg c P) (hcd : X.env.code = .ref c)
    (he : backTo pos (starEach (e :: es) X.env) = (false, eval e X.env) :: backTo pos (starEach es X.env) := by rfl) (hpl : (backTo pos (starEach (e :: es) X.env)).any (·.1) = false := by rfl) :
    PE X (.Call (.Name "sorted" p) (e :: es) [⟨some "key", .Lambda (sndA p0) (sndB j p1 p2 p3) sndS lp, kp⟩, ⟨some "reverse", .Constant (.bool true) j2 p4, kp2⟩] pos) (tSortSnd X.K (P, X.env.qual ++ "<lambda>") ta) := by
  refine ⟨fun pins s σ H Q I h => ?_⟩
  refine wpAny_Call_Name_kw (ld_blt (u := .builtin "sorted") I hg hm (by decide +kernel) ?_)
  refine PyProof.Rows.callWith_kw (thn (ha.run pos pins s σ H _ I h) fun us s1 ⟨vs, H1, I1, r1, q1⟩ => ?_) he hpl rfl rfl
  obtain ⟨l, xs, k, rfl, hl, hx, hT, q⟩ := q1
  obtain rfl := Vals.ref1 r1
  refine kwAll_cons ?_
  refine lamRun I1 B hcd hT rfl (fun y hy e => by cases hy with | head => cases e | tail _ h => cases h) fun f c' pm tv H2 s2 sm I2 hf hco => ?_
  refine kwAll_cons (Constant_bool (kwAll_nil ?_))
  show wpAny _ _ (call (.builtin "sorted") [.ref l] [(Str.ofString "key", .ref f), (Str.ofString "reverse", .bool true)]) _ _ _
  have hl2 : SqL X.K H2 l xs := by
    rcases hl with hl | hl
    · rcases hl with hl | ⟨o, hl⟩
      · exact .inl (.inl (sm _ _ hl))
      · exact .inl (.inr ⟨o, sm _ _ hl⟩)
    · exact .inr hl
  obtain ⟨its, rv, pl, hz⟩ := I2.list hl2
  obtain ⟨e1, e2⟩ := refs_back rv fun x m => by
    obtain ⟨t, _, e, _⟩ := hx x m
    exact ⟨t, e⟩
  obtain ⟨⟨oc, cvs, ct, hoc, hdc, hvc⟩, _, _⟩ := I2.hok c' _ hco
  have hu : X.A.units + 16 * 2 + 200 < cLine := hr.un
  refine PySem.W.sorted_key_data (β := V) (bs := xs) (R := fun v y => RelV y v) (b := true) (f := .ref f) (fun y => PyData.int (k y)) pl.isList (each_vals rv) (fun d hd d' hd' => ?_) (.inr fun d hd => ?_) hz (fun x _ => ?_) (PyProof.Rows.ksk_s2 _ _ _) (fun _ => PyProof.Rows.ksk_l2 _ _ _) (fun x => snd_b f true) (fun v x rx hxm h tk kp => ?_) fun out cc h' tk kp _ hS hlen hE => ?_
  · obtain ⟨y, _, rfl⟩ := List.mem_map.mp hd
    obtain ⟨y', _, rfl⟩ := List.mem_map.mp hd'
    rfl
  · obtain ⟨y, _, rfl⟩ := List.mem_map.mp hd
    exact ⟨fun z => (nomatch z), fun xs z => (nomatch z)⟩
  · show X.A.units + 2 + (PyData.int (k x)).depth < cLine
    have : (PyData.int (k x)).depth ≤ 1 := by simp [PyData.depth]
    omega
  · obtain ⟨a, zs, rfl, hA, hz1⟩ := hx x hxm
    obtain rfl : v = Value.ref a := rx
    obtain ⟨_, its2, r2, o, ho, hc, n, hd⟩ := I2.hok _ _ (sm _ _ hA)
    obtain ⟨u1, hu1, ru1⟩ := r2.get hz1
    obtain ⟨tk1, rfl⟩ := ru1
    exact snd_call (s := { s2 with heap := h, toks := tk }) hr.in1.in1.depth (I2.nolimit.keeps kp) (kp _ _ hf) ⟨c', oc, cvs, ct, rfl, kp _ _ hoc, hdc, hvc⟩ ⟨o, kp _ _ ho, hc, n, hd⟩ (by rw [List.getElem?_toArray]; exact hu1)
  · have rv' := vals_each hE
    have pm := List.mergeSort_perm xs (PySem.W.dataLe true fun y => PyData.int (k y))
    exact ⟨.ref _, upd H2 (s2.heap.objs.size + 1) (.lst (xs.mergeSort (PySem.W.dataLe true fun y => PyData.int (k y)))), I2.laid (t' := tk) kp (Nat.le_succ _) ⟨by rw [pm.length_eq]; exact hz, out, cc, rv', hS⟩, rfl, q H2 _ _ sm pm (snd_sorted k xs) (I2.hok.fresh (Nat.le_succ _))⟩
end
end Sx

/-! list(d.keys()) -/
namespace DKe
open PySem PySem.Spec PyProof.Rows L2
def rKeysL : V → Hp → VK → Prop := fun x H Q => ∃ (d : Addr) (kvs : List (Key × V)), x = .ref d ∧ H d = some (.dK kvs) ∧ ∀ q, H q = none → Q (.ref q) (upd H q (.lst (kvs.map fun kv => kV kv.1)))
/-- list(e.keys()), a dict of ints and texts -/
def tKeysL (te : TE) : TE := fun σ H Q => te σ H fun x H1 => rKeysL x H1 Q
theorem vals_keys {P : Program} {w : World} {kvs : List (Key × V)} {vs : List (Key × Value)} {acc : Array Value} (kv : KV kvs vs)
    (h : ItemsOf (fun i v => ∃ k x, vs[i]? = some (k, x) ∧ (mixKind P w).is k v = true) acc vs.length) : Vals (kvs.map fun kv => kV kv.1) acc.toList := by
  have lk : kvs.length = vs.length := Paired.length kv
  refine vals_of_at (by rw [List.length_map]; exact lk.trans (h.1.symm.trans Array.length_toList.symm)) fun j x u h1 h2 => ?_
  obtain ⟨k, y, e1, e2⟩ := h.2 j u (by rw [← Array.getElem?_toList]; exact h2)
  have e3 : (kvs.map (·.1))[j]? = some k := by
    rw [KV.keys kv, List.getElem?_map, e1]
    all_goals rfl
  rw [List.getElem?_map] at e3 h1
  obtain ⟨p, hp, e4⟩ := Option.map_eq_some_iff.mp e3
  rw [hp] at h1
  cases h1
  show L2.RelV (kV p.1) u
  rw [e4]
  exact keyIs_rel e2
section
variable {X : Cx} {e : Expr} {te : TE} {p apos cpos pos : Pos}
theorem pe_listKeys (hc : X.calm = true) (he : PE X e te) (hg : Gl X "list") (hm : X.mg "list" = none) (hv : bootBuiltins "list" = some (.type "list"))
    (hb : attributeBase e "keys" X.env (eval e X.env) = eval e X.env := by rfl) (hl : (apos.endLine == cpos.line) = true := by rfl)
    (hs : starEach [.Call (.Attribute e "keys" apos) [] [] cpos] X.env = (false, eval (.Call (.Attribute e "keys" apos) [] [] cpos) X.env) :: starEach [] X.env := by rfl) :
    PE X (.Call (.Name "list" p) [.Call (.Attribute e "keys" apos) [] [] cpos] [] pos) (tKeysL te) := by
  refine ⟨fun pins s σ H Q I hq => wpAny_Call_Name_kw (ld_blt I hg hm hv (PyProof.Rows.callWith_type1 ?_ hs rfl))⟩
  rw [hs]
  show wpAny _ _ (spliced ((false, eval (.Call (.Attribute e "keys" apos) [] [] cpos) X.env) :: backTo pos (starEach [] X.env))) _ _ s
  refine Calls.spliced_cons (wpAny_Call_method (T := "dict") (id := "dict.keys") hb rfl hl F.plainAttrs_dict F.slot_dict_keys F.type_dict_keys (thn (he.run pins s σ H _ I hq) fun u s1 ⟨x, H1, I1, rx, d, kvs, ex, hd, q⟩ => ?_))
  subst ex
  obtain rfl : u = Value.ref d := rx
  obtain ⟨hz, h0, vs, kv, hdo⟩ := I1.hok d _ hd
  obtain ⟨ep, hat⟩ := hdo.dictAt
  have lk : kvs.length = vs.length := Paired.length kv
  have push : ∀ b ob, s1.heap.get? b = some ob → (s1.heap.push { cls := .type "dict_keys", data := .fields #[.ref d] }).get? b = some ob := fun b ob z => Heap.get?_push_of_some _ z
  have I2 : Inv X pins σ H1 { s1 with heap := s1.heap.push { cls := .type "dict_keys", data := .fields #[.ref d] } } := I1.kept (t' := s1.toks) push
  refine ⟨hdo.typeIs, hdo.mapOf.noDict, ?_⟩
  show wpAny _ _ (callWith cpos (.builtin "dict.keys") [.ref d] [] []) _ X.xe s1
  refine method_meetsIn F.slot_dict_keys F.entry_dict_keys rfl (PySem.evalArgs_none ⟨rfl, hdo.typeIs, F.args_dict_keys_1 _, _, PySem.W.kdl_meets_keys (mixKind X.prog X.w) d h0, ⟨vs, hdo⟩, Calls.spliced_nil ?_⟩)
  have src := PySem.W.kdl_keys (prog := X.prog) (w := X.w) (knd := mixKind X.prog X.w) (r := s1.heap.objs.size) (d := d) (kvs := vs) (ep := ep)
  refine PySem.W.kdl_call (s := { s1 with heap := s1.heap.push { cls := .type "dict_keys", data := .fields #[.ref d] } }) src (I1.ok.hd hc) ⟨⟨_, Heap.get?_push_size _ rfl, rfl, rfl⟩, hat.push _⟩ (by omega) fun h' tk acc c kp hS hacc => ?_
  have nf : H1 (s1.heap.push { cls := .type "dict_keys", data := .fields #[.ref d] }).objs.size = none := I2.hok.fresh (Nat.le_refl _)
  refine ⟨.ref _, _, I2.laid (t' := tk) (o := .lst (kvs.map fun kv => kV kv.1)) kp (Nat.le_refl _) ⟨by rw [List.length_map]; exact hz, acc.toList, c, vals_keys kv hacc, ?_⟩, rfl, q _ nf⟩
  rw [Array.toArray_toList]
  exact hS
end
end DKe

/-! list(d.keys()) and len(d), whichever the keys are: ints and texts, or tuples. -/
namespace DKe
open PySem PySem.Spec PyProof.Rows L2
def rKeysT : V → Hp → VK → Prop := fun x H Q => ∃ (d : Addr) (kvs : List (List Key × V)), x = .ref d ∧ H d = some (.dT kvs) ∧ ∀ q bs, H q = none → IsKeys H kvs bs → Q (.ref q) (upd H q (.lst (bs.map V.ref)))
/-- list(e.keys()), any dict -/
def tKeysB (te : TE) : TE := fun σ H Q => te σ H fun x H1 => rKeysL x H1 Q ∨ rKeysT x H1 Q
section
variable {X : Cx} {e : Expr} {te : TE} {p apos cpos pos : Pos}
theorem pe_listKeysB (hc : X.calm = true) (he : PE X e te) (hg : Gl X "list") (hm : X.mg "list" = none) (hv : bootBuiltins "list" = some (.type "list"))
    (hb : attributeBase e "keys" X.env (eval e X.env) = eval e X.env := by rfl) (hl : (apos.endLine == cpos.line) = true := by rfl)
    (hs : starEach [.Call (.Attribute e "keys" apos) [] [] cpos] X.env = (false, eval (.Call (.Attribute e "keys" apos) [] [] cpos) X.env) :: starEach [] X.env := by rfl) :
    PE X (.Call (.Name "list" p) [.Call (.Attribute e "keys" apos) [] [] cpos] [] pos) (tKeysB te) := by
  refine ⟨fun pins s σ H Q I hq => wpAny_Call_Name_kw (ld_blt I hg hm hv (PyProof.Rows.callWith_type1 ?_ hs rfl))⟩
  rw [hs]
  show wpAny _ _ (spliced ((false, eval (.Call (.Attribute e "keys" apos) [] [] cpos) X.env) :: backTo pos (starEach [] X.env))) _ _ s
  refine Calls.spliced_cons (wpAny_Call_method (T := "dict") (id := "dict.keys") hb rfl hl F.plainAttrs_dict F.slot_dict_keys F.type_dict_keys (thn (he.run pins s σ H _ I hq) fun u s1 ⟨x, H1, I1, rx, h⟩ => ?_))
  rcases h with ⟨d, kvs, ex, hd, q⟩ | ⟨d, kvs, ex, hd, q⟩
  · subst ex
    obtain rfl : u = Value.ref d := rx
    obtain ⟨hz, h0, vs, kv, hdo⟩ := I1.hok d _ hd
    obtain ⟨ep, hat⟩ := hdo.dictAt
    have lk : kvs.length = vs.length := Paired.length kv
    have push : ∀ b ob, s1.heap.get? b = some ob → (s1.heap.push { cls := .type "dict_keys", data := .fields #[.ref d] }).get? b = some ob := fun b ob z => Heap.get?_push_of_some _ z
    have I2 : Inv X pins σ H1 { s1 with heap := s1.heap.push { cls := .type "dict_keys", data := .fields #[.ref d] } } := I1.kept (t' := s1.toks) push
    refine ⟨hdo.typeIs, hdo.mapOf.noDict, ?_⟩
    show wpAny _ _ (callWith cpos (.builtin "dict.keys") [.ref d] [] []) _ X.xe s1
    refine method_meetsIn F.slot_dict_keys F.entry_dict_keys rfl (PySem.evalArgs_none ⟨rfl, hdo.typeIs, F.args_dict_keys_1 _, _, PySem.W.kdl_meets_keys (mixKind X.prog X.w) d h0, ⟨vs, hdo⟩, Calls.spliced_nil ?_⟩)
    have src := PySem.W.kdl_keys (prog := X.prog) (w := X.w) (knd := mixKind X.prog X.w) (r := s1.heap.objs.size) (d := d) (kvs := vs) (ep := ep)
    refine PySem.W.kdl_call (s := { s1 with heap := s1.heap.push { cls := .type "dict_keys", data := .fields #[.ref d] } }) src (I1.ok.hd hc) ⟨⟨_, Heap.get?_push_size _ rfl, rfl, rfl⟩, hat.push _⟩ (by omega) fun h' tk acc c kp hS hacc => ?_
    have nf : H1 (s1.heap.push { cls := .type "dict_keys", data := .fields #[.ref d] }).objs.size = none := I2.hok.fresh (Nat.le_refl _)
    refine ⟨.ref _, _, I2.laid (t' := tk) (o := .lst (kvs.map fun kv => kV kv.1)) kp (Nat.le_refl _) ⟨by rw [List.length_map]; exact hz, acc.toList, c, vals_keys kv hacc, ?_⟩, rfl, q _ nf⟩
    rw [Array.toArray_toList]
    exact hS
  · subst ex
    obtain rfl : u = Value.ref d := rx
    obtain ⟨hz, h0, ks, pr, o, es, ep, ho, hx, hdt, hes, hn⟩ := (show ObjOk X.prog X.w H1 s1.heap d (.dT kvs) from I1.hok d _ hd)
    have raw : s1.heap.DictRaw d es ep := ⟨o, ho, hx, hdt⟩
    have l1 : es.size = ks.length := size_of_entries hes
    have l2 : kvs.length = ks.length := Paired.length pr
    have push : ∀ b ob, s1.heap.get? b = some ob → (s1.heap.push { cls := .type "dict_keys", data := .fields #[.ref d] }).get? b = some ob := fun b ob z => Heap.get?_push_of_some _ z
    have I2 : Inv X pins σ H1 { s1 with heap := s1.heap.push { cls := .type "dict_keys", data := .fields #[.ref d] } } := I1.kept (t' := s1.toks) push
    refine ⟨raw.typeIs, fun b eb => ?_, ?_⟩
    · cases eb
      exact ⟨o, ho, hx.2.1⟩
    show wpAny _ _ (callWith cpos (.builtin "dict.keys") [.ref d] [] []) _ X.xe s1
    refine method_meetsIn F.slot_dict_keys F.entry_dict_keys rfl (PySem.evalArgs_none ⟨rfl, raw.typeIs, F.args_dict_keys_1 _, _, PySem.meets_dict_keys_raw d h0, ⟨es, ep, raw⟩, Calls.spliced_nil ?_⟩)
    have src := KdlSrc.rawKeys (prog := X.prog) (w := X.w) (r := s1.heap.objs.size) (d := d) (es := es) (ep := ep)
    refine PySem.W.kdl_call (s := { s1 with heap := s1.heap.push { cls := .type "dict_keys", data := .fields #[.ref d] } }) src (I1.ok.hd hc) ⟨⟨_, Heap.get?_push_size _ rfl, rfl, rfl⟩, raw.push _⟩ (by omega) fun h' tk acc c kp hS hacc => ?_
    have nf : H1 (s1.heap.push { cls := .type "dict_keys", data := .fields #[.ref d] }).objs.size = none := I2.hok.fresh (Nat.le_refl _)
    have eacc : acc.toList = (ks.map fun x => x.2.1).map Value.ref := by
      refine List.ext_getElem? fun j => ?_
      rw [List.getElem?_map, List.getElem?_map]
      have hsz : acc.toList.length = ks.length := Array.length_toList.trans (hacc.1.trans l1)
      cases hj : acc.toList[j]? with
      | none =>
        have := List.getElem?_eq_none_iff.mp hj
        rw [List.getElem?_eq_none (by omega)]
        rfl
      | some v =>
        obtain ⟨hi, ev⟩ := hacc.2 j v (by rw [← Array.getElem?_toList]; exact hj)
        have en := entry_at hes j
        rw [Array.getElem?_eq_getElem hi] at en
        obtain ⟨b, hb, eb⟩ := Option.map_eq_some_iff.mp en.symm
        rw [hb, ev, ← eb]
        rfl
    have lz : ((ks.map fun x => x.2.1).map V.ref).length ≤ sizeLine := by rw [List.length_map, List.length_map]; omega
    refine ⟨.ref _, _, I2.laid (t' := tk) (o := .lst ((ks.map fun x => x.2.1).map V.ref)) kp (Nat.le_refl _) ⟨lz, acc.toList, c, ?_, ?_⟩, rfl, q _ _ nf (isKeys_of pr)⟩
    · rw [eacc]
      exact vals_refs _
    · rw [Array.toArray_toList]
      exact hS
/-- len(d), any dict -/
theorem call_lenB : CallR X (.builtin "len") (fun xs H Q => (∃ a kvs, xs = [V.ref a] ∧ H a = some (.dK kvs) ∧ Q (.int kvs.length) H) ∨ ∃ (a : Addr) (kvs : List (List Key × V)), xs = [V.ref a] ∧ H a = some (.dT kvs) ∧ Q (.int ((kvs.length : Nat) : Int)) H) := by
  intro pins s σ H xs us Q I r h
  rcases h with h | ⟨a, kvs, h1, h2, h3⟩
  · exact call_lenD pins s σ H xs us Q I r h
  · exact call_len_dT pins s σ H xs us Q I r ⟨a, kvs, h1, h2, h3⟩
end
end DKe

/-! The fields of a site as plain data, what a start reaches, and how both stand in the heap. -/
namespace Ce
open PySem PySem.Spec PyProof.Rows L2
inductive Cell where
  | non | obj (n : Int) | far (a b : Int)
  deriving DecidableEq
abbrev Fields := List (Int × List Cell)
/-- what a start reaches, itself included -/
inductive RC (fs : Fields) (s : Cell) : Cell → Prop
  | here : RC fs s s
  | step {m : Int} {cs : List Cell} {c : Cell} : RC fs s (.obj m) → (m, cs) ∈ fs → c ∈ cs → c ≠ .non → RC fs s c
def IsKey (fs : Fields) (n : Int) : Prop := ∃ cs, (n, cs) ∈ fs
theorem isKey_iff {fs : Fields} {n : Int} : IsKey fs n ↔ n ∈ fs.map (·.1) := by
  constructor
  · rintro ⟨cs, h⟩
    exact List.mem_map.mpr ⟨_, h, rfl⟩
  · intro h
    obtain ⟨p, hp, rfl⟩ := List.mem_map.mp h
    exact ⟨p.2, hp⟩
/-- all contents -/
def allC (fs : Fields) : List Cell := fs.flatMap (·.2)
theorem mem_allC {fs : Fields} {m : Int} {cs : List Cell} {c : Cell} (h : (m, cs) ∈ fs) (hc : c ∈ cs) : c ∈ allC fs := List.mem_flatMap.mpr ⟨_, h, hc⟩
theorem allC_len {k : Nat} : ∀ {fs : Fields}, (∀ p ∈ fs, p.2.length ≤ k) → (allC fs).length ≤ k * fs.length
  | [], _ => Nat.zero_le _
  | p :: fs, h => by
    have h1 := h p List.mem_cons_self
    have h2 := allC_len (k := k) (fs := fs) fun q hq => h q (List.mem_cons_of_mem _ hq)
    unfold allC at h2 ⊢
    rw [List.flatMap_cons, List.length_append, List.length_cons, Nat.mul_succ]
    omega
/-- a list without repetition is no longer than one that has all its items -/
theorem nd_len {α : Type} : ∀ {l m : List α}, l.Nodup → (∀ x ∈ l, x ∈ m) → l.length ≤ m.length
  | [], _, _, _ => Nat.zero_le _
  | x :: l, m, hn, hs => by
    rw [List.nodup_cons] at hn
    obtain ⟨a, b, rfl⟩ := List.append_of_mem (hs x List.mem_cons_self)
    have h := nd_len (l := l) (m := a ++ b) hn.2 fun y hy => by
      rcases List.mem_append.mp (hs y (List.mem_cons_of_mem _ hy)) with h | h
      · exact List.mem_append_left _ h
      · rcases List.mem_cons.mp h with h | h
        · subst h
          exact absurd hy hn.1
        · exact List.mem_append_right _ h
    rw [List.length_append] at h ⊢
    rw [List.length_cons, List.length_cons]
    omega
/-! ### in the heap -/
def CV (H : Hp) : Cell → V → Prop
  | .non, v => v = .non
  | .obj n, v => v = .int n
  | .far a b, v => ∃ t, v = .ref t ∧ H t = some (.tup [.int a, .int b])
abbrev CVs (H : Hp) : List Cell → List V → Prop := Paired (CV H)
/-- tuples stay -/
def TL (H H' : Hp) : Prop := ∀ b xs, H b = some (.tup xs) → H' b = some (.tup xs)
theorem TL.refl {H : Hp} : TL H H := fun _ _ h => h
theorem TL.trans {H H1 H2 : Hp} (a : TL H H1) (b : TL H1 H2) : TL H H2 := fun x y h => b x y (a x y h)
theorem TL.new {H : Hp} {p : Addr} {o : HO} (h : H p = none) : TL H (upd H p o) := fun b xs e => by
  rw [upd_ne (ne_of_none e h)]
  exact e
theorem TL.put {H : Hp} {p : Addr} {o u : HO} (h : H p = some u) (n : ∀ xs, u ≠ .tup xs) : TL H (upd H p o) := fun b xs e => by
  rw [upd_ne (ne_of e h fun z => n xs z.symm)]
  exact e
theorem TL.same {H H' : Hp} (s : ∀ b o, H b = some o → H' b = some o) : TL H H' := fun b xs e => s b _ e
theorem CV.tl {H H' : Hp} (t : TL H H') : ∀ {c : Cell} {v : V}, CV H c v → CV H' c v
  | .non, _, h => h
  | .obj _, _, h => h
  | .far _ _, _, ⟨q, h1, h2⟩ => ⟨q, h1, t _ _ h2⟩
theorem CVs.tl {H H' : Hp} (t : TL H H') {cs : List Cell} {vs : List V} (h : CVs H cs vs) : CVs H' cs vs := Paired.mapP h fun _ _ q => q.tl t
/-- the entry of one object -/
def EV (H : Hp) (p : Int × List Cell) (q : Key × V) : Prop := q.1 = .inl p.1 ∧ ∃ t vs, q.2 = .ref t ∧ H t = some (.tup vs) ∧ CVs H p.2 vs
theorem EV.tl {H H' : Hp} (t : TL H H') {p : Int × List Cell} {q : Key × V} (h : EV H p q) : EV H' p q := by
  obtain ⟨h1, a, vs, h2, h3, h4⟩ := h
  exact ⟨h1, a, vs, h2, t _ _ h3, h4.tl t⟩
/-- the dict at d holds the fields fs -/
def FA (H : Hp) (d : Addr) (fs : Fields) : Prop := ∃ kvs, H d = some (.dK kvs) ∧ Paired (EV H) fs kvs
theorem FA.tl {H H' : Hp} {d : Addr} {fs : Fields} (h : FA H d fs) (t : TL H H') (e : H' d = H d) : FA H' d fs := by
  obtain ⟨kvs, h1, h2⟩ := h
  exact ⟨kvs, e.trans h1, Paired.mapP h2 fun _ _ q => q.tl t⟩
theorem FA.sm {H H' : Hp} {d : Addr} {fs : Fields} (h : FA H d fs) (s : Same H H') : FA H' d fs := by
  obtain ⟨kvs, h1, h2⟩ := h
  exact ⟨kvs, s _ _ h1, Paired.mapP h2 fun _ _ q => q.tl (TL.same s)⟩
theorem valV_nd {kvs : List (Key × V)} {p : Key × V} (hn : (kvs.map (·.1)).Nodup) (hp : p ∈ kvs) : valV kvs p.1 = some p.2 := by
  induction kvs with
  | nil => exact nomatch hp
  | cons y l ih =>
    rw [List.map_cons, List.nodup_cons] at hn
    rcases List.mem_cons.mp hp with h | h
    · rw [h]
      exact valV_pos rfl
    · have ny : ¬ y.1 = p.1 := fun z => hn.1 (z ▸ List.mem_map.mpr ⟨p, h, rfl⟩)
      unfold valV
      rw [List.find?_cons_of_neg (by rw [decide_eq_false ny]; exact Bool.false_ne_true)]
      exact ih hn.2 h
/-- the first i entries, and the next one -/
theorem putK_take {kvs : List (Key × V)} {p : Key × V} {i : Nat} (hn : (kvs.map (·.1)).Nodup) (hp : kvs[i]? = some p) : putK (kvs.take i) p.1 p.2 = kvs.take (i + 1) := by
  unfold putK
  rw [if_neg]
  · rw [List.take_add_one, hp]
    rfl
  · rw [List.any_eq_true]
    rintro ⟨y, hy, ey⟩
    have ey := of_decide_eq_true ey
    obtain ⟨j, hj⟩ := List.mem_iff_getElem?.mp hy
    rw [List.getElem?_take] at hj
    split at hj
    · rename_i hji
      have h1 : (kvs.map (·.1))[j]? = some p.1 := by rw [List.getElem?_map, hj, ← ey]; rfl
      have h2 : (kvs.map (·.1))[i]? = some p.1 := by rw [List.getElem?_map, hp]; rfl
      have := (List.getElem?_inj (List.getElem?_eq_some_iff.mp h1).1 hn).mp (h1.trans h2.symm)
      omega
    · cases hj
/-- a dict of such entries: its keys, its values -/
theorem ev_keys {H : Hp} {fs : Fields} {kvs : List (Key × V)} (h : Paired (EV H) fs kvs) : kvs.map (·.1) = fs.map fun p => (Sum.inl p.1 : Key) := by
  induction h with
  | nil => rfl
  | cons q _ ih => rw [List.map_cons, List.map_cons, ih, q.1]
theorem ev_nd {H : Hp} {fs : Fields} {kvs : List (Key × V)} (h : Paired (EV H) fs kvs) (hn : (fs.map (·.1)).Nodup) : (kvs.map (·.1)).Nodup := by
  rw [ev_keys h]
  have e : (fs.map fun p => (Sum.inl p.1 : Key)) = (fs.map (·.1)).map Sum.inl := by rw [List.map_map]; rfl
  rw [e]
  exact List.Pairwise.map _ (fun a b (z : a ≠ b) y => z (Sum.inl.inj y)) hn
theorem ev_ref {H : Hp} {fs : Fields} {kvs : List (Key × V)} (h : Paired (EV H) fs kvs) : ∀ p ∈ kvs, ∃ t, p.2 = V.ref t := by
  induction h with
  | nil => exact fun _ h => nomatch h
  | cons q _ ih =>
    intro p hp
    rcases List.mem_cons.mp hp with e | e
    · obtain ⟨_, t, _, e1, _⟩ := q
      exact ⟨t, by rw [e]; exact e1⟩
    · exact ih p e
theorem ev_int {H : Hp} {fs : Fields} {kvs : List (Key × V)} (h : Paired (EV H) fs kvs) : ∀ p ∈ kvs, ∃ n, p.1 = Sum.inl n := by
  induction h with
  | nil => exact fun _ h => nomatch h
  | cons q _ ih =>
    intro p hp
    rcases List.mem_cons.mp hp with e | e
    · exact ⟨_, by rw [e]; exact q.1⟩
    · exact ih p e
def cellsOf (fs : Fields) (n : Int) : Option (List Cell) := (fs.find? fun p => p.1 == n).map (·.2)
theorem pr_len {α β : Type} {F : α → β → Prop} : ∀ {l : List α} {m : List β}, Paired F l m → l.length = m.length
  | _, _, .nil => rfl
  | _, _, .cons _ t => congrArg (· + 1) (pr_len t)
theorem pr_r {α β : Type} {F : α → β → Prop} : ∀ {l : List α} {m : List β} {j : Nat} {y : β}, Paired F l m → m[j]? = some y → ∃ x, l[j]? = some x ∧ F x y
  | _, _, _, _, .nil, e => by simp at e
  | _, _, 0, _, .cons r _, e => by simp at e; subst e; exact ⟨_, rfl, r⟩
  | _, _, j + 1, _, .cons _ t, e => by
    obtain ⟨x, h1, h2⟩ := pr_r t (by simpa using e)
    exact ⟨x, by simpa using h1, h2⟩
theorem pr_l {α β : Type} {F : α → β → Prop} : ∀ {l : List α} {m : List β} {j : Nat} {x : α}, Paired F l m → l[j]? = some x → ∃ y, m[j]? = some y ∧ F x y
  | _, _, _, _, .nil, e => by simp at e
  | _, _, 0, _, .cons r _, e => by simp at e; subst e; exact ⟨_, rfl, r⟩
  | _, _, j + 1, _, .cons _ t, e => by
    obtain ⟨y, h1, h2⟩ := pr_l t (by simpa using e)
    exact ⟨y, by simpa using h1, h2⟩
theorem pr_mem {α β : Type} {F : α → β → Prop} {l : List α} {m : List β} (h : Paired F l m) {x : α} (hx : x ∈ l) : ∃ y ∈ m, F x y := by
  obtain ⟨j, hj⟩ := List.mem_iff_getElem?.mp hx
  obtain ⟨y, hy, hF⟩ := pr_l h hj
  exact ⟨y, List.mem_of_getElem? hy, hF⟩
theorem pr_app {α β : Type} {F : α → β → Prop} : ∀ {l l' : List α} {m m' : List β}, Paired F l m → Paired F l' m' → Paired F (l ++ l') (m ++ m')
  | _, _, _, _, .nil, s => s
  | _, _, _, _, .cons r t, s => .cons r (pr_app t s)
/-- what the dict holds at a number -/
theorem FA.val {H : Hp} {fs : Fields} {kvs : List (Key × V)} (h : Paired (EV H) fs kvs) (n : Int) :
    (cellsOf fs n = none ∧ valV kvs (Sum.inl n) = none) ∨ ∃ cs t vs, cellsOf fs n = some cs ∧ (n, cs) ∈ fs ∧ valV kvs (Sum.inl n) = some (.ref t) ∧ H t = some (.tup vs) ∧ CVs H cs vs := by
  induction h with
  | nil => exact .inl ⟨rfl, rfl⟩
  | @cons p q ps qs h t ih =>
    obtain ⟨h1, a, vs, h2, h3, h4⟩ := h
    by_cases e : p.1 = n
    · refine .inr ⟨p.2, a, vs, ?_, ?_, ?_, h3, h4⟩
      · unfold cellsOf
        rw [List.find?_cons_of_pos (by simp [e])]
        rfl
      · rw [← e]
        exact List.mem_cons_self
      · unfold valV
        rw [List.find?_cons_of_pos (by rw [h1, e]; exact decide_eq_true rfl)]
        exact congrArg some h2
    · have e2 : ¬ q.1 = Sum.inl n := fun z => e (Sum.inl.inj (h1.symm.trans z))
      have c1 : cellsOf (p :: ps) n = cellsOf ps n := by
        unfold cellsOf
        rw [List.find?_cons_of_neg (by simp [e])]
      have c2 : valV (q :: qs) (Sum.inl n) = valV qs (Sum.inl n) := by
        unfold valV
        rw [List.find?_cons_of_neg (by rw [decide_eq_false e2]; exact Bool.false_ne_true)]
      rw [c1, c2]
      rcases ih with h | ⟨cs, t', vs', i1, i2, i3⟩
      · exact .inl h
      · exact .inr ⟨cs, t', vs', i1, List.mem_cons_of_mem _ i2, i3⟩
theorem cellsOf_none {fs : Fields} {n : Int} (h : cellsOf fs n = none) : ¬ IsKey fs n := by
  rintro ⟨cs, hm⟩
  unfold cellsOf at h
  have z := List.find?_eq_none.mp (Option.map_eq_none_iff.mp h) _ hm
  simp at z
theorem cellsOf_nd {fs : Fields} (hn : (fs.map (·.1)).Nodup) {n : Int} {cs cs' : List Cell} (h : (n, cs) ∈ fs) (h' : (n, cs') ∈ fs) : cs = cs' := by
  obtain ⟨i, hi⟩ := List.mem_iff_getElem?.mp h
  obtain ⟨j, hj⟩ := List.mem_iff_getElem?.mp h'
  have h1 : (fs.map (·.1))[i]? = some n := by rw [List.getElem?_map, hi]; rfl
  have h2 : (fs.map (·.1))[j]? = some n := by rw [List.getElem?_map, hj]; rfl
  have e : i = j := (List.getElem?_inj (List.getElem?_eq_some_iff.mp h1).1 hn).mp (h1.trans h2.symm)
  subst e
  rw [hi] at hj
  exact congrArg Prod.snd (Option.some.inj hj)
/-- one entry stored -/
def putC (fs : Fields) (n : Int) (cs : List Cell) : Fields := if fs.any (fun p => p.1 == n) then fs.map (fun p => if p.1 = n then (p.1, cs) else p) else fs ++ [(n, cs)]
theorem any_pr {H : Hp} {n : Int} {fs : Fields} {kvs : List (Key × V)} (h : Paired (EV H) fs kvs) : (fs.any fun p => p.1 == n) = kvs.any fun kv => decide (kv.1 = Sum.inl n) := by
  induction h with
  | nil => rfl
  | @cons p q ps qs h t ih =>
    rw [List.any_cons, List.any_cons, ih]
    congr 1
    rw [h.1]
    by_cases e : p.1 = n
    · rw [e]; simp
    · rw [decide_eq_false fun z => e (Sum.inl.inj z)]
      simp [e]
theorem put_pr {H : Hp} {n : Int} {cs : List Cell} {t : Addr} {vs : List V} {fs : Fields} {kvs : List (Key × V)} (h : Paired (EV H) fs kvs) (ht : H t = some (.tup vs)) (hc : CVs H cs vs) :
    Paired (EV H) (putC fs n cs) (putK kvs (Sum.inl n) (.ref t)) := by
  unfold putC putK
  rw [any_pr (n := n) h]
  split
  · have all : ∀ {fs : Fields} {kvs : List (Key × V)}, Paired (EV H) fs kvs → Paired (EV H) (fs.map fun p => if p.1 = n then (p.1, cs) else p) (kvs.map fun kv => if kv.1 = Sum.inl n then (kv.1, V.ref t) else kv) := by
      intro fs kvs h
      induction h with
      | nil => exact .nil
      | @cons p q ps qs h t' ih =>
        rw [List.map_cons, List.map_cons]
        refine .cons ?_ ih
        by_cases e : p.1 = n
        · rw [if_pos e, if_pos (by rw [h.1, e])]
          exact ⟨h.1, t, vs, rfl, ht, hc⟩
        · rw [if_neg e, if_neg fun z => e (Sum.inl.inj (h.1.symm.trans z))]
          exact h
    exact all h
  · exact pr_app h (.cons ⟨rfl, t, vs, rfl, ht, hc⟩ .nil)
theorem putC_len (fs : Fields) (n : Int) (cs : List Cell) : (putC fs n cs).length ≤ fs.length + 1 := by
  unfold putC
  split
  · rw [List.length_map]; omega
  · rw [List.length_append]; exact Nat.le_refl _
theorem putC_nd {fs : Fields} (h : (fs.map (·.1)).Nodup) (n : Int) (cs : List Cell) : ((putC fs n cs).map (·.1)).Nodup := by
  unfold putC
  split
  · have e : (fs.map fun p => if p.1 = n then (p.1, cs) else p).map (·.1) = fs.map (·.1) := by
      rw [List.map_map]
      refine List.map_congr_left fun p _ => ?_
      show (if p.1 = n then (p.1, cs) else p).1 = p.1
      split <;> rfl
    rw [e]
    exact h
  · rename_i hn
    rw [List.map_append, List.nodup_append]
    refine ⟨h, by simp, fun x hx y hy z => hn ?_⟩
    rw [List.map_cons, List.map_nil, List.mem_singleton] at hy
    subst z hy
    obtain ⟨p, hp, e⟩ := List.mem_map.mp hx
    exact List.any_eq_true.mpr ⟨p, hp, beq_iff_eq.mpr e⟩
theorem putC_all {Pr : List Cell → Prop} {fs : Fields} (h : ∀ p ∈ fs, Pr p.2) {n : Int} {cs : List Cell} (hc : Pr cs) : ∀ p ∈ putC fs n cs, Pr p.2 := by
  intro p hp
  unfold putC at hp
  split at hp
  · obtain ⟨q, hq, rfl⟩ := List.mem_map.mp hp
    split
    · exact hc
    · exact h q hq
  · rcases List.mem_append.mp hp with hp | hp
    · exact h p hp
    · rw [List.mem_singleton.mp hp]; exact hc
theorem putC_key {fs : Fields} {n m : Int} {cs : List Cell} (h : IsKey fs m) : IsKey (putC fs n cs) m := by
  obtain ⟨ds, hm⟩ := h
  unfold putC
  split
  · by_cases e : m = n
    · exact ⟨cs, List.mem_map.mpr ⟨_, hm, by rw [if_pos e]⟩⟩
    · exact ⟨ds, List.mem_map.mpr ⟨_, hm, by rw [if_neg e]⟩⟩
  · exact ⟨ds, List.mem_append_left _ hm⟩
/-- one entry taken out -/
def dropC (fs : Fields) (n : Int) : Fields := fs.filter fun p => decide (p.1 ≠ n)
theorem drop_pr {H : Hp} {n : Int} {fs : Fields} {kvs : List (Key × V)} (h : Paired (EV H) fs kvs) : Paired (EV H) (dropC fs n) (dropK kvs (Sum.inl n)) := by
  unfold dropC dropK
  induction h with
  | nil => exact .nil
  | @cons p q ps qs h t ih =>
    by_cases e : p.1 = n
    · rw [List.filter_cons_of_neg (by simp [e]), List.filter_cons_of_neg (by simp [h.1, e])]
      exact ih
    · have e2 : ¬ q.1 = Sum.inl n := fun z => e (Sum.inl.inj (h.1.symm.trans z))
      rw [List.filter_cons_of_pos (by simp [e]), List.filter_cons_of_pos (by simp [e2])]
      exact .cons h ih
theorem dropC_sub {fs : Fields} {n : Int} {p : Int × List Cell} (h : p ∈ dropC fs n) : p ∈ fs := (List.mem_filter.mp h).1
theorem dropC_nd {fs : Fields} (h : (fs.map (·.1)).Nodup) (n : Int) : ((dropC fs n).map (·.1)).Nodup := List.Nodup.sublist (List.Sublist.map _ List.filter_sublist) h
theorem dropC_len (fs : Fields) (n : Int) : (dropC fs n).length ≤ fs.length := List.length_filter_le _ _
/-! ### the walk: a list of cells, from the start, each one once -/
structure Walk (fs : Fields) (s : Cell) (ws : List Cell) (i : Nat) : Prop where
  head : s ∈ ws
  nd : ws.Nodup
  rc : ∀ c ∈ ws, RC fs s c
  src : ∀ c ∈ ws, c = s ∨ c ∈ allC fs
  done : ∀ (j : Nat) (m : Int) (cs : List Cell), j < i → ws[j]? = some (.obj m) → (m, cs) ∈ fs → ∀ c ∈ cs, c ≠ .non → c ∈ ws
theorem Walk.start {fs : Fields} {s : Cell} : Walk fs s [s] 0 :=
  ⟨List.mem_cons_self, by simp, fun c h => by rw [List.mem_singleton.mp h]; exact .here, fun c h => .inl (List.mem_singleton.mp h), fun j _ _ h => absurd h (Nat.not_lt_zero _)⟩
theorem Walk.len {fs : Fields} {s : Cell} {ws : List Cell} {i k : Nat} (w : Walk fs s ws i) (h : ∀ p ∈ fs, p.2.length ≤ k) : ws.length ≤ k * fs.length + 1 := by
  have h1 := nd_len (l := ws) (m := s :: allC fs) w.nd fun c hc => by
    rcases w.src c hc with e | e
    · rw [e]; exact List.mem_cons_self
    · exact List.mem_cons_of_mem _ e
  rw [List.length_cons] at h1
  have h2 := allC_len h
  omega
/-- the walk is over: exactly what the start reaches -/
theorem Walk.all {fs : Fields} {s : Cell} {ws : List Cell} {i : Nat} (w : Walk fs s ws i) (h : ws.length ≤ i) (c : Cell) : c ∈ ws ↔ RC fs s c := by
  refine ⟨w.rc c, fun h1 => ?_⟩
  induction h1 with
  | here => exact w.head
  | step _ h2 h3 h4 ih =>
    obtain ⟨j, hj⟩ := List.mem_iff_getElem?.mp ih
    exact w.done j _ _ (Nat.lt_of_lt_of_le (List.getElem?_eq_some_iff.mp hj).1 h) hj h2 _ h3 h4
theorem get_app {α : Type} {l m : List α} {j : Nat} {x : α} (h : l[j]? = some x) : (l ++ m)[j]? = some x := by
  rw [List.getElem?_append_left (List.getElem?_eq_some_iff.mp h).1]
  exact h
/-! ### in the middle of a turn: the first k contents of the item at i are seen -/
structure Turn (fs : Fields) (s : Cell) (ws : List Cell) (i : Nat) (m : Int) (cs : List Cell) (k : Nat) : Prop where
  walk : Walk fs s ws i
  at_ : ws[i]? = some (.obj m)
  mem : (m, cs) ∈ fs
  seen : ∀ (j : Nat) (c : Cell), j < k → cs[j]? = some c → c ≠ .non → c ∈ ws
theorem Turn.skip {fs : Fields} {s : Cell} {ws : List Cell} {i k : Nat} {m : Int} {cs : List Cell} {c : Cell} (t : Turn fs s ws i m cs k) (hc : cs[k]? = some c) (h : c = .non ∨ c ∈ ws) : Turn fs s ws i m cs (k + 1) :=
  ⟨t.walk, t.at_, t.mem, fun j d hj hd hn => by
    rcases Nat.lt_or_eq_of_le (Nat.le_of_lt_succ hj) with q | q
    · exact t.seen j d q hd hn
    · rw [q, hc] at hd
      cases hd
      rcases h with h | h
      · exact absurd h hn
      · exact h⟩
theorem Turn.add {fs : Fields} {s : Cell} {ws : List Cell} {i k : Nat} {m : Int} {cs : List Cell} {c : Cell} (t : Turn fs s ws i m cs k) (hc : cs[k]? = some c) (h1 : c ≠ .non) (h2 : c ∉ ws) : Turn fs s (ws ++ [c]) i m cs (k + 1) := by
  have hm : ∀ x ∈ ws ++ [c], x ∈ ws ∨ x = c := fun x hx => by
    rcases List.mem_append.mp hx with q | q
    · exact .inl q
    · exact .inr (List.mem_singleton.mp q)
  have hcm := List.mem_of_getElem? hc
  refine ⟨⟨List.mem_append_left _ t.walk.head, ?_, fun x hx => ?_, fun x hx => ?_, fun j n ds hj hn hd x hx hxn => ?_⟩, get_app t.at_, t.mem, fun j d hj hd hn => ?_⟩
  · rw [List.nodup_append]
    exact ⟨t.walk.nd, by simp, fun x hx y hy z => h2 (by rw [← List.mem_singleton.mp hy, ← z]; exact hx)⟩
  · rcases hm x hx with q | q
    · exact t.walk.rc x q
    · rw [q]
      exact .step (t.walk.rc _ (List.mem_of_getElem? t.at_)) t.mem hcm h1
  · rcases hm x hx with q | q
    · exact t.walk.src x q
    · rw [q]
      exact .inr (mem_allC t.mem hcm)
  · have hl : j < ws.length := Nat.lt_trans hj (List.getElem?_eq_some_iff.mp t.at_).1
    rw [List.getElem?_append_left hl] at hn
    exact List.mem_append_left _ (t.walk.done j n ds hj hn hd x hx hxn)
  · rcases Nat.lt_or_eq_of_le (Nat.le_of_lt_succ hj) with q | q
    · exact List.mem_append_left _ (t.seen j d q hd hn)
    · rw [q, hc] at hd
      cases hd
      exact List.mem_append_right _ List.mem_cons_self
theorem Turn.end_ {fs : Fields} {s : Cell} {ws : List Cell} {i k : Nat} {m : Int} {cs : List Cell} (hnd : (fs.map (·.1)).Nodup) (t : Turn fs s ws i m cs k) (hk : cs.length ≤ k) : Walk fs s ws (i + 1) :=
  ⟨t.walk.head, t.walk.nd, t.walk.rc, t.walk.src, fun j n ds hj hn hd c hc hcn => by
    rcases Nat.lt_or_eq_of_le (Nat.le_of_lt_succ hj) with q | q
    · exact t.walk.done j n ds q hn hd c hc hcn
    · rw [q, t.at_] at hn
      cases hn
      rw [cellsOf_nd hnd hd t.mem] at hc
      obtain ⟨l, hl⟩ := List.mem_iff_getElem?.mp hc
      exact t.seen l c (Nat.lt_of_lt_of_le (List.getElem?_eq_some_iff.mp hl).1 hk) hl hcn⟩
/-- an item that is no object of the site -/
theorem Walk.pass {fs : Fields} {s : Cell} {ws : List Cell} {i : Nat} {c : Cell} (w : Walk fs s ws i) (h : ws[i]? = some c) (hc : ∀ m, c = .obj m → ¬ IsKey fs m) : Walk fs s ws (i + 1) :=
  ⟨w.head, w.nd, w.rc, w.src, fun j n ds hj hn hd c' hc' hcn => by
    rcases Nat.lt_or_eq_of_le (Nat.le_of_lt_succ hj) with q | q
    · exact w.done j n ds q hn hd c' hc' hcn
    · rw [q, h] at hn
      cases hn
      exact absurd ⟨ds, hd⟩ (hc n rfl)⟩
/-! ### the answer -/
def objF (fs : Fields) : Cell → Option Int
  | .obj n => if (cellsOf fs n).isSome then some n else none
  | _ => none
def refF : Cell → Option (Int × Int)
  | .far a b => some (a, b)
  | _ => none
def objsOf (fs : Fields) (ws : List Cell) : List Int := ws.filterMap (objF fs)
def refsOf (ws : List Cell) : List (Int × Int) := ws.filterMap refF
theorem cellsOf_some {fs : Fields} {n : Int} : (cellsOf fs n).isSome = true ↔ IsKey fs n := by
  constructor
  · intro h
    unfold cellsOf at h
    rw [Option.isSome_map, List.find?_isSome] at h
    obtain ⟨p, hp, e⟩ := h
    exact ⟨p.2, by rw [← beq_iff_eq.mp e]; exact hp⟩
  · intro h
    cases e : cellsOf fs n with
    | none => exact absurd h (cellsOf_none e)
    | some _ => rfl
theorem objF_eq {fs : Fields} {c : Cell} {n : Int} : objF fs c = some n ↔ c = .obj n ∧ IsKey fs n := by
  cases c with
  | non => exact ⟨fun h => (nomatch h), fun h => (nomatch h.1)⟩
  | far a b => exact ⟨fun h => (nomatch h), fun h => (nomatch h.1)⟩
  | obj m =>
    unfold objF
    dsimp only
    split
    · rename_i h
      constructor
      · intro e
        cases e
        exact ⟨rfl, cellsOf_some.mp h⟩
      · rintro ⟨e, _⟩
        cases e
        rfl
    · rename_i h
      refine ⟨fun e => (nomatch e), fun ⟨e, k⟩ => ?_⟩
      cases e
      exact absurd (cellsOf_some.mpr k) h
theorem refF_eq {c : Cell} {r : Int × Int} : refF c = some r ↔ c = .far r.1 r.2 := by
  cases c with
  | non => exact ⟨fun h => (nomatch h), fun h => (nomatch h)⟩
  | obj a => exact ⟨fun h => (nomatch h), fun h => (nomatch h)⟩
  | far a b =>
    constructor
    · intro e
      cases e
      rfl
    · intro e
      cases e
      rfl
theorem mem_objs {fs : Fields} {ws : List Cell} {n : Int} : n ∈ objsOf fs ws ↔ Cell.obj n ∈ ws ∧ IsKey fs n := by
  unfold objsOf
  rw [List.mem_filterMap]
  constructor
  · rintro ⟨c, hc, e⟩
    obtain ⟨rfl, k⟩ := objF_eq.mp e
    exact ⟨hc, k⟩
  · rintro ⟨hc, k⟩
    exact ⟨_, hc, objF_eq.mpr ⟨rfl, k⟩⟩
theorem mem_refs {ws : List Cell} {r : Int × Int} : r ∈ refsOf ws ↔ Cell.far r.1 r.2 ∈ ws := by
  unfold refsOf
  rw [List.mem_filterMap]
  constructor
  · rintro ⟨c, hc, e⟩
    rw [← refF_eq.mp e]
    exact hc
  · intro hc
    exact ⟨_, hc, refF_eq.mpr rfl⟩
theorem nd_objs {fs : Fields} {ws : List Cell} (h : ws.Nodup) : (objsOf fs ws).Nodup :=
  List.Pairwise.filterMap (S := fun x y => x ≠ y) (objF fs) (fun a a' (ha : a ≠ a') b hb b' hb' e => ha (by rw [(objF_eq.mp hb).1, (objF_eq.mp hb').1, e])) h
theorem nd_refs {ws : List Cell} (h : ws.Nodup) : (refsOf ws).Nodup :=
  List.Pairwise.filterMap (S := fun x y => x ≠ y) refF (fun a a' (ha : a ≠ a') b hb b' hb' e => ha (by rw [refF_eq.mp hb, refF_eq.mp hb', e])) h
theorem take_fm {α β : Type} (f : α → Option β) {ws : List α} {j : Nat} {c : α} (h : ws[j]? = some c) : (ws.take (j + 1)).filterMap f = (ws.take j).filterMap f ++ (f c).toList := by
  rw [List.take_add_one, h, List.filterMap_append]
  show _ ++ List.filterMap f [c] = _
  rw [List.filterMap_cons]
  cases f c <;> rfl
/-- two lists that rise and have the same items are one -/
theorem strict_eq {α : Type} {lt : α → α → Prop} (irr : ∀ x, ¬ lt x x) (asy : ∀ x y, lt x y → ¬ lt y x) : ∀ {l m : List α}, l.Pairwise lt → m.Pairwise lt → (∀ x, x ∈ l ↔ x ∈ m) → l = m
  | [], [], _, _, _ => rfl
  | [], y :: m, _, _, h => absurd ((h y).mpr List.mem_cons_self) (fun z => nomatch z)
  | x :: l, [], _, _, h => absurd ((h x).mp List.mem_cons_self) (fun z => nomatch z)
  | x :: l, y :: m, hl, hm, h => by
    rw [List.pairwise_cons] at hl hm
    have e : x = y := by
      rcases List.mem_cons.mp ((h x).mp List.mem_cons_self) with e | e
      · exact e
      · rcases List.mem_cons.mp ((h y).mpr List.mem_cons_self) with e2 | e2
        · exact e2.symm
        · exact absurd (hm.1 x e) (asy _ _ (hl.1 y e2))
    subst e
    rw [strict_eq irr asy hl.2 hm.2 fun z => ?_]
    constructor
    · intro hz
      rcases List.mem_cons.mp ((h z).mp (List.mem_cons_of_mem _ hz)) with e | e
      · subst e
        exact absurd (hl.1 z hz) (irr z)
      · exact e
    · intro hz
      rcases List.mem_cons.mp ((h z).mpr (List.mem_cons_of_mem _ hz)) with e | e
      · subst e
        exact absurd (hm.1 z hz) (irr z)
      · exact e
def lx (a b : Int × Int) : Prop := SrtO.lexB a b = true
theorem lx_irr (x : Int × Int) : ¬ lx x x := fun h => by
  have := SrtO.lexB_iff.mp h
  omega
theorem lx_asy (x y : Int × Int) (h : lx x y) : ¬ lx y x := fun h' => by
  have h1 := SrtO.lexB_iff.mp h
  have h2 := SrtO.lexB_iff.mp h'
  omega
/-- ascending, and no two alike: it rises -/
theorem rise_of {l : List Int} (h : l.Pairwise (· ≤ ·)) (n : l.Nodup) : l.Pairwise (· < ·) :=
  (List.pairwise_and_iff.mpr ⟨h, n⟩).imp fun ⟨a, b⟩ => by omega
theorem riseP_of {l : List (Int × Int)} (h : l.Pairwise fun x y => SrtO.lexB y x = false) (n : l.Nodup) : l.Pairwise lx :=
  (List.pairwise_and_iff.mpr ⟨h, n⟩).imp fun {a b} ⟨h1, h2⟩ => by
    refine SrtO.lexB_iff.mpr ?_
    have h3 := SrtO.lexB_no.mp h1
    by_cases e1 : a.1 = b.1
    · by_cases e2 : a.2 = b.2
      · exact absurd (Prod.ext e1 e2) h2
      · omega
    · omega
theorem perm_nd {α : Type} {l m : List α} (p : l.Perm m) (h : m.Nodup) : l.Nodup := (List.Perm.nodup_iff p).mpr h
abbrev RVs (H : Hp) : List (Int × Int) → List V → Prop := Paired fun r v => CV H (.far r.1 r.2) v
theorem RVs.tl {H H' : Hp} (t : TL H H') {rs : List (Int × Int)} {vs : List V} (h : RVs H rs vs) : RVs H' rs vs := Paired.mapP h fun _ _ q => q.tl t
/-- what reach answers, and the law's own walk: a new pair of new lists -/
structure Ans (H H' : Hp) (p : Addr) (fs : Fields) (s : Cell) (l1 l2 : Addr) (ns : List Int) (rs : List (Int × Int)) (bs : List V) : Prop where
  pt : H' p = some (.tup [.ref l1, .ref l2])
  h1 : H' l1 = some (.lst (ns.map V.int))
  h2 : H' l2 = some (.lst bs)
  rv : RVs H' rs bs
  np : H p = none
  n1 : H l1 = none
  n2 : H l2 = none
  n12 : l1 ≠ l2
  o1 : ns.Pairwise (· < ·)
  o2 : rs.Pairwise lx
  m1 : ∀ n, n ∈ ns ↔ RC fs s (.obj n) ∧ IsKey fs n
  m2 : ∀ r, r ∈ rs ↔ RC fs s (.far r.1 r.2)
theorem RC.src {fs : Fields} {s c : Cell} (h : RC fs s c) : c = s ∨ c ∈ allC fs := by
  cases h with
  | here => exact .inl rfl
  | step _ h2 h3 _ => exact .inr (mem_allC h2 h3)
theorem Ans.len1 {H H' : Hp} {p l1 l2 : Addr} {fs : Fields} {s : Cell} {ns : List Int} {rs : List (Int × Int)} {bs : List V} (A : Ans H H' p fs s l1 l2 ns rs bs) : ns.length ≤ fs.length := by
  have h := nd_len (l := ns) (m := fs.map (·.1)) (A.o1.imp fun h => by omega) fun n hn => isKey_iff.mp ((A.m1 n).mp hn).2
  rw [List.length_map] at h
  exact h
theorem Ans.len2 {H H' : Hp} {p l1 l2 : Addr} {fs : Fields} {s : Cell} {ns : List Int} {rs : List (Int × Int)} {bs : List V} {k : Nat} (A : Ans H H' p fs s l1 l2 ns rs bs) (w : ∀ q ∈ fs, q.2.length ≤ k) : rs.length ≤ k * fs.length + 1 := by
  have h := nd_len (l := rs.map fun r => Cell.far r.1 r.2) (m := s :: allC fs) ?_ fun c hc => by
    obtain ⟨r, hr, rfl⟩ := List.mem_map.mp hc
    rcases ((A.m2 r).mp hr).src with e | e
    · rw [e]; exact List.mem_cons_self
    · exact List.mem_cons_of_mem _ e
  · rw [List.length_map, List.length_cons] at h
    have := allC_len w
    omega
  · refine List.Pairwise.map _ (fun a b (h : lx a b) e => ?_) A.o2
    injection e with e1 e2
    have : a = b := Prod.ext e1 e2
    subst this
    exact lx_irr a h
theorem Ans.same {H H' H1 H1' : Hp} {p l1 l2 p' l1' l2' : Addr} {fs : Fields} {s : Cell} {ns ns' : List Int} {rs rs' : List (Int × Int)} {bs bs' : List V} (A : Ans H H' p fs s l1 l2 ns rs bs)
    (B : Ans H1 H1' p' fs s l1' l2' ns' rs' bs') : ns = ns' ∧ rs = rs' :=
  ⟨strict_eq (fun x h => by omega) (fun x y h h' => by omega) A.o1 B.o1 fun n => (A.m1 n).trans (B.m1 n).symm, strict_eq lx_irr lx_asy A.o2 B.o2 fun r => (A.m2 r).trans (B.m2 r).symm⟩
/-- the pair at a reference -/
def pairAt (H : Hp) : V → Int × Int
  | .ref t => match H t with
    | some (.tup [.int a, .int b]) => (a, b)
    | _ => (0, 0)
  | _ => (0, 0)
theorem pairAt_of {H : Hp} {r : Int × Int} {v : V} (h : CV H (.far r.1 r.2) v) : pairAt H v = r := by
  obtain ⟨t, rfl, e⟩ := h
  unfold pairAt
  simp only [e]
theorem RVs.pair {H : Hp} {rs : List (Int × Int)} {vs : List V} (h : RVs H rs vs) : vs.map (pairAt H) = rs := by
  induction h with
  | nil => rfl
  | cons q _ ih => rw [List.map_cons, ih, pairAt_of q]
theorem RVs.at_ {H : Hp} {rs : List (Int × Int)} {vs : List V} (h : RVs H rs vs) : ∀ v ∈ vs, ∃ t, v = V.ref t ∧ H t = some (.tup [.int (pairAt H v).1, .int (pairAt H v).2]) := by
  intro v hv
  obtain ⟨j, hj⟩ := List.mem_iff_getElem?.mp hv
  obtain ⟨r, _, q⟩ := pr_r h hj
  rw [pairAt_of q]
  exact q
theorem RVs.of {H : Hp} : ∀ {vs : List V}, (∀ v ∈ vs, ∃ t, v = V.ref t ∧ H t = some (.tup [.int (pairAt H v).1, .int (pairAt H v).2])) → RVs H (vs.map (pairAt H)) vs
  | [], _ => .nil
  | v :: vs, h => .cons (h v List.mem_cons_self) (RVs.of fun u hu => h u (List.mem_cons_of_mem _ hu))
end Ce

/-! sorted(d), any number of keys: ints, or pairs of ints -/
namespace SrtDi
open PySem PySem.Spec PyProof.Rows L2 Ce
section
variable {X : Cx} {pins : List (Addr × Obj)} {σ : L2.St} {H : Hp} {s : Shared}
/-- what is collected is laid as a list and sorted -/
theorem finish {d : Addr} {acc : List Value} {h' : Heap} {tk : Nat} {lt : Value → Value → Bool} {Q : VK} {E : Value → Shared → Prop} (I : Inv X pins σ H { s with heap := h', toks := tk }) (O : SrtO.Swo lt) (hz : acc.length ≤ sizeLine)
    (hs : 2 ≤ acc.length → ∀ h2 : Heap, h2.get? h'.objs.size = some (seqObj "list" acc.toArray 0) → (∀ b o, h'.get? b = some o → h2.get? b = some o) → SrtO.SortableO X.prog X.w X.A.in1.in1 { s with heap := h2, toks := tk } h'.objs.size acc lt)
    (q : ∀ (out : List Value), SrtO.Srtd lt out → SrtO.Stb lt out acc → ∀ p, H p = none → ∃ ys, Vals ys out ∧ Q (.ref p) (upd H p (.lst ys))) :
    wpAny (model X.prog X.w) X.A.in1 (do let l ← newList acc; let _ ← holding [l] (call (.builtin "list.sort") [l] []); (pure (.done (.ret l)) : Sem PySem.Fin)) (fun fin s' => ∃ v, fin = .done (.ret v) ∧ EP X pins σ Q v s') E { s with heap := h', toks := tk } := by
  refine wpAny_bind (wpAny_newList ?_ hz)
  have at0 : (h'.push (seqObj "list" acc.toArray 0)).get? h'.objs.size = some (seqObj "list" acc.toArray 0) := Heap.get?_push_size _ rfl
  have up : ∀ b o, h'.get? b = some o → (h'.push (seqObj "list" acc.toArray 0)).get? b = some o := fun b o e => Heap.get?_push_of_some _ e
  show wpAny _ _ _ _ _ { s with heap := h'.push (seqObj "list" acc.toArray 0), toks := tk }
  refine wpAny_bind (wpAny_holding (wpAny_call_entry PyProof.Rows.slot_list_sort ⟨_, at0, rfl⟩ PyProof.Rows.entry_list_sort
    (SrtO.list_sort_ord O at0 hz (fun h2 => hs h2 _ at0 up) fun out g1 g2 => ⟨_, rfl, ?_⟩) (PyProof.Rows.args_list_sort _)))
  obtain ⟨ep, hat⟩ := PyProof.Rows.sortedHeap_at (vs := acc) (out := out.toArray) at0
  obtain ⟨ys, rv, qq⟩ := q out g1 g2 _ (I.hok.fresh (Nat.le_refl _))
  have lo : ys.length ≤ sizeLine := by
    rw [rv.length, g2.len]
    exact hz
  refine wpAny_pure ⟨_, rfl, .ref h'.objs.size, upd H h'.objs.size (.lst ys), I.laid (t' := tk) (fun b u e => ?_) (Nat.le_refl _) (show ObjOk X.prog X.w _ _ _ (.lst ys) from ⟨lo, out, ep, rv, hat⟩), rfl, qq⟩
  have lb : b < h'.objs.size := Heap.lt_size e
  exact (PyProof.Rows.sortedHeap_old (Nat.ne_of_lt lb) (by rw [size_push']; exact Nat.lt_succ_of_lt lb)).trans (up b u e)
/-- sorted(d), ints as keys -/
def rSortDK : List V → Hp → VK → Prop := fun xs H Q => ∃ (a : Addr) (kvs : List (Key × V)) (ks : List Int), xs = [.ref a] ∧ H a = some (.dK kvs) ∧ kvs.map (·.1) = ks.map Sum.inl ∧
  ∀ (ys : List Int) (p : Addr), ys.Perm ks → ys.Pairwise (· ≤ ·) → H p = none → Q (.ref p) (upd H p (.lst (ys.map V.int)))
theorem call_sortedDK (hc : X.calm = true) : CallR X (.builtin "sorted") rSortDK := by
  intro pins s σ H xs us Q I r ⟨a, kvs, ks, ex, hd, hks, q⟩
  subst ex
  obtain ⟨u, eu, rx⟩ := vals1 r
  subst eu
  cases rx
  obtain ⟨hz, lo, vs, rel, dd⟩ := I.hok a _ hd
  obtain ⟨ep, hat⟩ := dd.dictAt
  have hkeys : vs.map (·.1) = ks.map Sum.inl := (KV.keys rel).symm.trans hks
  have hl : vs.length = ks.length := by
    have e := congrArg List.length hkeys
    rwa [List.length_map, List.length_map] at e
  have hz2 : vs.length ≤ sizeLine := by
    have e := Paired.length rel
    omega
  refine Calls.call_function_entry PyProof.Rows.kind_sorted PyProof.Rows.plain_sorted PyProof.Rows.entry_sorted (PyProof.Rows.args_sorted1 _) ?_
  unfold Builtin.«sorted»
  refine wpAny_bind (m := checkCount "sorted" 1 1 _) (wpAny_pure ?_)
  refine wpAny_bind (PySem.W.kdu_collect (A := X.A.in1) (PySem.W.kdl_dict (knd := mixKind X.prog X.w) (kvs := vs) (ep := ep) lo) (I.ok.hd hc) hat hz2 fun h' tk acc hk hacc => ?_)
  have hal : acc.toList.length = ks.length := by rw [Array.length_toList, hacc.1, hl]
  have hS : IntsAre acc.toList ks := ints_each hal fun j v e => by
    obtain ⟨k, x, e1, e2⟩ := hacc.2 j v (by rw [← Array.getElem?_toList]; exact e)
    have e3 : (vs.map (·.1))[j]? = some k := by rw [List.getElem?_map, e1]; rfl
    rw [hkeys, List.getElem?_map] at e3
    obtain ⟨y, e4, e5⟩ := Option.map_eq_some_iff.mp e3
    subst e5
    rcases keyIs_shape (show keyIs (Sum.inl y) v = true from e2) with ⟨i, t, ek, ev⟩ | ⟨z, t, ek, ev⟩
    · cases ek
      exact ⟨y, t, e4, ev⟩
    · cases ek
  refine finish (d := a) (I.kept hk) SrtO.swo_int (by omega) (fun h2 h3 _ _ => SrtO.ints_sortable hS h2) fun out g1 g2 p hp => ?_
  obtain ⟨k1, k2, k3⟩ := SrtO.ints_out hS g1 g2
  exact ⟨_, vals_of_ints k1, q _ p k2 k3 hp⟩
/-- sorted(d), pairs of ints as keys -/
def rSortDT : List V → Hp → VK → Prop := fun xs H Q => ∃ (a : Addr) (kvs : List (List Key × V)), xs = [.ref a] ∧ H a = some (.dT kvs) ∧ (∀ p ∈ kvs, ∃ i j, p.1 = [Sum.inl i, Sum.inl j]) ∧
  ∀ (bs : List Addr) (ys : List V) (p : Addr), IsKeys H kvs bs → SrtO.Srtd (ltP (pairAt H)) ys → SrtO.Stb (ltP (pairAt H)) ys (bs.map V.ref) → H p = none → Q (.ref p) (upd H p (.lst ys))
theorem call_sortedDT (hc : X.calm = true) : CallR X (.builtin "sorted") rSortDT := by
  intro pins s σ H xs us Q I r ⟨a, kvs, ex, hd, hks, q⟩
  subst ex
  obtain ⟨u, eu, rx⟩ := vals1 r
  subst eu
  cases rx
  obtain ⟨hz, h0, ks, pr, o, es, ep, ho, hx, hdt, hes, hn⟩ := (show ObjOk X.prog X.w H s.heap a (.dT kvs) from I.hok a _ hd)
  have raw : s.heap.DictRaw a es ep := ⟨o, ho, hx, hdt⟩
  have l1 : es.size = ks.length := size_of_entries hes
  have l2 : kvs.length = ks.length := Paired.length pr
  refine Calls.call_function_entry PyProof.Rows.kind_sorted PyProof.Rows.plain_sorted PyProof.Rows.entry_sorted (PyProof.Rows.args_sorted1 _) ?_
  unfold Builtin.«sorted»
  refine wpAny_bind (m := checkCount "sorted" 1 1 _) (wpAny_pure ?_)
  refine wpAny_bind (PySem.W.kdu_collect (A := X.A.in1) (KdlSrc.rawDict (prog := X.prog) (w := X.w) (d := a) (es := es) (ep := ep) h0) (I.ok.hd hc) raw (by omega) fun h' tk acc hk hacc => ?_)
  have eacc : acc.toList = (ks.map fun x => x.2.1).map Value.ref := by
    refine List.ext_getElem? fun j => ?_
    rw [List.getElem?_map, List.getElem?_map]
    have hsz : acc.toList.length = ks.length := Array.length_toList.trans (hacc.1.trans l1)
    cases hj : acc.toList[j]? with
    | none =>
      have := List.getElem?_eq_none_iff.mp hj
      rw [List.getElem?_eq_none (by omega)]
      rfl
    | some v =>
      obtain ⟨hi, ev⟩ := hacc.2 j v (by rw [← Array.getElem?_toList]; exact hj)
      have en := entry_at hes j
      rw [Array.getElem?_eq_getElem hi] at en
      obtain ⟨b, hb, eb⟩ := Option.map_eq_some_iff.mp en.symm
      rw [hb, ev, ← eb]
      rfl
  have I2 : Inv X pins σ H { s with heap := h', toks := tk } := I.kept hk
  have ik := isKeys_of pr
  have pairs : ∀ v ∈ acc.toList, Srt.IsPair h' v (pairAt H (backV v)).1 (pairAt H (backV v)).2 := fun v hv => by
    rw [eacc] at hv
    obtain ⟨t, ht, rfl⟩ := List.mem_map.mp hv
    obtain ⟨x, hxm, rfl⟩ := List.mem_map.mp ht
    obtain ⟨jj, hj⟩ := List.mem_iff_getElem?.mp hxm
    obtain ⟨p, hp, fp⟩ := pr_r pr hj
    obtain ⟨f1, f2, _⟩ := fp
    obtain ⟨i, j, e⟩ := hks p (List.mem_of_getElem? hp)
    rw [e] at f2
    have f3 : H x.2.1 = some (.tup [.int i, .int j]) := f2
    have e2 : pairAt H (backV (.ref x.2.1)) = (i, j) := pairAt_of (r := (i, j)) ⟨_, rfl, f3⟩
    obtain ⟨_, its2, r2, o2, ho2, hc2, n2, hd2⟩ := I2.hok _ _ f3
    obtain ⟨u1, u2, rfl, ri, rj⟩ := vals2 r2
    obtain ⟨t1, rfl⟩ := ri
    obtain ⟨t2, rfl⟩ := rj
    rw [e2]
    exact ⟨_, o2, t1, t2, n2, rfl, ho2, hc2, hd2⟩
  have isref : ∀ v ∈ acc.toList, ∃ b, v = Value.ref b := fun v hv => by
    rw [eacc] at hv
    obtain ⟨t, _, rfl⟩ := List.mem_map.mp hv
    exact ⟨t, rfl⟩
  refine finish (d := a) I2 (SrtO.swo_lex fun u => pairAt H (backV u)) (by rw [eacc, List.length_map, List.length_map]; omega) (fun h2 h3 e3 kp => SrtO.pairs_sortableO (s := { s with heap := h3, toks := tk }) (by omega) (fun v hv => (pairs v hv).keeps fun b o e _ => kp b o e) fun o e => ?_) fun out g1 g2 p hp => ?_
  · have e' : some o = some (seqObj "list" acc.toList.toArray 0) := e.symm.trans e3
    cases e'
    intro c
    exact absurd (Value.type.inj c) (by decide)
  · have h3 : ∀ u ∈ out, ∃ a, u = Value.ref a := fun u hu => isref u (g2.perm.mem_iff.mp hu)
    refine ⟨out.map backV, vals_back h3, q _ _ p ik (SrtO.srtd_map g1) ?_ hp⟩
    have e5 : acc.toList.map backV = (ks.map fun x => x.2.1).map V.ref := by
      rw [eacc, List.map_map]
      rfl
    rw [← e5]
    exact SrtO.Stb.map (ltP_swo (pairAt H)) backV g2
end
end SrtDi

/-! dicts with tuples as keys: setdefault, del -/
namespace DTu
open PySem PySem.Spec PyProof.Rows L2
section
variable {X : Cx} {pins : List (Addr × Obj)} {σ : L2.St} {H : Hp} {s : Shared} {a b : Addr} {r : Value} {d : V} {k : List Key} {A : Around} {E : Value → Shared → Prop}
theorem dt_setd {kvs : List (List Key × V)} {Q : Value → Shared → Prop} (hu : A.units + 1 < cLine) (I : Inv X pins σ H s) (e : H a = some (.dT kvs)) (eb : H b = some (.tup (k.map kV))) (rd : RelV d r) (hl : kvs.length < sizeLine)
    (h1 : ∀ v, valV kvs k = some v → ∀ (w' : Value) (s' : Shared), Inv X pins σ H s' → RelV v w' → Q w' s') (h2 : valV kvs k = none → ∀ (w' : Value) (s' : Shared), Inv X pins σ (upd H a (.dT (putK kvs k d))) s' → RelV d w' → Q w' s') :
    wpAny (model X.prog X.w) A (call (.builtin "dict.setdefault") [.ref a, .ref b, r]) Q E s := by
  obtain ⟨z, lo, xs, rel, dd⟩ := dt_of I.hok e
  have hz : xs.length ≤ sizeLine := by
    rw [← Paired.length rel]
    exact z
  have q := rel.val k
  refine call_setdefault_heap (hsz := hz) (tupleKind_room_in1 hu) (key_of I.hok eb) lo dd (fun p hp => ?_) fun hn h' dd' hs => ?_
  · rw [hp] at q
    cases q0 : valV kvs k with
    | none =>
      rw [q0] at q
      exact (show False from q).elim
    | some v0 =>
      rw [q0] at q
      exact h1 v0 q0 _ _ (I.tok _) q
  · rw [hn] at q
    cases q0 : valV kvs k with
    | some v0 =>
      rw [q0] at q
      exact (show False from q).elim
    | none =>
      have hl2 : (putK kvs k d).length ≤ sizeLine := by
        have := length_putK kvs k d
        omega
      obtain ⟨o, es, ep, ho, g2, g3, g4, _, g5⟩ := dd'
      refine h2 q0 _ _ (d_write (t' := s.toks + _) I (by rw [e]; exact True.intro) hs ⟨o, ho⟩ ⟨hl2, lo, _, (rel.put k eb rd).keeps fun c ys ec => ?_, o, es, ep, ho, g2, g3, g4, g5⟩) rd
      rw [upd_ne (ne_of ec e (fun z => nomatch z))]
      exact ec
/-- d.setdefault(y, z), d with tuples as keys -/
def tDSetdT (td ty tx : TE) : TE := fun σ H Q => td σ H fun x H1 => ∃ a, x = .ref a ∧ IsD H1 a ∧ ty σ H1 fun y H2 => tx σ H2 fun z H3 => ∃ (kvs : List (List Key × V)) (k : List Key) (b : Addr), H3 a = some (.dT kvs) ∧ y = .ref b ∧ H3 b = some (.tup (k.map kV)) ∧ kvs.length < sizeLine ∧
  (∀ v, valV kvs k = some v → Q v H3) ∧ (valV kvs k = none → Q z (upd H3 a (.dT (putK kvs k z))))
variable {o e f : Expr} {td ty tx : TE} {apos cpos : Pos}
theorem pe_dsetdT (hu : X.A.units + 1 < cLine) (ho : PE X o td) (he : PE X e ty) (hf : PE X f tx) (m : M2 X o "setdefault" apos e f cpos) : PE X (.Call (.Attribute o "setdefault" apos) [e, f] [] cpos) (tDSetdT td ty tx) := by
  refine ⟨fun pins s σ H Q I h => ?_⟩
  refine wpAny_Call_method m.base m.few m.line PySem.F.plainAttrs_dict PySem.F.slot_dict_setdefault PySem.F.type_dict_setdefault (thn (ho.run pins s σ H _ I h) fun u s1 ⟨x, H1, I1, rx, a, ex, d, q1⟩ => ?_)
  subst ex
  obtain rfl : u = Value.ref a := rx
  have at1 := isD_at I1 d
  refine ⟨at1.1, at1.2.1, ?_⟩
  rw [m.trees]
  refine Calls.callWith_builtin rfl (Calls.evalArgs_plain (Calls.spliced_cons (thn (he.run pins s1 σ H1 _ I1 q1) fun iv s2 ⟨y, H2, I2, ry, q2⟩ =>
    Calls.spliced_cons (thn (hf.run pins s2 σ H2 _ I2 q2) fun fv s3 ⟨z, H3, I3, rz, kvs, k, b, ea, ey, eb, hl, q3, q4⟩ => Calls.spliced_nil ?_))))
  subst ey
  obtain rfl : iv = Value.ref b := ry
  exact dt_setd hu I3 ea eb rz hl (fun v hv w' s4 I4 rw' => ⟨v, _, I4, rw', q3 v hv⟩) fun hn w' s4 I4 rw' => ⟨z, _, I4, rw', q4 hn⟩
end
end DTu

/-! xs.extend(t), t a tuple -/
namespace ExT
open PySem PySem.Spec PyProof.Rows L2
theorem extend_tup {prog : Program} {w : World} {A : Around} {E : Value → Shared → Prop} {s : Shared} {l t : Addr} {its its2 : List Value} {n : Nat} {Q : Value → Shared → Prop} (e : s.heap.get? l = some (seqObj "list" its.toArray n)) (ht : IsTup s.heap t its2.toArray) (hz : its.length + its2.length ≤ sizeLine)
    (h : Q .none { s with heap := s.heap.update l (Obj.mapSeq (· ++ its2.toArray)) }) : wpAny (model prog w) A (call (.builtin "list.extend") [.ref l, .ref t]) Q E s := by
  obtain ⟨o, ho, hc, m, hd⟩ := ht
  refine wpAny_call_entry PySem.F.slot_list_extend ⟨_, e, rfl⟩ PySem.F.entry_list_extend ?_ (PySem.F.args_list_extend_2 _ _)
  show wpAny _ A.in1 (Builtin.List.listExtendWith (.ref l) (.ref t) .none) _ _ s
  unfold Builtin.List.listExtendWith
  refine wpAny_bind (wpAny_typeOf ⟨o, ho, hc⟩ ?_)
  have h1 : (Builtin.List.listSameRef (.ref l) (.ref t) || Value.type "tuple" == Value.type "list" || Value.type "tuple" == Value.type "tuple") = true := by simp
  simp only [h1, if_true]
  unfold Builtin.List.listItems
  refine wpAny_bind (wpAny_bind (wpAny_seqItems ho hd (wpAny_pure ?_)))
  refine wpAny_bind (wpAny_bind (wpAny_seqItems e rfl (wpAny_pure ?_)))
  have h2 : (!its.toArray.isEmpty && Builtin.List.listTooLong (its.toArray.size + its2.toArray.size)) = false := by
    rw [notLongL (by rw [List.size_toArray, List.size_toArray]; exact hz), Bool.and_false]
  rw [h2]
  refine wpAny_bind (listUpdate_at e rfl ?_ (by rw [List.size_toArray]; omega) (by rw [Array.size_append, List.size_toArray, List.size_toArray]; omega))
  exact wpAny_bind (wpAny_pure (wpAny_pure ⟨_, rfl, h⟩))
def rExtT (K : PySem.W.Frag) : V → List V → Hp → VK → Prop := fun x vs H Q => ∃ l b xs zs, x = .ref l ∧ vs = [.ref b] ∧ H l = some (.lst xs) ∧ SqT K H b zs ∧ xs.length + zs.length ≤ sizeLine ∧ Q .non (upd H l (.lst (xs ++ zs)))
theorem mt_extendT {X : Cx} {K : PySem.W.Frag} (hK : X.K = K) : MtM X "list.extend" (rExtT K) := by
  subst hK
  intro pins s σ H x vs v us Q I rx rv h
  obtain ⟨l, b, xs, zs, rfl, rfl, hH, hB, hz, q⟩ := h
  cases rx
  obtain ⟨u, rfl, ru⟩ := rv.one
  cases ru
  obtain ⟨z, its, n, r, hl, e⟩ := I.lstM hH
  obtain ⟨its2, r2, ht, z2⟩ := I.tuple hB
  have l2 := r2.length
  refine extend_tup e ht (by omega) ⟨.non, _, I.lset (its' := its ++ its2) hH e (by simp) (r.append r2) ?_, rfl, q⟩
  rw [List.length_append]
  omega
end ExT

/-! A dict whose keys are ints and tuples, both: where a key stands, what is there, what is stored. -/
namespace Mix
open PySem PySem.Spec PyProof.Rows L2
/-- a key: an int, or a tuple of ints and texts -/
abbrev MK := Sum Int (List L2.Key)
section
variable (P : Program) (w : World)
def mH : MK → Int
  | .inl i => hashInt i
  | .inr ks => (tupleKind (mixKind P w)).hash ks
def mIs (h : Heap) : MK → Value → Prop
  | .inl i, v => ∃ t, v = Value.int i t
  | .inr ks, v => ∃ b, v = Value.ref b ∧ (tupleKind (mixKind P w)).is h ks b
def Ent (h : Heap) (k : MK) (e : DictEntry) : Prop := e.hash = mH P w k ∧ mIs P w h k e.key
end
section
variable {P : Program} {w : World} {A : Around} {E : Value → Shared → Prop} {s : Shared}
theorem mIs_inj {h : Heap} {v : Value} : ∀ {k l : MK}, mIs P w h k v → mIs P w h l v → k = l
  | .inl i, .inl j, ⟨t, a⟩, ⟨u, b⟩ => by rw [a] at b; injection b with b1 _; rw [b1]
  | .inl i, .inr ks, ⟨t, a⟩, ⟨b, c, _⟩ => by rw [a] at c; cases c
  | .inr ks, .inl j, ⟨b, c, _⟩, ⟨t, a⟩ => by rw [a] at c; cases c
  | .inr ks, .inr ls, ⟨b, c, d⟩, ⟨b', c', d'⟩ => by
    rw [c] at c'
    injection c' with e
    subst e
    rw [(tupleKind (mixKind P w)).inj d d']
theorem m_hash {k : MK} {v : Value} {Q : Int → Shared → Prop} (hu : A.units < cLine) (hk : mIs P w s.heap k v) (h : ∀ t, Q (mH P w k) { s with toks := t }) :
    wpAny (model P w) A (PySem.pyHash v) Q E s := by
  cases k with
  | inl i =>
    obtain ⟨t, rfl⟩ := hk
    exact wpAny_pyHash_int (h _)
  | inr ks =>
    obtain ⟨b, rfl, hb⟩ := hk
    exact (tupleKind (mixKind P w)).pyHash hu hb (h _)
theorem m_tup {h : Heap} {ks : List L2.Key} {b : Addr} (x : (tupleKind (mixKind P w)).is h ks b) : ∃ items, h.IsTuple b items := by
  obtain ⟨o, items, n, ho, hc, hd, hi⟩ := x
  exact ⟨items, o, ho, hc, n, hd⟩
theorem m_eq {k l : MK} {u v : Value} {Q : Bool → Shared → Prop} (hu : A.units < cLine) (hk : mIs P w s.heap k u) (hl : mIs P w s.heap l v) (h : Q (decide (k = l)) s) :
    wpAny (model P w) A (PySem.eqBool u v) Q E s := by
  cases k with
  | inl i =>
    obtain ⟨t, rfl⟩ := hk
    cases l with
    | inl j =>
      obtain ⟨u, rfl⟩ := hl
      have e : decide ((Sum.inl i : MK) = Sum.inl j) = (i == j) := by
        by_cases q : i = j
        · subst q; simp
        · rw [decide_eq_false fun z => q (Sum.inl.inj z)]; exact (beq_eq_false_iff_ne.mpr q).symm
      rw [e] at h
      exact wpAny_eqBool_int h
    | inr ls =>
      obtain ⟨b, rfl, hb⟩ := hl
      obtain ⟨items, hi⟩ := m_tup hb
      rw [decide_eq_false (fun z => nomatch z)] at h
      exact SeqAt.EqAt.int_tuple i t hi hu _ _ _ _ h
  | inr ks =>
    obtain ⟨b, rfl, hb⟩ := hk
    cases l with
    | inl j =>
      obtain ⟨u, rfl⟩ := hl
      obtain ⟨items, hi⟩ := m_tup hb
      rw [decide_eq_false (fun z => nomatch z)] at h
      exact SeqAt.EqAt.tuple_int j u hi hu _ _ _ _ h
    | inr ls =>
      obtain ⟨c, rfl, hc⟩ := hl
      have e : decide ((Sum.inr ks : MK) = Sum.inr ls) = decide (ks = ls) := by
        by_cases q : ks = ls
        · subst q; simp
        · rw [decide_eq_false q, decide_eq_false fun z => q (Sum.inr.inj z)]
      rw [e] at h
      exact (tupleKind (mixKind P w)).eqBool hu hb hc h
theorem m_quiet {k : MK} {v : Value} {Q : Bool → Shared → Prop} (hk : mIs P w s.heap k v) (h : Q true s) : wpAny (model P w) A (eqIsQuiet 8 v) Q E s := by
  cases k with
  | inl i =>
    obtain ⟨t, rfl⟩ := hk
    unfold eqIsQuiet
    exact wpAny_pure h
  | inr ks =>
    obtain ⟨b, rfl, hb⟩ := hk
    exact (tupleKind (mixKind P w)).quiet hb h
theorem m_tells {k : MK} {v : Value} {sto : List Value} {Q : Bool → Shared → Prop} (hk : mIs P w s.heap k v) (hs : ∀ u ∈ sto, ∃ l, mIs P w s.heap l u) (h : Q false s) :
    wpAny (model P w) A (tableMayTell v sto) Q E s := by
  unfold tableMayTell
  split
  · exact wpAny_pure h
  · refine wpAny_bind (m_quiet hk ?_)
    simp only [Bool.not_true, Bool.false_eq_true, if_false]
    refine wpAny_bind (wpAny_forIn_list _ (fun rest r s1 => s1 = s ∧ r = (none, ()) ∧ ∀ u ∈ rest, ∃ l, mIs P w s.heap l u) _ (fun x rest b s1 hI => ?_) (fun b s1 hI => ?_) _ _ ⟨rfl, rfl, hs⟩)
    · obtain ⟨e1, e2, hr⟩ := hI
      subst e1 e2
      obtain ⟨l, hl⟩ := hr x List.mem_cons_self
      refine wpAny_bind (m_quiet hl ?_)
      simp only [Bool.not_true, Bool.false_eq_true, if_false]
      exact wpAny_pure ⟨rfl, rfl, fun u hu => hr u (List.mem_cons_of_mem _ hu)⟩
    · obtain ⟨e1, e2, _⟩ := hI
      subst e1 e2
      exact wpAny_pure h
/-- the places with a hash -/
theorem pl_lt {n : Nat} {g : Nat → Option Int} {x : Int} {i : Nat} (h : i ∈ placesWithHash n g x) : i < n ∧ g i = some x := by
  unfold placesWithHash at h
  obtain ⟨a, b⟩ := List.mem_filter.mp h
  exact ⟨List.mem_range.mp a, by simpa using b⟩
theorem pl_nd {n : Nat} {g : Nat → Option Int} {x : Int} : (placesWithHash n g x).Nodup := by
  unfold placesWithHash
  exact List.Nodup.sublist List.filter_sublist List.nodup_range
theorem pl_mem {n : Nat} {g : Nat → Option Int} {x : Int} {i : Nat} (h : i < n) (e : g i = some x) : i ∈ placesWithHash n g x := by
  unfold placesWithHash
  exact List.mem_filter.mpr ⟨List.mem_range.mpr h, by simp [e]⟩
theorem pr_get {α β : Type} {F : α → β → Prop} : ∀ {l : List α} {m : List β} {j : Nat} {y : β}, Paired F l m → m[j]? = some y → ∃ x, l[j]? = some x ∧ F x y
  | _, _, _, _, .nil, e => by simp at e
  | _, _, 0, _, .cons r _, e => by simp at e; subst e; exact ⟨_, rfl, r⟩
  | _, _, j + 1, _, .cons _ t, e => by
    obtain ⟨x, h1, h2⟩ := pr_get t (by simpa using e)
    exact ⟨x, by simpa using h1, h2⟩
theorem pr_get' {α β : Type} {F : α → β → Prop} : ∀ {l : List α} {m : List β} {j : Nat} {x : α}, Paired F l m → l[j]? = some x → ∃ y, m[j]? = some y ∧ F x y
  | _, _, _, _, .nil, e => by simp at e
  | _, _, 0, _, .cons r _, e => by simp at e; subst e; exact ⟨_, rfl, r⟩
  | _, _, j + 1, _, .cons _ t, e => by
    obtain ⟨x, h1, h2⟩ := pr_get' t (by simpa using e)
    exact ⟨x, by simpa using h1, h2⟩
theorem nd_at {α : Type} : ∀ {l : List α} {i j : Nat} {x : α}, l.Nodup → l[i]? = some x → l[j]? = some x → i = j := by
  intro l i j x hn hi hj
  exact (List.getElem?_inj (List.getElem?_eq_some_iff.mp hi).1 hn).mp (hi.trans hj.symm)
/-- where a key stands -/
theorem m_find {d : Addr} {o : Obj} {es : Array DictEntry} {ep : Nat} {ks : List MK} {k : MK} {v : Value} {Q : Option Nat → Shared → Prop} (hu : A.units < cLine) (hk : mIs P w s.heap k v)
    (ho : s.heap.get? d = some o) (hd : o.data = .dict es ep) (hp : Paired (Ent P w s.heap) ks es.toList) (hn : ks.Nodup)
    (h0 : k ∉ ks → Q none s) (h1 : ∀ j : Nat, ks[j]? = some k → Q (some j) s) : wpAny (model P w) A (dictFind d v (mH P w k)) Q E s := by
  obtain ⟨pl, hpl⟩ : ∃ pl, pl = placesWithHash es.size (fun i => es[i]?.map (·.hash)) (mH P w k) := ⟨_, rfl⟩
  obtain ⟨sto, hsto⟩ : ∃ sto, sto = pl.filterMap (fun i => es[i]?.map (·.key)) := ⟨_, rfl⟩
  have ent : ∀ i, i ∈ pl → ∃ e l, es[i]? = some e ∧ ks[i]? = some l ∧ Ent P w s.heap l e ∧ e.hash = mH P w k := by
    intro i hi
    rw [hpl] at hi
    obtain ⟨a, b⟩ := pl_lt hi
    obtain ⟨e, he, heq⟩ := Option.map_eq_some_iff.mp b
    obtain ⟨l, hl, hE⟩ := pr_get (j := i) (y := e) hp (by rw [Array.getElem?_toList]; exact he)
    exact ⟨e, l, he, hl, hE, heq⟩
  have all : ∀ j, ks[j]? = some k → j ∈ pl := by
    intro j hj
    obtain ⟨e, he, hE⟩ := pr_get' hp hj
    rw [Array.getElem?_toList] at he
    rw [hpl]
    exact pl_mem (Array.getElem?_eq_some_iff.mp he).1 (by show es[j]?.map (·.hash) = _; rw [he]; exact congrArg some hE.1)
  have none_of : (∀ j, ks[j]? = some k → False) → k ∉ ks := fun q hm => by
    obtain ⟨j, hj⟩ := List.mem_iff_getElem?.mp hm
    exact q j hj
  have pnd : pl.Nodup := by rw [hpl]; exact pl_nd
  have hst : ∀ u ∈ sto, ∃ l, mIs P w s.heap l u := by
    intro u hu'
    rw [hsto] at hu'
    obtain ⟨i, hi, e⟩ := List.mem_filterMap.mp hu'
    obtain ⟨x, l, hx, _, hE, _⟩ := ent i hi
    rw [hx] at e
    obtain rfl : x.key = u := by simpa using e
    exact ⟨l, hE.2⟩
  have stale : ¬ (es.any fun e => e.key == v && e.hash != mH P w k) = true := by
    intro q
    rw [← Array.any_toList, List.any_eq_true] at q
    obtain ⟨e, he, hc⟩ := q
    obtain ⟨i, hi⟩ := List.mem_iff_getElem?.mp he
    obtain ⟨l, hl, hE⟩ := pr_get hp hi
    simp only [Bool.and_eq_true, beq_iff_eq, bne_iff_ne, ne_eq] at hc
    have hI := hE.2
    rw [hc.1] at hI
    rw [mIs_inj hk hI] at hc
    exact hc.2 hE.1
  -- the search over the places, a hit stops it at once
  have plain : wpAny (model P w) A (dictWalkPlain d v (mH P w k) es pl) Q E s := by
    unfold dictWalkPlain
    refine wpAny_bind (wpAny_forIn_list _ (fun rest r s1 => s1 = s ∧ r = (none, ()) ∧ (∀ i ∈ rest, i ∈ pl) ∧ ∀ j, ks[j]? = some k → j ∈ rest) _ (fun x rest b s1 hI => ?_) (fun b s1 hI => ?_) _ _ ⟨rfl, rfl, fun _ z => z, all⟩)
    · obtain ⟨e1, e2, hsub, hin⟩ := hI
      subst e1 e2
      obtain ⟨e, l, he, hl, hE, heq⟩ := ent x (hsub x List.mem_cons_self)
      simp only [he]
      rw [if_pos (by rw [heq]; exact beq_self_eq_true _)]
      refine wpAny_bind (wpAny_dictEpoch ho hd (wpAny_bind (m_eq hu hE.2 hk (wpAny_bind (wpAny_dictEpoch ho hd ?_)))))
      rw [if_neg (by simp)]
      by_cases q : l = k
      · rw [decide_eq_true q]
        subst q
        exact wpAny_bind (wpAny_rule (wpAny_pure (wpAny_pure (h1 x hl))))
      · rw [decide_eq_false q]
        refine wpAny_bind (wpAny_rule (wpAny_pure ⟨rfl, rfl, fun i hi => hsub i (List.mem_cons_of_mem _ hi), fun j hj => ?_⟩))
        rcases List.mem_cons.mp (hin j hj) with z | z
        · subst z
          rw [hl] at hj
          exact absurd (Option.some.inj hj) q
        · exact z
    · obtain ⟨e1, e2, _, hin⟩ := hI
      subst e1 e2
      exact wpAny_pure (h0 (none_of fun j hj => nomatch hin j hj))
  unfold dictFind
  try with_reducible refine wpAny_holding ?_
  refine wpAny_bind (wpAny_dictEntries ho hd ?_)
  cases k with
  | inl i =>
    have hk' := hk
    obtain ⟨t, rfl⟩ := hk'
    dsimp only
    rw [← hpl, ← hsto]
    by_cases c : ((Value.int i t :: sto).all carriedByValue) = true
    · rw [if_pos c]
      exact plain
    · rw [if_neg c]
      by_cases c2 : (sto == [Value.int i t]) = true
      · rw [if_pos c2]
        refine wpAny_bind (wpAny_pure ?_)
        rw [if_neg (by simp)]
        refine wpAny_bind (wpAny_forIn_list _ (fun rest b s1 => s1 = s ∧ ∃ hit, b = (none, hit) ∧ rest.Nodup ∧ (∀ i ∈ rest, i ∈ pl) ∧
          ((hit = none ∧ ∀ j, ks[j]? = some (Sum.inl i) → j ∈ rest) ∨ ∃ j, hit = some j ∧ ks[j]? = some (Sum.inl i) ∧ j ∉ rest)) _ (fun x rest b s1 hI => ?_) (fun b s1 hI => ?_) _ _ ⟨rfl, none, rfl, pnd, fun _ z => z, .inl ⟨rfl, all⟩⟩)
        · obtain ⟨e1, hit, e2, rnd, hsub, hin⟩ := hI
          subst e1 e2
          obtain ⟨e, l, he, hl, hE, heq⟩ := ent x (hsub x List.mem_cons_self)
          rw [List.nodup_cons] at rnd
          simp only [he]
          rw [if_pos (by rw [heq]; exact beq_self_eq_true _)]
          refine wpAny_bind (wpAny_dictEpoch ho hd (wpAny_bind (m_eq hu hE.2 hk (wpAny_bind (wpAny_dictEpoch ho hd ?_)))))
          rw [if_neg (by simp)]
          by_cases q : l = Sum.inl i
          · subst q
            rw [decide_eq_true rfl, if_pos rfl]
            rcases hin with ⟨z, hin⟩ | ⟨j, z, hj, hjn⟩
            · subst z
              rw [if_neg (by simp)]
              refine wpAny_bind (wpAny_rule ?_)
              split
              · exact wpAny_pure (wpAny_pure (h1 x hl))
              · exact wpAny_pure ⟨rfl, some x, rfl, rnd.2, fun i hi => hsub i (List.mem_cons_of_mem _ hi), .inr ⟨x, rfl, hl, rnd.1⟩⟩
            · exact absurd List.mem_cons_self (nd_at hn hj hl ▸ hjn)
          · rw [decide_eq_false q, if_neg (by simp)]
            refine wpAny_bind (wpAny_rule ?_)
            rw [if_neg (by simp)]
            refine wpAny_pure ⟨rfl, hit, rfl, rnd.2, fun i hi => hsub i (List.mem_cons_of_mem _ hi), ?_⟩
            rcases hin with ⟨z, hin⟩ | ⟨j, z, hj, hjn⟩
            · refine .inl ⟨z, fun j hj => ?_⟩
              rcases List.mem_cons.mp (hin j hj) with y | y
              · subst y
                rw [hl] at hj
                exact absurd (Option.some.inj hj) q
              · exact y
            · exact .inr ⟨j, z, hj, fun y => hjn (List.mem_cons_of_mem _ y)⟩
        · obtain ⟨e1, hit, e2, _, _, hin⟩ := hI
          subst e1 e2
          rcases hin with ⟨z, hin⟩ | ⟨j, z, hj, _⟩
          · subst z
            exact wpAny_pure (h0 (none_of fun j hj => nomatch hin j hj))
          · subst z
            exact wpAny_pure (h1 j hj)
      · rw [if_neg c2]
        refine wpAny_bind (m_tells hk hst ?_)
        rw [if_neg (by simp)]
        refine wpAny_bind (wpAny_forIn_list _ (fun rest b s1 => s1 = s ∧ ∃ hit, b = (none, hit) ∧ rest.Nodup ∧ (∀ i ∈ rest, i ∈ pl) ∧
          ((hit = none ∧ ∀ j, ks[j]? = some (Sum.inl i) → j ∈ rest) ∨ ∃ j, hit = some j ∧ ks[j]? = some (Sum.inl i) ∧ j ∉ rest)) _ (fun x rest b s1 hI => ?_) (fun b s1 hI => ?_) _ _ ⟨rfl, none, rfl, pnd, fun _ z => z, .inl ⟨rfl, all⟩⟩)
        · obtain ⟨e1, hit, e2, rnd, hsub, hin⟩ := hI
          subst e1 e2
          obtain ⟨e, l, he, hl, hE, heq⟩ := ent x (hsub x List.mem_cons_self)
          rw [List.nodup_cons] at rnd
          simp only [he]
          rw [if_pos (by rw [heq]; exact beq_self_eq_true _)]
          refine wpAny_bind (wpAny_dictEpoch ho hd (wpAny_bind (m_eq hu hE.2 hk (wpAny_bind (wpAny_dictEpoch ho hd ?_)))))
          rw [if_neg (by simp)]
          by_cases q : l = Sum.inl i
          · subst q
            rw [decide_eq_true rfl, if_pos rfl]
            rcases hin with ⟨z, hin⟩ | ⟨j, z, hj, hjn⟩
            · subst z
              rw [if_neg (by simp)]
              refine wpAny_bind (wpAny_rule ?_)
              split
              · exact wpAny_pure (wpAny_pure (h1 x hl))
              · exact wpAny_pure ⟨rfl, some x, rfl, rnd.2, fun i hi => hsub i (List.mem_cons_of_mem _ hi), .inr ⟨x, rfl, hl, rnd.1⟩⟩
            · exact absurd List.mem_cons_self (nd_at hn hj hl ▸ hjn)
          · rw [decide_eq_false q, if_neg (by simp)]
            refine wpAny_bind (wpAny_rule ?_)
            rw [if_neg (by simp)]
            refine wpAny_pure ⟨rfl, hit, rfl, rnd.2, fun i hi => hsub i (List.mem_cons_of_mem _ hi), ?_⟩
            rcases hin with ⟨z, hin⟩ | ⟨j, z, hj, hjn⟩
            · refine .inl ⟨z, fun j hj => ?_⟩
              rcases List.mem_cons.mp (hin j hj) with y | y
              · subst y
                rw [hl] at hj
                exact absurd (Option.some.inj hj) q
              · exact y
            · exact .inr ⟨j, z, hj, fun y => hjn (List.mem_cons_of_mem _ y)⟩
        · obtain ⟨e1, hit, e2, _, _, hin⟩ := hI
          subst e1 e2
          rcases hin with ⟨z, hin⟩ | ⟨j, z, hj, _⟩
          · subst z
            exact wpAny_pure (h0 (none_of fun j hj => nomatch hin j hj))
          · subst z
            exact wpAny_pure (h1 j hj)
  | inr q =>
    have hk' := hk
    obtain ⟨b, rfl, hb⟩ := hk'
    dsimp only
    rw [← hpl, ← hsto]
    rw [if_neg (show ¬ ((Value.ref b :: sto).all carriedByValue) = true by simp [carriedByValue]), if_neg stale]
    by_cases c2 : (sto == [Value.ref b]) = true
    · rw [if_pos c2]
      refine wpAny_bind (wpAny_pure ?_)
      rw [if_neg (by simp)]
      refine wpAny_bind (wpAny_forIn_list _ (fun rest b s1 => s1 = s ∧ ∃ hit, b = (none, hit) ∧ rest.Nodup ∧ (∀ i ∈ rest, i ∈ pl) ∧
        ((hit = none ∧ ∀ j, ks[j]? = some (Sum.inr q) → j ∈ rest) ∨ ∃ j, hit = some j ∧ ks[j]? = some (Sum.inr q) ∧ j ∉ rest)) _ (fun x rest b s1 hI => ?_) (fun b s1 hI => ?_) _ _ ⟨rfl, none, rfl, pnd, fun _ z => z, .inl ⟨rfl, all⟩⟩)
      · obtain ⟨e1, hit, e2, rnd, hsub, hin⟩ := hI
        subst e1 e2
        obtain ⟨e, l, he, hl, hE, heq⟩ := ent x (hsub x List.mem_cons_self)
        rw [List.nodup_cons] at rnd
        simp only [he]
        rw [if_pos (by rw [heq]; exact beq_self_eq_true _)]
        refine wpAny_bind (wpAny_dictEpoch ho hd (wpAny_bind (m_eq hu hE.2 hk (wpAny_bind (wpAny_dictEpoch ho hd ?_)))))
        rw [if_neg (by simp)]
        by_cases qq : l = Sum.inr q
        · subst qq
          rw [decide_eq_true rfl, if_pos rfl]
          rcases hin with ⟨z, hin⟩ | ⟨j, z, hj, hjn⟩
          · subst z
            rw [if_neg (by simp)]
            refine wpAny_bind (wpAny_rule ?_)
            split
            · exact wpAny_pure (wpAny_pure (h1 x hl))
            · exact wpAny_pure ⟨rfl, some x, rfl, rnd.2, fun i hi => hsub i (List.mem_cons_of_mem _ hi), .inr ⟨x, rfl, hl, rnd.1⟩⟩
          · exact absurd List.mem_cons_self (nd_at hn hj hl ▸ hjn)
        · rw [decide_eq_false qq, if_neg (by simp)]
          refine wpAny_bind (wpAny_rule ?_)
          rw [if_neg (by simp)]
          refine wpAny_pure ⟨rfl, hit, rfl, rnd.2, fun i hi => hsub i (List.mem_cons_of_mem _ hi), ?_⟩
          rcases hin with ⟨z, hin⟩ | ⟨j, z, hj, hjn⟩
          · refine .inl ⟨z, fun j hj => ?_⟩
            rcases List.mem_cons.mp (hin j hj) with y | y
            · subst y
              rw [hl] at hj
              exact absurd (Option.some.inj hj) qq
            · exact y
          · exact .inr ⟨j, z, hj, fun y => hjn (List.mem_cons_of_mem _ y)⟩
      · obtain ⟨e1, hit, e2, _, _, hin⟩ := hI
        subst e1 e2
        rcases hin with ⟨z, hin⟩ | ⟨j, z, hj, _⟩
        · subst z
          exact wpAny_pure (h0 (none_of fun j hj => nomatch hin j hj))
        · subst z
          exact wpAny_pure (h1 j hj)
    · rw [if_neg c2]
      refine wpAny_bind (m_tells hk hst ?_)
      rw [if_neg (by simp)]
      refine wpAny_bind (wpAny_forIn_list _ (fun rest b s1 => s1 = s ∧ ∃ hit, b = (none, hit) ∧ rest.Nodup ∧ (∀ i ∈ rest, i ∈ pl) ∧
        ((hit = none ∧ ∀ j, ks[j]? = some (Sum.inr q) → j ∈ rest) ∨ ∃ j, hit = some j ∧ ks[j]? = some (Sum.inr q) ∧ j ∉ rest)) _ (fun x rest b s1 hI => ?_) (fun b s1 hI => ?_) _ _ ⟨rfl, none, rfl, pnd, fun _ z => z, .inl ⟨rfl, all⟩⟩)
      · obtain ⟨e1, hit, e2, rnd, hsub, hin⟩ := hI
        subst e1 e2
        obtain ⟨e, l, he, hl, hE, heq⟩ := ent x (hsub x List.mem_cons_self)
        rw [List.nodup_cons] at rnd
        simp only [he]
        rw [if_pos (by rw [heq]; exact beq_self_eq_true _)]
        refine wpAny_bind (wpAny_dictEpoch ho hd (wpAny_bind (m_eq hu hE.2 hk (wpAny_bind (wpAny_dictEpoch ho hd ?_)))))
        rw [if_neg (by simp)]
        by_cases qq : l = Sum.inr q
        · subst qq
          rw [decide_eq_true rfl, if_pos rfl]
          rcases hin with ⟨z, hin⟩ | ⟨j, z, hj, hjn⟩
          · subst z
            rw [if_neg (by simp)]
            refine wpAny_bind (wpAny_rule ?_)
            split
            · exact wpAny_pure (wpAny_pure (h1 x hl))
            · exact wpAny_pure ⟨rfl, some x, rfl, rnd.2, fun i hi => hsub i (List.mem_cons_of_mem _ hi), .inr ⟨x, rfl, hl, rnd.1⟩⟩
          · exact absurd List.mem_cons_self (nd_at hn hj hl ▸ hjn)
        · rw [decide_eq_false qq, if_neg (by simp)]
          refine wpAny_bind (wpAny_rule ?_)
          rw [if_neg (by simp)]
          refine wpAny_pure ⟨rfl, hit, rfl, rnd.2, fun i hi => hsub i (List.mem_cons_of_mem _ hi), ?_⟩
          rcases hin with ⟨z, hin⟩ | ⟨j, z, hj, hjn⟩
          · refine .inl ⟨z, fun j hj => ?_⟩
            rcases List.mem_cons.mp (hin j hj) with y | y
            · subst y
              rw [hl] at hj
              exact absurd (Option.some.inj hj) qq
            · exact y
          · exact .inr ⟨j, z, hj, fun y => hjn (List.mem_cons_of_mem _ y)⟩
      · obtain ⟨e1, hit, e2, _, _, hin⟩ := hI
        subst e1 e2
        rcases hin with ⟨z, hin⟩ | ⟨j, z, hj, _⟩
        · subst z
          exact wpAny_pure (h0 (none_of fun j hj => nomatch hin j hj))
        · subst z
          exact wpAny_pure (h1 j hj)
end
end Mix

/-! The same dict as an object of the hand layer, and its rules: y not in d, y in d, d[y] = v for a new key, {y: v}. -/
namespace Mix
open PySem PySem.Spec PyProof.Rows L2
/-- a key with the place of its tuple -/
abbrev MKA := Sum Int (List L2.Key × Addr)
def mkey : MKA → MK
  | .inl i => .inl i
  | .inr (ks, _) => .inr ks
def mval : MKA → V
  | .inl i => .int i
  | .inr (_, b) => .ref b
def keys (kvs : List (MKA × V)) : List MK := kvs.map fun p => mkey p.1
/-- the key is there -/
def hasK (kvs : List (MKA × V)) (k : MKA) : Bool := (keys kvs).any fun l => decide (l = mkey k)
theorem hasK_iff {kvs : List (MKA × V)} {k : MKA} : hasK kvs k = true ↔ mkey k ∈ keys kvs := by
  unfold hasK
  rw [List.any_eq_true]
  constructor
  · rintro ⟨l, hl, e⟩
    rw [← of_decide_eq_true e]
    exact hl
  · exact fun h => ⟨_, h, decide_eq_true rfl⟩
theorem hasK_no {kvs : List (MKA × V)} {k : MKA} (h : mkey k ∉ keys kvs) : hasK kvs k = false := by
  cases e : hasK kvs k with
  | false => rfl
  | true => exact absurd (hasK_iff.mp e) h
section
variable (P : Program) (w : World)
def EntV (p : MKA × V) (e : DictEntry) : Prop := e.hash = mH P w (mkey p.1) ∧ RelV (mval p.1) e.key ∧ RelV p.2 e.val
def MixAt (a : Addr) (kvs : List (MKA × V)) (h : Heap) : Prop :=
  (a == sysModules) = false ∧ kvs.length ≤ sizeLine ∧ (keys kvs).Nodup ∧ ∃ o es ep, h.get? a = some o ∧ o.ExactDict ∧ o.data = .dict es ep ∧ Paired (EntV P w) kvs es.toList
/-- the dict -/
def mixO (a : Addr) (kvs : List (MKA × V)) : HO := .ext (MixAt P w a kvs)
end
/-- the tuples of the keys stand -/
def MOk (H : Hp) (kvs : List (MKA × V)) : Prop := ∀ p ∈ kvs, ∀ ks b, p.1 = .inr (ks, b) → H b = some (.tup (ks.map kV))
/-- the value y is the key k -/
def MKey (H : Hp) (y : V) : MKA → Prop
  | .inl i => y = .int i
  | .inr (ks, b) => y = .ref b ∧ H b = some (.tup (ks.map kV))
theorem MOk.nil {H : Hp} : MOk H [] := fun _ h => nomatch h
theorem MOk.snoc {H : Hp} {kvs : List (MKA × V)} {y v : V} {k : MKA} (m : MOk H kvs) (hk : MKey H y k) : MOk H (kvs ++ [(k, v)]) := by
  intro p hp ks b e
  rcases List.mem_append.mp hp with q | q
  · exact m p q ks b e
  · rw [List.mem_singleton.mp q] at e
    subst e
    exact hk.2
theorem MOk.keep {H H' : Hp} {kvs : List (MKA × V)} (m : MOk H kvs) (k : ∀ b xs, H b = some (.tup xs) → H' b = some (.tup xs)) : MOk H' kvs :=
  fun p hp ks b e => k _ _ (m p hp ks b e)
theorem MKey.keep {H H' : Hp} {y : V} : ∀ {k : MKA}, MKey H y k → (∀ b xs, H b = some (.tup xs) → H' b = some (.tup xs)) → MKey H' y k
  | .inl _, m, _ => m
  | .inr _, ⟨m, e⟩, k => ⟨m, k _ _ e⟩
section
variable {P : Program} {w : World}
theorem mixO_ok {H : Hp} {h : Heap} {a : Addr} {kvs : List (MKA × V)} (x : MixAt P w a kvs h) : ObjOk P w H h a (mixO P w a kvs) := by
  refine ⟨x, ?_, fun h1 h2 y st => ?_⟩
  · obtain ⟨_, _, _, o, _, _, e, _⟩ := x
    exact ⟨o, e⟩
  · obtain ⟨a1, a2, a3, o, es, ep, e, r⟩ := y
    exact ⟨a1, a2, a3, o, es, ep, st o e, r⟩
theorem mIs_of {H : Hp} {h : Heap} {y : V} {u : Value} : ∀ {k : MKA}, HOk P w H h → MKey H y k → RelV y u → mIs P w h (mkey k) u
  | .inl i, ok, m, r => by
    cases (show y = .int i from m)
    exact r
  | .inr (ks, b), ok, ⟨m, e⟩, r => by
    cases m
    exact ⟨b, r, key_of ok e⟩
theorem ents {H : Hp} {h : Heap} {kvs : List (MKA × V)} {es : List DictEntry} (ok : HOk P w H h) (r : Paired (EntV P w) kvs es) : MOk H kvs → Paired (Ent P w h) (keys kvs) es := by
  induction r with
  | nil => exact fun _ => .nil
  | @cons p e ps l q t ih =>
    intro m
    refine .cons ⟨q.1, ?_⟩ (ih fun p' hp' => m p' (List.mem_cons_of_mem _ hp'))
    have mk : MKey H (mval p.1) p.1 := by
      cases e1 : p.1 with
      | inl i => exact rfl
      | inr z => exact ⟨rfl, m p List.mem_cons_self z.1 z.2 e1⟩
    exact mIs_of ok mk q.2.1
theorem pr_snoc {α β : Type} {F : α → β → Prop} {x : α} {y : β} (q : F x y) : ∀ {l : List α} {m : List β}, Paired F l m → Paired F (l ++ [x]) (m ++ [y])
  | _, _, .nil => .cons q .nil
  | _, _, .cons r t => .cons r (pr_snoc q t)
theorem pr_len {α β : Type} {F : α → β → Prop} : ∀ {l : List α} {m : List β}, Paired F l m → l.length = m.length
  | _, _, .nil => rfl
  | _, _, .cons _ t => congrArg (· + 1) (pr_len t)
end
section
variable {X : Cx} {pins : List (Addr × Obj)} {σ : List (Option V)} {H : Hp} {s : Shared} {a : Addr} {y v : V} {u r : Value} {kvs : List (MKA × V)} {k : MKA} {A : Around} {E : Value → Shared → Prop}
theorem mx_type (I : Inv X pins σ H s) (e : H a = some (mixO X.prog X.w a kvs)) : s.TypeIs (.ref a) "dict" := by
  obtain ⟨⟨_, _, _, o, es, ep, ho, hc, _⟩, _⟩ := (show ObjOk X.prog X.w H s.heap a (mixO X.prog X.w a kvs) from I.hok a _ e)
  exact ⟨o, ho, hc.1⟩
theorem mx_get {Q : Option Value → Shared → Prop} (hu : A.units < cLine) (I : Inv X pins σ H s) (e : H a = some (mixO X.prog X.w a kvs)) (mo : MOk H kvs) (ky : MKey H y k) (ry : RelV y u)
    (h : ∀ s' o, Inv X pins σ H s' → o.isSome = hasK kvs k → Q o s') : wpAny (model X.prog X.w) A (dictGet a u) Q E s := by
  obtain ⟨⟨hm, hz, hn, o, es, ep, ho, hc, hd, hp⟩, _⟩ := (show ObjOk X.prog X.w H s.heap a (mixO X.prog X.w a kvs) from I.hok a _ e)
  have hk := mIs_of I.hok ky ry
  have hp' := ents I.hok hp mo
  unfold dictGet
  try with_reducible refine wpAny_holding ?_
  refine wpAny_bind (m_hash hu hk fun t => wpAny_bind ?_)
  refine m_find (s := { s with toks := t }) hu hk ho hd hp' hn (fun no => ?_) (fun j hj => ?_)
  · exact wpAny_pure (h _ _ (I.tok t) (by rw [hasK_no no]; rfl))
  · refine wpAny_bind (wpAny_dictEntries (s := { s with toks := t }) ho hd ?_)
    obtain ⟨x, hx, _⟩ := pr_get' hp' hj
    rw [Array.getElem?_toList] at hx
    rw [hx]
    exact wpAny_pure (h _ _ (I.tok t) (by rw [hasK_iff.mpr (List.mem_of_getElem? hj)]; rfl))
theorem mx_contains {Q : Bool → Shared → Prop} (hu : A.units + 1 < cLine) (I : Inv X pins σ H s) (e : H a = some (mixO X.prog X.w a kvs)) (mo : MOk H kvs) (ky : MKey H y k) (ry : RelV y u)
    (h : ∀ s', Inv X pins σ H s' → Q (hasK kvs k) s') : wpAny (model X.prog X.w) A (contains (.ref a) u) Q E s := by
  have hT := mx_type I e
  have hm : (a == sysModules) = false := (show ObjOk X.prog X.w H s.heap a (mixO X.prog X.w a kvs) from I.hok a _ e).1.1
  refine wpAny_contains_slot hT PySem.F.slot_dict_contains (wpAny_call_entry PySem.F.slot_dict_contains hT PySem.F.entry_dict_contains ?_ (PySem.F.args_dict_contains_2 _ _))
  show wpAny _ _ (dictGet a u >>= _) _ _ _
  refine wpAny_bind (mx_get (show A.in1.units < cLine from hu) I e mo ky ry fun s' o I' eo => ?_)
  cases o with
  | some x =>
    have eo' : hasK kvs k = true := by rw [← eo]; rfl
    show wpAny _ _ (ret (.bool true)) _ _ _
    exact wpAny_pure ⟨_, rfl, wpAny_truthy_bool (by have q := h s' I'; rw [eo'] at q; exact q)⟩
  | none =>
    have eo' : hasK kvs k = false := by rw [← eo]; rfl
    show wpAny _ _ (Builtin.Dict.pendingKey? a u >>= _) _ _ _
    exact wpAny_bind (wpAny_pendingKey_other hm (wpAny_pure ⟨_, rfl, wpAny_truthy_bool (by have q := h s' I'; rw [eo'] at q; exact q)⟩))
theorem mx_set {Q : Unit → Shared → Prop} (hu : A.units < cLine) (I : Inv X pins σ H s) (e : H a = some (mixO X.prog X.w a kvs)) (mo : MOk H kvs) (ky : MKey H y k) (ry : RelV y u) (rv : RelV v r)
    (new : mkey k ∉ keys kvs) (hl : kvs.length < sizeLine) (h : ∀ s', Inv X pins σ (upd H a (mixO X.prog X.w a (kvs ++ [(k, v)]))) s' → Q () s') : wpAny (model X.prog X.w) A (dictSet a u r) Q E s := by
  obtain ⟨⟨hm, hz, hn, o, es, ep, ho, hc, hd, hp⟩, _⟩ := (show ObjOk X.prog X.w H s.heap a (mixO X.prog X.w a kvs) from I.hok a _ e)
  have hk := mIs_of I.hok ky ry
  have hp' := ents I.hok hp mo
  have hes : es.size ≤ sizeLine := by
    have q : kvs.length = es.size := (pr_len hp).trans Array.length_toList
    omega
  unfold dictSet
  try with_reducible refine wpAny_holding ?_
  refine wpAny_bind (m_hash hu hk fun t => ?_)
  unfold dictSetHashed
  try with_reducible refine wpAny_holding ?_
  refine wpAny_bind (m_find (s := { s with toks := t }) hu hk ho hd hp' hn (fun no => ?_) (fun j hj => absurd (List.mem_of_getElem? hj) new))
  refine wpAny_bind (wpAny_rule (wpAny_updateDictKeys (hz := hes) (s := { s with toks := t }) ho hd (h _ ?_)))
  refine I.write (x := a) (e := a) (by rw [e]; exact True.intro) (.inl rfl) (fun b q hb z => ?_) ?_ (mixO_ok ⟨hm, by rw [List.length_append]; exact hl, ?_, _, _, ep + 1, Heap.get?_update_self _ ho (Obj.isFreed_of_dict (Obj.data_mapDictKeys hd _)), hc.mapDictKeys _, Obj.data_mapDictKeys hd _, ?_⟩)
  · exact ((Heap.SameBut.update ..).2 b hb).trans z
  · exact ⟨_, Heap.get?_update_self _ ho (Obj.isFreed_of_dict (Obj.data_mapDictKeys hd _))⟩
  · show (keys (kvs ++ [(k, v)])).Nodup
    unfold keys
    rw [List.map_append, List.nodup_append]
    refine ⟨hn, by simp, fun x hx y hy => ?_⟩
    rw [List.map_cons, List.map_nil, List.mem_singleton] at hy
    subst hy
    exact fun z => new (z ▸ hx)
  · rw [Array.toList_push]
    refine pr_snoc ⟨rfl, ?_, rv⟩ hp
    cases k with
    | inl i => cases (show y = .int i from ky); exact ry
    | inr z => cases ky.1; exact ry
theorem mx_setItem {Q : Unit → Shared → Prop} (hu : A.units + 1 < cLine) (I : Inv X pins σ H s) (e : H a = some (mixO X.prog X.w a kvs)) (mo : MOk H kvs) (ky : MKey H y k) (ry : RelV y u) (rv : RelV v r)
    (new : mkey k ∉ keys kvs) (hl : kvs.length < sizeLine) (h : ∀ s', Inv X pins σ (upd H a (mixO X.prog X.w a (kvs ++ [(k, v)]))) s' → Q () s') : wpAny (model X.prog X.w) A (setItem (.ref a) u r) Q E s := by
  have hT := mx_type I e
  unfold setItem
  try with_reducible refine wpAny_holding ?_
  refine wpAny_bind (wpAny_sequenceKey hT (by decide) (wpAny_bind (wpAny_callSpecial?_slot (name := Str.ofString "__setitem__") hT PySem.F.slot_dict_setitem
    (wpAny_call_entry PySem.F.slot_dict_setitem hT PySem.F.entry_dict_setitem ?_ (PySem.F.args_dict_setitem_3 _ _ _)))))
  show wpAny _ _ (Builtin.Dict.notOrdered "__setitem__" ⟨[.ref a, u, r], []⟩ >>= _) _ _ s
  refine wpAny_bind (wpAny_notOrdered_dict hT ?_)
  show wpAny _ _ (dictSet a u r >>= _) _ _ s
  exact wpAny_bind (mx_set (show A.in1.units < cLine from hu) I e mo ky ry rv new hl fun s' I' => wpAny_pure ⟨.none, rfl, wpAny_pure (h s' I')⟩)
end
/-- y in d, y not in d -/
def tMIn (P : Program) (w : World) (ty td : TE) : TE := fun σ H Q => ty σ H fun y H1 => td σ H1 fun x H2 => ∃ a kvs k, x = .ref a ∧ H2 a = some (mixO P w a kvs) ∧ MOk H2 kvs ∧ MKey H2 y k ∧ Q (.bl (hasK kvs k)) H2
def tMNotIn (P : Program) (w : World) (ty td : TE) : TE := fun σ H Q => ty σ H fun y H1 => td σ H1 fun x H2 => ∃ a kvs k, x = .ref a ∧ H2 a = some (mixO P w a kvs) ∧ MOk H2 kvs ∧ MKey H2 y k ∧ Q (.bl (!hasK kvs k)) H2
/-- d[y] = v, y new -/
def sMPut (P : Program) (w : World) (td ty tv : TE) : TS := fun D σ H => tv σ H fun v H1 => td σ H1 fun x H2 => ty σ H2 fun y H3 => ∃ a kvs k, x = .ref a ∧ H3 a = some (mixO P w a kvs) ∧ MOk H3 kvs ∧ MKey H3 y k ∧
  mkey k ∉ keys kvs ∧ kvs.length < sizeLine ∧ D.nx σ (upd H3 a (mixO P w a (kvs ++ [(k, v)])))
/-- {y: v} -/
def tMDisp (P : Program) (w : World) (ty tv : TE) : TE := fun σ H Q => ∀ p, H p = none → ty σ (upd H p (mixO P w p [])) fun y H1 => tv σ H1 fun v H2 => ∃ k, H2 p = some (mixO P w p []) ∧ MKey H2 y k ∧ Q (.ref p) (upd H2 p (mixO P w p [(k, v)]))
/-- {} -/
def tMNew (P : Program) (w : World) : TE := fun _ H Q => ∀ p, H p = none → Q (.ref p) (upd H p (mixO P w p []))
section
variable {X : Cx} {o i e value : Expr} {pos pos' tpos : Pos} {td ty tv : TE}
theorem pc_min (hu : X.A.units + 1 < cLine) (hi : PE X i ty) (ho : PE X o td) : PC X .In i o (tMIn X.prog X.w ty td) := by
  refine ⟨fun pins s σ H Q I h => thn (hi.run pins s σ H _ I h) fun iv s1 ⟨y, H1, I1, ry, q1⟩ => thn (ho.run pins s1 σ H1 _ I1 q1) fun u s2 ⟨x, H2, I2, rx, a, kvs, k, ex, g, mo, ky, q2⟩ => ?_⟩
  subst ex
  obtain rfl : u = Value.ref a := rx
  show wpAny _ _ (contains (.ref a) iv >>= fun z => pure (Value.bool z)) _ _ _
  exact wpAny_bind (mx_contains hu I2 g mo ky ry fun s3 I3 => wpAny_pure ⟨.bl _, H2, I3, rfl, q2⟩)
theorem pc_mnotin (hu : X.A.units + 1 < cLine) (hi : PE X i ty) (ho : PE X o td) : PC X .NotIn i o (tMNotIn X.prog X.w ty td) := by
  refine ⟨fun pins s σ H Q I h => thn (hi.run pins s σ H _ I h) fun iv s1 ⟨y, H1, I1, ry, q1⟩ => thn (ho.run pins s1 σ H1 _ I1 q1) fun u s2 ⟨x, H2, I2, rx, a, kvs, k, ex, g, mo, ky, q2⟩ => ?_⟩
  subst ex
  obtain rfl : u = Value.ref a := rx
  show wpAny _ _ (contains (.ref a) iv >>= fun z => pure (Value.bool (!z))) _ _ _
  exact wpAny_bind (mx_contains hu I2 g mo ky ry fun s3 I3 => wpAny_pure ⟨.bl _, H2, I3, rfl, q2⟩)
theorem ps_mput (hu : X.A.units + 1 < cLine) (ho : PE X o td) (hi : PE X i ty) (hv : PE X value tv) (hs : swapsWith value (some (.Subscript o i pos')) pos.line X.env = pure false) :
    PS X (.Assign [.Subscript o i pos'] value pos) (sMPut X.prog X.w td ty tv) := by
  refine ⟨fun pins s σ H D I h => wpAny_Assign_Subscript (thn (hv.run pins s σ H _ I h) fun r s1 ⟨v, H1, I1, rv, q1⟩ => thn (ho.run pins s1 σ H1 _ I1 q1) fun u s2 ⟨x, H2, I2, rx, q2⟩ =>
    thn (hi.run pins s2 σ H2 _ I2 q2) fun iv s3 ⟨y, H3, I3, ry, a, kvs, k, ex, g, mo, ky, new, hl, q3⟩ => ?_) hs⟩
  subst ex
  obtain rfl : u = Value.ref a := rx
  exact mx_setItem hu I3 g mo ky ry rv new hl fun s4 I4 => ⟨σ, _, I4, q3⟩
theorem mx_empty {P : Program} {w : World} {H : Hp} (h : Heap) (hb : sysModules < h.objs.size) : ObjOk P w H (h.push { cls := .type "dict", data := .dict #[] }) h.objs.size (mixO P w h.objs.size []) :=
  mixO_ok ⟨beq_eq_false_iff_ne.mpr (Ne.symm (Nat.ne_of_lt hb)), Nat.zero_le _, List.nodup_nil, _, #[], 0, Heap.get?_push_size _ rfl, ⟨rfl, rfl, rfl⟩, rfl, .nil⟩
theorem pe_mnew : PE X (.Dict [] [] pos) (tMNew X.prog X.w) := ⟨fun pins s σ H Q I h =>
  wpAny_Dict_empty ⟨.ref s.heap.objs.size, _, I.laid (a := s.heap.objs.size) (t' := s.toks) (fun _ _ q => Heap.get?_push_of_some _ q) (Nat.le_refl _) (mx_empty s.heap I.big), rfl, h _ (I.hok.fresh (Nat.le_refl _))⟩⟩
theorem pe_mdisp (hu : X.A.units + 1 < cLine) (hk : PE X i ty) (hv : PE X e tv) : PE X (.Dict [some i] [e] pos) (tMDisp X.prog X.w ty tv) := by
  refine ⟨fun pins s σ H Q I q => ?_⟩
  have hn := I.hok.fresh (Nat.le_refl s.heap.objs.size)
  have I1 := I.laid (a := s.heap.objs.size) (h' := s.heap.push { cls := .type "dict", data := .dict #[] }) (t' := s.toks) (fun _ _ q => Heap.get?_push_of_some _ q) (Nat.le_refl _) (mx_empty s.heap I.big)
  refine wpAny_Dict_any (by rfl) (by rfl) (fun z => by cases z) (by show 1 ≤ 15; decide) ?_
  refine pairTrees_cons_walk (thn (hk.run pins _ σ _ _ I1 (q _ hn)) fun u s1 ⟨y, H1, I1, ry, q1⟩ => thn (hv.run pins s1 σ H1 _ I1 q1) fun r s2 ⟨v, H2, I2, rv, k, e, ky, q2⟩ => pairTrees_nil_walk ?_)
  unfold storeAll
  rw [List.forIn_cons]
  refine wpAny_bind (wpAny_bind (mx_set (show X.A.units < cLine by omega) I2 e MOk.nil ky ry rv (fun z => nomatch z) (by show 0 < sizeLine; decide) fun s3 I3 => wpAny_pure ?_))
  exact wpAny_pure ⟨.ref s.heap.objs.size, _, I3, rfl, q2⟩
end
/-! ### the same, the program and the world by their own names -/
section
variable {X : Cx} {P : Program} {w : World} {o i e value : Expr} {pos pos' tpos : Pos} {td ty tv : TE}
theorem pc_minK (h1 : X.prog = P) (h2 : X.w = w) (hu : X.A.units + 1 < cLine) (hi : PE X i ty) (ho : PE X o td) : PC X .In i o (tMIn P w ty td) := by
  subst h1 h2
  exact pc_min hu hi ho
theorem pc_mnotinK (h1 : X.prog = P) (h2 : X.w = w) (hu : X.A.units + 1 < cLine) (hi : PE X i ty) (ho : PE X o td) : PC X .NotIn i o (tMNotIn P w ty td) := by
  subst h1 h2
  exact pc_mnotin hu hi ho
theorem ps_mputK (h1 : X.prog = P) (h2 : X.w = w) (hu : X.A.units + 1 < cLine) (ho : PE X o td) (hi : PE X i ty) (hv : PE X value tv) (hs : swapsWith value (some (.Subscript o i pos')) pos.line X.env = pure false) :
    PS X (.Assign [.Subscript o i pos'] value pos) (sMPut P w td ty tv) := by
  subst h1 h2
  exact ps_mput hu ho hi hv hs
theorem pe_mnewK (h1 : X.prog = P) (h2 : X.w = w) : PE X (.Dict [] [] pos) (tMNew P w) := by
  subst h1 h2
  exact pe_mnew
theorem pe_mdispK (h1 : X.prog = P) (h2 : X.w = w) (hu : X.A.units + 1 < cLine) (hk : PE X i ty) (hv : PE X e tv) : PE X (.Dict [some i] [e] pos) (tMDisp P w ty tv) := by
  subst h1 h2
  exact pe_mdisp hu hk hv
end
end Mix

/-! d != e for two dicts that hold the same objects at the same keys. -/
namespace DNe
open PySem PySem.Spec PyProof.Rows L2
theorem hits_ref {A : Around} {s : Shared} {ls : List (Key × V)} {vb : List (Key × Value)} (rb : KV ls vb) {ks : List (Key × V)} {va : List (Key × Value)} (ra : KV ks va) :
    (∀ p ∈ ks, ∃ t, p.2 = V.ref t ∧ valV ls p.1 = some p.2) → PySem.W.KeqHits A s vb va true := by
  unfold KV at ra
  induction ra with
  | nil => exact fun _ => .nil
  | @cons p q ps qs h t ih =>
    intro hp
    obtain ⟨a, ea, ev⟩ := hp p List.mem_cons_self
    obtain ⟨key, v⟩ := q
    obtain ⟨h1, h2⟩ := h
    obtain ⟨y, hy, ry⟩ := RelO.some_of (v := p.2) (o := valueAt vb p.1) (by rw [← ev]; exact rb.val p.1)
    rw [ea] at h2 ry
    cases (show v = Value.ref a from h2)
    cases (show y = Value.ref a from ry)
    rw [show p.1 = key from h1] at hy
    show PySem.W.KeqHits A s vb ((key, Value.ref a) :: qs) (true && true)
    exact .hit hy (SeqAt.EqAt.same _) (ih fun p' hm => hp p' (List.mem_cons_of_mem _ hm))
def rNeR : R2 := fun x y H Q => ∃ a b ks ls, x = .ref a ∧ y = .ref b ∧ H a = some (.dK ks) ∧ H b = some (.dK ls) ∧ ks.length = ls.length ∧ (∀ p ∈ ks, ∃ t, p.2 = V.ref t ∧ valV ls p.1 = some p.2) ∧ Q (.bl false) H
theorem op_neR {X : Cx} (hu : X.A.units < cLine) : OpR X (compareOp .NotEq) rNeR := by
  intro pins s σ H x y v u Q I rx ry h
  obtain ⟨a, b, ks, ls, rfl, rfl, ea, eb, hl, hp, q⟩ := h
  cases (show v = Value.ref a from rx)
  cases (show u = Value.ref b from ry)
  obtain ⟨_, ya, va, ra, da⟩ := (show ObjOk X.prog X.w H s.heap a (.dK ks) from I.hok a _ ea)
  obtain ⟨_, yb, vb, rb, db⟩ := (show ObjOk X.prog X.w H s.heap b (.dK ls) from I.hok b _ eb)
  have e : va.length = vb.length := ra.length.symm.trans (hl.trans rb.length)
  exact PySem.W.keq_ne (knd := mixKind X.prog X.w) (r := true) ya yb da db hu (fun _ => hits_ref rb ra hp) (fin_bl I q (by rw [e]; simp))
end DNe

/-! Small lemmas for every text. -/
namespace Hl
open PySem PySem.Spec PyProof.Rows L2
theorem hu1 {n : Nat} (h : n + 64 < cLine) : n < cLine := by omega
theorem hu2 {n : Nat} (h : n + 64 < cLine) : n + 1 < cLine := by omega
theorem ix_listK {X : Cx} {K : PySem.W.Frag} (h : X.K = K) : IxR X (rIxL K) := h ▸ ix_list
theorem ix_tupK {X : Cx} {K : PySem.W.Frag} (h : X.K = K) : IxR X (rIxT K) := h ▸ ix_tup
theorem call_lenW {X : Cx} {K : PySem.W.Frag} (h : X.K = K) : CallR X (.builtin "len") (fun xs H Q => ∃ p ys, xs = [.ref p] ∧ (SqL K H p ys ∨ SqT K H p ys) ∧ Q (.int ys.length) H) := h ▸ call_len_seq
theorem call_isiW {X : Cx} {K : PySem.W.Frag} (h : X.K = K) : CallR X (.builtin "isinstance") (rIsi K) := h ▸ call_isi
theorem at_map {α : Type} {f : α → V} {xs : List α} {i : Int} {j : Nat} {a : α} (e : i = (j : Int)) (h : xs[j]? = some a) : atI (xs.map f) i = some (f a) :=
  at_of e (by rw [List.getElem?_map, h]; all_goals rfl)
/-- an item at an int that is within the list -/
theorem at_in {α : Type} {f : α → V} {xs : List α} {i : Int} (h0 : 0 ≤ i) (h1 : i < xs.length) : ∃ a ∈ xs, atI (xs.map f) i = some (f a) := by
  obtain ⟨j, rfl⟩ := Int.eq_ofNat_of_zero_le h0
  have hj : j < xs.length := by omega
  exact ⟨xs[j], List.getElem_mem hj, at_map rfl (List.getElem?_eq_getElem hj)⟩
theorem at_inV {xs : List V} {i : Int} (h0 : 0 ≤ i) (h1 : i < xs.length) : ∃ a ∈ xs, atI xs i = some a := by
  obtain ⟨j, rfl⟩ := Int.eq_ofNat_of_zero_le h0
  have hj : j < xs.length := by omega
  exact ⟨xs[j], List.getElem_mem hj, at_of rfl (List.getElem?_eq_getElem hj)⟩
theorem sm_new {H : Hp} {p : Addr} {o : HO} (h : H p = none) : Same H (upd H p o) := fun b u e => by
  rw [upd_ne (ne_of_none e h)]
  exact e
/-- a store at what was new -/
theorem sm_put {H H' : Hp} {p : Addr} {o : HO} (s : Same H H') (h : H p = none) : Same H (upd H' p o) := fun b u e => by
  rw [upd_ne (ne_of_none e h)]
  exact s b u e
end Hl

/-! A walk's list and its dict of what was seen. -/
namespace Ce
open PySem PySem.Spec PyProof.Rows L2 Hl
def ckey : Cell → Mix.MK
  | .non => .inr []
  | .obj n => .inl n
  | .far a b => .inr [.inl a, .inl b]
theorem ckey_inj : ∀ {c d : Cell}, ckey c = ckey d → c = d
  | .non, .non, _ => rfl
  | .non, .obj _, h => nomatch h
  | .non, .far _ _, h => by injection h with h; cases h
  | .obj _, .non, h => nomatch h
  | .obj _, .obj _, h => by injection h with h; rw [h]
  | .obj _, .far _ _, h => nomatch h
  | .far _ _, .non, h => by injection h with h; cases h
  | .far _ _, .obj _, h => nomatch h
  | .far _ _, .far _ _, h => by
    injection h with h
    injection h with h1 h2
    injection h2 with h2 _
    injection h1 with h1
    injection h2 with h2
    rw [h1, h2]
theorem mkey_of {H : Hp} {v : V} : ∀ {c : Cell}, CV H c v → c ≠ .non → ∃ ka, Mix.MKey H v ka ∧ Mix.mkey ka = ckey c
  | .non, _, h => absurd rfl h
  | .obj n, h, _ => ⟨.inl n, h, rfl⟩
  | .far a b, ⟨t, h1, h2⟩, _ => ⟨.inr ([.inl a, .inl b], t), ⟨h1, h2⟩, rfl⟩
/-- the list at lw and the dict at as hold the cells ws -/
structure RI (P : Program) (w : World) (H0 H2 : Hp) (lw as : Addr) (ws : List Cell) (vs : List V) (kvs : List (Mix.MKA × V)) : Prop where
  sm : Same H0 H2
  lst : H2 lw = some (.lst vs)
  cv : CVs H2 ws vs
  dic : H2 as = some (Mix.mixO P w as kvs)
  mo : Mix.MOk H2 kvs
  ks : Mix.keys kvs = ws.map ckey
  nn : ∀ c ∈ ws, c ≠ .non
  fl : H0 lw = none
  fa : H0 as = none
  ne : lw ≠ as
section
variable {P : Program} {w : World} {H0 H2 H3 : Hp} {lw as : Addr} {ws : List Cell} {vs : List V} {kvs : List (Mix.MKA × V)}
theorem RI.same (R : RI P w H0 H2 lw as ws vs kvs) (s : Same H2 H3) : RI P w H0 H3 lw as ws vs kvs :=
  ⟨R.sm.trans s, s _ _ R.lst, R.cv.tl (TL.same s), s _ _ R.dic, R.mo.keep fun _ _ h => s _ _ h, R.ks, R.nn, R.fl, R.fa, R.ne⟩
theorem RI.has (R : RI P w H0 H2 lw as ws vs kvs) {c : Cell} {ka : Mix.MKA} (e : Mix.mkey ka = ckey c) : Mix.hasK kvs ka = true ↔ c ∈ ws := by
  rw [Mix.hasK_iff, R.ks, e, List.mem_map]
  constructor
  · rintro ⟨d, hd, h⟩
    rw [← ckey_inj h]
    exact hd
  · exact fun h => ⟨c, h, rfl⟩
theorem RI.len (R : RI P w H0 H2 lw as ws vs kvs) : kvs.length = ws.length := by
  have := congrArg List.length R.ks
  rw [List.length_map] at this
  unfold Mix.keys at this
  rw [List.length_map] at this
  exact this
/-- one more -/
theorem RI.add (R : RI P w H0 H2 lw as ws vs kvs) {c : Cell} {v : V} {ka : Mix.MKA} (hv : CV H2 c v) (hc : c ≠ .non) (hk : Mix.MKey H2 v ka) (e : Mix.mkey ka = ckey c) :
    (upd H2 as (Mix.mixO P w as (kvs ++ [(ka, .bl true)]))) lw = some (.lst vs) ∧
    RI P w H0 (upd (upd H2 as (Mix.mixO P w as (kvs ++ [(ka, .bl true)]))) lw (.lst (vs ++ [v]))) lw as (ws ++ [c]) (vs ++ [v]) (kvs ++ [(ka, .bl true)]) := by
  have h1 : (upd H2 as (Mix.mixO P w as (kvs ++ [(ka, .bl true)]))) lw = some (.lst vs) := by rw [upd_ne R.ne]; exact R.lst
  have t1 : TL H2 (upd H2 as (Mix.mixO P w as (kvs ++ [(ka, .bl true)]))) := TL.put R.dic fun xs z => nomatch z
  have t2 : TL H2 (upd (upd H2 as (Mix.mixO P w as (kvs ++ [(ka, .bl true)]))) lw (.lst (vs ++ [v]))) := t1.trans (TL.put h1 fun xs z => nomatch z)
  refine ⟨h1, sm_put (sm_put R.sm R.fa) R.fl, upd_same, pr_app (R.cv.tl t2) (.cons (hv.tl t2) .nil), by rw [upd_ne R.ne.symm, upd_same], (R.mo.snoc hk).keep t2, ?_, fun d hd => ?_, R.fl, R.fa, R.ne⟩
  · unfold Mix.keys
    rw [List.map_append, List.map_append]
    show Mix.keys kvs ++ [Mix.mkey ka] = ws.map ckey ++ [ckey c]
    rw [R.ks, e]
  · rcases List.mem_append.mp hd with h | h
    · exact R.nn d h
    · rw [List.mem_singleton.mp h]
      exact hc
end
end Ce

/-! Data made of tuples: it stays as it is while lists and objects change. -/
namespace Fh
open PySem PySem.Spec PyProof.Rows L2
mutual
inductive TD (H : Hp) : V → PyData → Prop
  | non : TD H .non .none
  | bl (b : Bool) : TD H (.bl b) (.bool b)
  | int (i : Int) : TD H (.int i) (.int i)
  | str (x : Str) (ok : PyData.strOk x = true) : TD H (.str x) (.str x)
  | tup {a : Addr} {xs : List V} {ds : List PyData} : H a = some (.tup xs) → TDs H xs ds → TD H (.ref a) (.tuple ds)
inductive TDs (H : Hp) : List V → List PyData → Prop
  | nil : TDs H [] []
  | cons {v : V} {vs : List V} {d : PyData} {ds : List PyData} : TD H v d → TDs H vs ds → TDs H (v :: vs) (d :: ds)
end
/-- the tuples stand as they stood -/
def TSame (H H' : Hp) : Prop := ∀ b xs, H b = some (.tup xs) → H' b = some (.tup xs)
theorem TSame.refl (H : Hp) : TSame H H := fun _ _ h => h
theorem TSame.trans {H H1 H2 : Hp} (a : TSame H H1) (b : TSame H1 H2) : TSame H H2 := fun c o h => b c o (a c o h)
theorem TSame.of {H H' : Hp} (s : Same H H') : TSame H H' := fun b xs h => s b _ h
mutual
theorem TD.mono {H H' : Hp} (s : TSame H H') : ∀ {v : V} {d : PyData}, TD H v d → TD H' v d
  | _, _, .non => .non
  | _, _, .bl b => .bl b
  | _, _, .int i => .int i
  | _, _, .str x ok => .str x ok
  | _, _, .tup h hs => .tup (s _ _ h) (TDs.mono s hs)
theorem TDs.mono {H H' : Hp} (s : TSame H H') : ∀ {vs : List V} {ds : List PyData}, TDs H vs ds → TDs H' vs ds
  | _, _, .nil => .nil
  | _, _, .cons h hs => .cons (TD.mono s h) (TDs.mono s hs)
end
mutual
theorem TD.dp {K : PySem.W.Frag} {H : Hp} : ∀ {v : V} {d : PyData}, TD H v d → Dp K H v d
  | _, _, .non => .non
  | _, _, .bl b => .bl b
  | _, _, .int i => .int i
  | _, _, .str x _ => .str x
  | _, _, .tup h hs => .tup (SqT.of h) (TDs.dp hs)
theorem TDs.dp {K : PySem.W.Frag} {H : Hp} : ∀ {vs : List V} {ds : List PyData}, TDs H vs ds → DpAll K H vs ds
  | _, _, .nil => .nil
  | _, _, .cons h hs => .cons (TD.dp h) (TDs.dp hs)
end
mutual
theorem TD.lay {H : Hp} : ∀ {v : V} {d : PyData}, TD H v d → d.canLay0 = true
  | _, _, .non => rfl
  | _, _, .bl b => rfl
  | _, _, .int i => rfl
  | _, _, .str x ok => by simp only [PyData.canLay0]; exact ok
  | _, _, .tup _ hs => by rw [PyData.canLay0]; exact TDs.lay hs
theorem TDs.lay {H : Hp} : ∀ {vs : List V} {ds : List PyData}, TDs H vs ds → PyData.canLayAll0 ds = true
  | _, _, .nil => rfl
  | _, _, .cons h hs => by rw [PyData.canLayAll0, TD.lay h, TDs.lay hs]; rfl
end
/-- a tuple of data, at most n deep -/
def TupD (H : Hp) (n : Nat) (v : V) : Prop := ∃ (a : Addr) (xs : List V) (ds : List PyData), v = .ref a ∧ H a = some (.tup xs) ∧ TDs H xs ds ∧ (PyData.tuple ds).depth ≤ n
theorem TupD.mono {H H' : Hp} (s : TSame H H') {n : Nat} {v : V} (h : TupD H n v) : TupD H' n v := by
  obtain ⟨a, xs, ds, e, h1, h2, h3⟩ := h
  exact ⟨a, xs, ds, e, s _ _ h1, TDs.mono s h2, h3⟩
theorem shaped_of {d : PyData} (h1 : d.canLay0 = true) (h2 : d.depth ≤ 64) : SeqAt.shaped d = true := by
  unfold SeqAt.shaped
  rw [h1, decide_eq_true h2]
  rfl
theorem TupD.dat {K : PySem.W.Frag} {H : Hp} {n : Nat} {v : V} (h : TupD H n v) (hn : n ≤ 64) : ∃ d, Dp K H v d ∧ SeqAt.shaped d = true ∧ PyData.eqv d d = true := by
  obtain ⟨a, xs, ds, rfl, h1, h2, h3⟩ := h
  have td : TD H (.ref a) (.tuple ds) := .tup h1 h2
  exact ⟨_, td.dp, shaped_of td.lay (Nat.le_trans h3 hn), SeqAt.eqv_refl _ td.lay⟩
/-- a new tuple of data -/
theorem TupD.new {H : Hp} {n : Nat} {a : Addr} {xs : List V} {ds : List PyData} (ha : H a = none) (hs : TDs H xs ds) (hd : (PyData.tuple ds).depth ≤ n) : TupD (upd H a (.tup xs)) n (.ref a) :=
  ⟨a, xs, ds, rfl, upd_same, TDs.mono (fun b ys e => by rw [upd_ne (ne_of_none e ha)]; exact e) hs, hd⟩
theorem Same.new {H : Hp} {a : Addr} {o : HO} (ha : H a = none) : Same H (upd H a o) := fun b u e => by
  rw [upd_ne (ne_of_none e ha)]
  exact e
theorem Same.none' {H H' : Hp} (s : Same H H') {a : Addr} (h : H' a = none) : H a = none := s.free h
/-- addresses of objects, all different -/
structure Alive (H : Hp) (xs : List Addr) : Prop where
  nd : xs.Nodup
  at_ : ∀ b ∈ xs, ∃ o, H b = some o
theorem Alive.nil {H : Hp} : Alive H [] := ⟨List.nodup_nil, fun b h => by cases h⟩
theorem Alive.same {H H' : Hp} {xs : List Addr} (A : Alive H xs) (s : Same H H') : Alive H' xs := ⟨A.nd, fun b hb => by
  obtain ⟨o, e⟩ := A.at_ b hb
  exact ⟨o, s _ _ e⟩⟩
theorem Alive.cons {H H' : Hp} {xs : List Addr} {c : Addr} {o : HO} (A : Alive H xs) (hc : H c = none) (s : Same H H') (h : H' c = some o) : Alive H' (c :: xs) := by
  refine ⟨List.nodup_cons.mpr ⟨fun hm => ?_, A.nd⟩, fun b hb => ?_⟩
  · obtain ⟨u, e⟩ := A.at_ c hm
    rw [hc] at e
    cases e
  · rcases List.mem_cons.mp hb with e | hb
    · rw [e]
      exact ⟨o, h⟩
    · obtain ⟨u, e⟩ := A.at_ b hb
      exact ⟨u, s _ _ e⟩
theorem Alive.new {H : Hp} {xs : List Addr} {c : Addr} {o : HO} (A : Alive H xs) (hc : H c = none) : Alive (upd H c o) (c :: xs) := A.cons hc (Same.new hc) upd_same
/-- a list of two, by place -/
theorem two_at {α : Type} (f : Nat → α) {j : Nat} (hj : j < 2) : [f 0, f 1][j]? = some (f j) := by
  match j, hj with
  | 0, _ => rfl
  | 1, _ => rfl
end Fh

/-! Lists of ints and of pairs as data that is compared. -/
namespace Ce
open PySem PySem.Spec PyProof.Rows L2 Hl
def dI (ns : List Int) : PyData := .list (ns.map PyData.int)
def dR (rs : List (Int × Int)) : PyData := .list (rs.map fun r => PyData.tuple [.int r.1, .int r.2])
theorem depthAll_le {k : Nat} : ∀ {ds : List PyData}, (∀ d ∈ ds, d.depth ≤ k) → PyData.depthAll ds ≤ k
  | [], _ => by simp [PyData.depthAll]
  | d :: ds, h => by
    have h1 := h d List.mem_cons_self
    have h2 := depthAll_le (k := k) (ds := ds) fun e he => h e (List.mem_cons_of_mem _ he)
    simp only [PyData.depthAll]
    omega
section
variable {K : PySem.W.Frag} {H : Hp} {l : Addr} {ns : List Int} {rs : List (Int × Int)} {bs : List V}
theorem tds_I : ∀ ns : List Int, Fh.TDs H (ns.map V.int) (ns.map PyData.int)
  | [] => .nil
  | n :: ns => .cons (.int n) (tds_I ns)
theorem tds_R (h : RVs H rs bs) : Fh.TDs H bs (rs.map fun r => PyData.tuple [.int r.1, .int r.2]) := by
  induction h with
  | nil => exact .nil
  | cons q _ ih =>
    obtain ⟨t, rfl, e⟩ := q
    exact .cons (.tup e (.cons (.int _) (.cons (.int _) .nil))) ih
theorem dp_I (h : SqL K H l (ns.map V.int)) : Dp K H (.ref l) (dI ns) := .lst h (Fh.TDs.dp (tds_I ns))
theorem dp_R (h : SqL K H l bs) (r : RVs H rs bs) : Dp K H (.ref l) (dR rs) := .lst h (Fh.TDs.dp (tds_R r))
theorem lay_I : (dI ns).canLay0 = true := by
  unfold dI
  rw [PyData.canLay0]
  exact Fh.TDs.lay (H := fun _ => none) (tds_I ns)
theorem lay_R : ∀ {rs : List (Int × Int)}, (dR rs).canLay0 = true := by
  intro rs
  unfold dR
  rw [PyData.canLay0]
  induction rs with
  | nil => rfl
  | cons r rs ih =>
    rw [List.map_cons, PyData.canLayAll0, ih]
    rfl
theorem shaped_I : SeqAt.shaped (dI ns) = true := by
  refine Fh.shaped_of lay_I ?_
  unfold dI
  have : PyData.depthAll (ns.map PyData.int) ≤ 10 := depthAll_le fun d hd => by
    obtain ⟨n, _, rfl⟩ := List.mem_map.mp hd
    simp [PyData.depth]
  simp only [PyData.depth]
  omega
theorem shaped_R : SeqAt.shaped (dR rs) = true := by
  refine Fh.shaped_of lay_R ?_
  unfold dR
  have : PyData.depthAll (rs.map fun r => PyData.tuple [.int r.1, .int r.2]) ≤ 10 := depthAll_le fun d hd => by
    obtain ⟨n, _, rfl⟩ := List.mem_map.mp hd
    simp [PyData.depth, PyData.depthAll]
  simp only [PyData.depth]
  omega
theorem eqv_I : PyData.eqv (dI ns) (dI ns) = true := SeqAt.eqv_refl _ lay_I
theorem eqv_R : PyData.eqv (dR rs) (dR rs) = true := SeqAt.eqv_refl _ lay_R
end
end Ce

/-! A long chain or ring of objects: what a start reaches in it. -/
namespace Ce
open PySem PySem.Spec PyProof.Rows L2
def cnC (r1 : Int) : Int := 1000 + r1 % 2001
def stp (r2 : Int) : Int := 1 + r2 % 3
def rev (r2 : Int) : Prop := r2 / 12 % 2 = 1
def ring (r2 : Int) : Prop := r2 / 6 % 2 = 1
instance (r2 : Int) : Decidable (rev r2) := inferInstanceAs (Decidable (_ = _))
instance (r2 : Int) : Decidable (ring r2) := inferInstanceAs (Decidable (_ = _))
def plc (r1 r2 at_ : Int) : Int := (if rev r2 ∧ at_ < cnC r1 then cnC r1 - 1 - at_ else at_) * stp r2
def nxt (r1 r2 at_ : Int) : Int := if at_ = cnC r1 - 1 ∧ ring r2 then plc r1 r2 0 else plc r1 r2 (at_ + 1)
def ent (r1 r2 mid at_ : Int) : Int × List Cell := (plc r1 r2 at_, if at_ = mid then [.non, .far (at_ % 8) (stp r2), .obj (nxt r1 r2 at_)] else [.obj (nxt r1 r2 at_)])
section
variable {r1 r2 mid : Int}
theorem cnC_lo : 1000 ≤ cnC r1 := by unfold cnC; have := Int.emod_nonneg r1 (b := 2001) (by decide); omega
theorem cnC_hi : cnC r1 ≤ 3000 := by unfold cnC; have := Int.emod_lt_of_pos r1 (b := 2001) (by decide); omega
theorem stp_lo : 1 ≤ stp r2 := by unfold stp; have := Int.emod_nonneg r2 (b := 3) (by decide); omega
theorem stp_hi : stp r2 ≤ 3 := by unfold stp; have := Int.emod_lt_of_pos r2 (b := 3) (by decide); omega
theorem mul_inj {a b s : Int} (hs : 1 ≤ s) (h : a * s = b * s) : a = b := Int.eq_of_mul_eq_mul_right (by omega) h
theorem plc_inj {a b : Int} (a0 : 0 ≤ a) (a1 : a ≤ cnC r1) (b0 : 0 ≤ b) (b1 : b ≤ cnC r1) (h : plc r1 r2 a = plc r1 r2 b) : a = b := by
  unfold plc at h
  have h := mul_inj stp_lo h
  by_cases hr : rev r2
  · by_cases ha : a < cnC r1
    · by_cases hb : b < cnC r1
      · rw [if_pos ⟨hr, ha⟩, if_pos ⟨hr, hb⟩] at h
        omega
      · rw [if_pos ⟨hr, ha⟩, if_neg fun z => hb z.2] at h
        omega
    · by_cases hb : b < cnC r1
      · rw [if_neg fun z => ha z.2, if_pos ⟨hr, hb⟩] at h
        omega
      · omega
  · rw [if_neg fun z => hr z.1, if_neg fun z => hr z.1] at h
    exact h
/-- the fields are those of the chain -/
structure Chain (r1 r2 mid : Int) (fs : Fields) : Prop where
  mem : ∀ p, p ∈ fs ↔ ∃ a, 0 ≤ a ∧ a < cnC r1 ∧ p = ent r1 r2 mid a
  len : (fs.length : Int) = cnC r1
theorem Chain.at_ {fs : Fields} (C : Chain r1 r2 mid fs) {a : Int} (a0 : 0 ≤ a) (a1 : a < cnC r1) {cs : List Cell} (h : (plc r1 r2 a, cs) ∈ fs) : cs = (ent r1 r2 mid a).2 := by
  obtain ⟨b, b0, b1, e⟩ := (C.mem _).mp h
  unfold ent at e
  injection e with e1 e2
  have := plc_inj a0 (by omega) b0 (by omega) e1
  subst this
  exact e2
theorem Chain.key {fs : Fields} (C : Chain r1 r2 mid fs) {n : Int} : IsKey fs n ↔ ∃ a, 0 ≤ a ∧ a < cnC r1 ∧ n = plc r1 r2 a := by
  constructor
  · rintro ⟨cs, h⟩
    obtain ⟨a, a0, a1, e⟩ := (C.mem _).mp h
    exact ⟨a, a0, a1, congrArg Prod.fst e⟩
  · rintro ⟨a, a0, a1, rfl⟩
    exact ⟨_, (C.mem _).mpr ⟨a, a0, a1, rfl⟩⟩
def low (r2 first : Int) : Int := if ring r2 then 0 else first
theorem nxt_obj {a : Int} : Cell.obj (nxt r1 r2 a) ∈ (ent r1 r2 mid a).2 := by
  unfold ent
  dsimp only
  split
  · exact List.mem_cons_of_mem _ (List.mem_cons_of_mem _ List.mem_cons_self)
  · exact List.mem_cons_self
theorem Chain.up {fs : Fields} (C : Chain r1 r2 mid fs) {s : Cell} {a : Int} (a0 : 0 ≤ a) (h : RC fs s (.obj (plc r1 r2 a))) : ∀ n : Nat, a + n < cnC r1 → RC fs s (.obj (plc r1 r2 (a + n)))
  | 0, _ => by
    have e : a + ((0 : Nat) : Int) = a := by omega
    rw [e]
    exact h
  | n + 1, hl => by
    have ih := Chain.up C a0 h n (by omega)
    have hm : (plc r1 r2 (a + n), (ent r1 r2 mid (a + n)).2) ∈ fs := (C.mem _).mpr ⟨a + n, by omega, by omega, rfl⟩
    have st := RC.step ih hm (nxt_obj (mid := mid)) (fun z => nomatch z)
    have e : nxt r1 r2 (a + n) = plc r1 r2 (a + ((n + 1 : Nat) : Int)) := by
      unfold nxt
      rw [if_neg (by omega)]
      congr 1
      omega
    rw [e] at st
    exact st
theorem Chain.all {fs : Fields} (C : Chain r1 r2 mid fs) {first : Int} (f0 : 0 ≤ first) (f1 : first < cnC r1) (m0 : 0 ≤ mid) (m1 : mid < cnC r1) (c : Cell) :
    RC fs (.obj (plc r1 r2 first)) c ↔ (∃ a, low r2 first ≤ a ∧ a < cnC r1 ∧ c = .obj (plc r1 r2 a)) ∨ (low r2 first ≤ mid ∧ c = .far (mid % 8) (stp r2)) ∨ (¬ ring r2 ∧ c = .obj (plc r1 r2 (cnC r1))) := by
  have lo0 : 0 ≤ low r2 first := by
    unfold low
    split <;> omega
  have lof : low r2 first ≤ first := by
    unfold low
    split <;> omega
  have reach : ∀ a, low r2 first ≤ a → a < cnC r1 → RC fs (.obj (plc r1 r2 first)) (.obj (plc r1 r2 a)) := by
    intro a h1 h2
    by_cases hr : ring r2
    · have top := C.up f0 RC.here (cnC r1 - 1 - first).toNat (by omega)
      have et : first + (((cnC r1 - 1 - first).toNat : Nat) : Int) = cnC r1 - 1 := by omega
      rw [et] at top
      have hm : (plc r1 r2 (cnC r1 - 1), (ent r1 r2 mid (cnC r1 - 1)).2) ∈ fs := (C.mem _).mpr ⟨cnC r1 - 1, by omega, by omega, rfl⟩
      have st := RC.step top hm (nxt_obj (mid := mid)) (fun z => nomatch z)
      have e : nxt r1 r2 (cnC r1 - 1) = plc r1 r2 0 := by
        unfold nxt
        rw [if_pos ⟨rfl, hr⟩]
      rw [e] at st
      have fin := C.up (Int.le_refl 0) st a.toNat (by omega)
      have ea : (0 : Int) + ((a.toNat : Nat) : Int) = a := by omega
      rw [ea] at fin
      exact fin
    · have el : low r2 first = first := by
        unfold low
        rw [if_neg hr]
      have fin := C.up f0 RC.here (a - first).toNat (by omega)
      have ea : first + (((a - first).toNat : Nat) : Int) = a := by omega
      rw [ea] at fin
      exact fin
  constructor
  · intro h
    induction h with
    | here => exact .inl ⟨first, lof, f1, rfl⟩
    | @step m cs c _ h2 h3 h4 ih =>
      obtain ⟨b, b0, b1, eb⟩ := C.key.mp ⟨cs, h2⟩
      have hb : low r2 first ≤ b := by
        rcases ih with ⟨a, a0, a1, e⟩ | ⟨_, e⟩ | ⟨_, e⟩
        · injection e with e
          rw [eb] at e
          have := plc_inj b0 (by omega) (by omega) (by omega) e
          omega
        · exact nomatch e
        · injection e with e
          rw [eb] at e
          have := plc_inj b0 (by omega) (by omega) (Int.le_refl _) e
          omega
      rw [eb] at h2
      have ec := C.at_ b0 b1 h2
      rw [ec] at h3
      have hn : c = .obj (nxt r1 r2 b) ∨ (b = mid ∧ c = .far (b % 8) (stp r2)) := by
        unfold ent at h3
        dsimp only at h3
        split at h3
        · rename_i em
          rcases List.mem_cons.mp h3 with e | h3
          · exact absurd e h4
          rcases List.mem_cons.mp h3 with e | h3
          · exact .inr ⟨em, e⟩
          · exact .inl (List.mem_singleton.mp h3)
        · exact .inl (List.mem_singleton.mp h3)
      rcases hn with e | ⟨em, e⟩
      · subst e
        unfold nxt
        split
        · rename_i hq
          refine .inl ⟨0, ?_, by omega, rfl⟩
          unfold low
          rw [if_pos hq.2]
          exact Int.le_refl _
        · rename_i hq
          by_cases hl : b + 1 < cnC r1
          · exact .inl ⟨b + 1, by omega, hl, rfl⟩
          · have e1 : b + 1 = cnC r1 := by omega
            refine .inr (.inr ⟨fun z => hq ⟨by omega, z⟩, by rw [e1]⟩)
      · subst em
        exact .inr (.inl ⟨hb, e⟩)
  · rintro (⟨a, a0, a1, rfl⟩ | ⟨hl, rfl⟩ | ⟨hr, rfl⟩)
    · exact reach a a0 a1
    · have hm : (plc r1 r2 mid, (ent r1 r2 mid mid).2) ∈ fs := (C.mem _).mpr ⟨mid, m0, m1, rfl⟩
      refine RC.step (reach mid hl m1) hm ?_ (fun z => nomatch z)
      unfold ent
      rw [if_pos rfl]
      exact List.mem_cons_of_mem _ List.mem_cons_self
    · have el : low r2 first = first := by
        unfold low
        rw [if_neg hr]
      have hm : (plc r1 r2 (cnC r1 - 1), (ent r1 r2 mid (cnC r1 - 1)).2) ∈ fs := (C.mem _).mpr ⟨cnC r1 - 1, by omega, by omega, rfl⟩
      have st := RC.step (reach (cnC r1 - 1) (by omega) (by omega)) hm (nxt_obj (mid := mid)) (fun z => nomatch z)
      have e : nxt r1 r2 (cnC r1 - 1) = plc r1 r2 (cnC r1) := by
        unfold nxt
        rw [if_neg fun z => hr z.2]
        congr 1
        omega
      rw [e] at st
      exact st
/-- what reach answers in the chain -/
theorem Chain.objs {fs : Fields} (C : Chain r1 r2 mid fs) {first : Int} (f0 : 0 ≤ first) (f1 : first < cnC r1) (m0 : 0 ≤ mid) (m1 : mid < cnC r1) (n : Int) :
    (RC fs (.obj (plc r1 r2 first)) (.obj n) ∧ IsKey fs n) ↔ ∃ a, low r2 first ≤ a ∧ a < cnC r1 ∧ n = plc r1 r2 a := by
  rw [C.all f0 f1 m0 m1, C.key]
  have lo0 : 0 ≤ low r2 first := by
    unfold low
    split <;> omega
  constructor
  · rintro ⟨h | ⟨_, h⟩ | ⟨_, h⟩, b, b0, b1, e⟩
    · obtain ⟨a, a0, a1, h⟩ := h
      injection h with h
      exact ⟨a, a0, a1, h⟩
    · exact nomatch h
    · injection h with h
      rw [e] at h
      have := plc_inj b0 (by omega) (by omega) (Int.le_refl _) h
      omega
  · rintro ⟨a, a0, a1, rfl⟩
    exact ⟨.inl ⟨a, a0, a1, rfl⟩, a, by omega, a1, rfl⟩
theorem Chain.refs {fs : Fields} (C : Chain r1 r2 mid fs) {first : Int} (f0 : 0 ≤ first) (f1 : first < cnC r1) (m0 : 0 ≤ mid) (m1 : mid < cnC r1) (r : Int × Int) :
    RC fs (.obj (plc r1 r2 first)) (.far r.1 r.2) ↔ low r2 first ≤ mid ∧ r = (mid % 8, stp r2) := by
  rw [C.all f0 f1 m0 m1]
  constructor
  · rintro (⟨_, _, _, h⟩ | ⟨hl, h⟩ | ⟨_, h⟩)
    · exact nomatch h
    · injection h with h1 h2
      exact ⟨hl, Prod.ext h1 h2⟩
    · exact nomatch h
  · rintro ⟨hl, rfl⟩
    exact .inr (.inl ⟨hl, rfl⟩)
end
end Ce

/-! Tables of greatest values, as dicts. -/
namespace Ce
open PySem PySem.Spec PyProof.Rows L2
section
variable {α κ : Type} [DecidableEq α] [DecidableEq κ]
def enc (f : α → κ) (L : List (α × Int)) : List (κ × V) := L.map fun p => (f p.1, V.int p.2)
def getL (L : List (α × Int)) (k : α) : Option Int := (L.find? fun p => decide (p.1 = k)).map (·.2)
def putL (L : List (α × Int)) (k : α) (v : Int) : List (α × Int) := if L.any (fun p => decide (p.1 = k)) then L.map (fun p => if p.1 = k then (p.1, v) else p) else L ++ [(k, v)]
variable {f : α → κ} (hf : ∀ a b, f a = f b → a = b)
include hf
theorem enc_val (k : α) : ∀ L : List (α × Int), valV (enc f L) (f k) = (getL L k).map V.int
  | [] => rfl
  | p :: L => by
    by_cases e : p.1 = k
    · unfold enc getL
      rw [List.map_cons, valV_pos (show f p.1 = f k by rw [e]), List.find?_cons_of_pos (by exact decide_eq_true e)]
      rfl
    · have ih := enc_val k L
      unfold enc getL at ih ⊢
      rw [List.map_cons, valV_neg (fun z => e (hf _ _ z)), List.find?_cons_of_neg (by rw [decide_eq_false e]; exact Bool.false_ne_true)]
      exact ih
theorem enc_put (L : List (α × Int)) (k : α) (v : Int) : putK (enc f L) (f k) (.int v) = enc f (putL L k v) := by
  have ha : ((enc f L).any fun kv => decide (kv.1 = f k)) = L.any fun p => decide (p.1 = k) := by
    unfold enc
    rw [List.any_map]
    congr 1
    funext p
    show decide (f p.1 = f k) = decide (p.1 = k)
    by_cases e : p.1 = k
    · rw [e, decide_eq_true rfl, decide_eq_true rfl]
    · rw [decide_eq_false e, decide_eq_false fun z => e (hf _ _ z)]
  unfold putK putL
  rw [ha]
  split
  · unfold enc
    rw [List.map_map, List.map_map]
    refine List.map_congr_left fun p _ => ?_
    show (if f p.1 = f k then (f p.1, V.int v) else (f p.1, V.int p.2)) = (f (if p.1 = k then (p.1, v) else p).1, V.int (if p.1 = k then (p.1, v) else p).2)
    by_cases e : p.1 = k
    · rw [if_pos e, if_pos (by rw [e])]
    · rw [if_neg e, if_neg fun z => e (hf _ _ z)]
  · unfold enc
    rw [List.map_append]
    rfl
end
section
variable {α : Type} [DecidableEq α]
theorem getL_some {L : List (α × Int)} {k : α} {v : Int} (h : getL L k = some v) : (k, v) ∈ L := by
  unfold getL at h
  obtain ⟨p, hp, rfl⟩ := Option.map_eq_some_iff.mp h
  have e : p.1 = k := by simpa using List.find?_some hp
  rw [← e]
  exact List.mem_of_find?_eq_some hp
theorem getL_none {L : List (α × Int)} {k : α} (h : getL L k = none) : ∀ v, (k, v) ∉ L := by
  intro v hm
  unfold getL at h
  have z := List.find?_eq_none.mp (Option.map_eq_none_iff.mp h) _ hm
  simp at z
theorem getL_nd {L : List (α × Int)} (hn : (L.map (·.1)).Nodup) {k : α} {v : Int} (h : (k, v) ∈ L) : getL L k = some v := by
  induction L with
  | nil => exact nomatch h
  | cons p L ih =>
    rw [List.map_cons, List.nodup_cons] at hn
    unfold getL
    rcases List.mem_cons.mp h with e | e
    · subst e
      rw [List.find?_cons_of_pos (by exact decide_eq_true rfl)]
      rfl
    · have ne : ¬ p.1 = k := fun z => hn.1 (z ▸ List.mem_map.mpr ⟨_, e, rfl⟩)
      rw [List.find?_cons_of_neg (by rw [decide_eq_false ne]; exact Bool.false_ne_true)]
      exact ih hn.2 e
theorem putL_nd {L : List (α × Int)} (h : (L.map (·.1)).Nodup) (k : α) (v : Int) : ((putL L k v).map (·.1)).Nodup := by
  unfold putL
  split
  · have e : (L.map fun p => if p.1 = k then (p.1, v) else p).map (·.1) = L.map (·.1) := by
      rw [List.map_map]
      refine List.map_congr_left fun p _ => ?_
      show (if p.1 = k then (p.1, v) else p).1 = p.1
      split <;> rfl
    rw [e]
    exact h
  · rename_i hn
    rw [List.map_append, List.nodup_append]
    refine ⟨h, by simp, fun x hx y hy z => hn ?_⟩
    rw [List.map_cons, List.map_nil, List.mem_singleton] at hy
    subst z hy
    obtain ⟨p, hp, e⟩ := List.mem_map.mp hx
    exact List.any_eq_true.mpr ⟨p, hp, decide_eq_true e⟩
theorem putL_mem {L : List (α × Int)} (hn : (L.map (·.1)).Nodup) {k k' : α} {v v' : Int} : (k', v') ∈ putL L k v ↔ (k' = k ∧ v' = v) ∨ (k' ≠ k ∧ (k', v') ∈ L) := by
  unfold putL
  split
  · rename_i ha
    rw [List.mem_map]
    constructor
    · rintro ⟨p, hp, e⟩
      by_cases ek : p.1 = k
      · rw [if_pos ek] at e
        cases e
        exact .inl ⟨ek, rfl⟩
      · rw [if_neg ek] at e
        subst e
        exact .inr ⟨ek, hp⟩
    · rintro (⟨rfl, rfl⟩ | ⟨hk, hm⟩)
      · obtain ⟨p, hp, e⟩ := List.any_eq_true.mp ha
        have e := of_decide_eq_true e
        exact ⟨p, hp, by rw [if_pos e, e]⟩
      · exact ⟨_, hm, by rw [if_neg hk]⟩
  · rename_i ha
    rw [List.mem_append, List.mem_singleton]
    constructor
    · rintro (h | h)
      · refine .inr ⟨fun e => ha (List.any_eq_true.mpr ⟨_, h, decide_eq_true e⟩), h⟩
      · cases h
        exact .inl ⟨rfl, rfl⟩
    · rintro (⟨rfl, rfl⟩ | ⟨_, h⟩)
      · exact .inr rfl
      · exact .inl h
theorem putL_len (L : List (α × Int)) (k : α) (v : Int) : (putL L k v).length ≤ L.length + 1 := by
  unfold putL
  split
  · rw [List.length_map]; omega
  · rw [List.length_append]; exact Nat.le_refl _
/-- the greatest of what each key is offered -/
structure TabP (P : α → Int → Prop) (L : List (α × Int)) : Prop where
  nd : (L.map (·.1)).Nodup
  mem : ∀ k v, (k, v) ∈ L ↔ P k v ∧ ∀ w, P k w → w ≤ v
  full : ∀ k w, P k w → ∃ v, (k, v) ∈ L
variable {P P' : α → Int → Prop} {L L' : List (α × Int)}
theorem TabP.nil (h : ∀ k v, ¬ P k v) : TabP P [] := ⟨List.nodup_nil, fun k v => ⟨fun z => (nomatch z), fun z => absurd z.1 (h k v)⟩, fun k v z => absurd z (h k v)⟩
theorem TabP.congr (T : TabP P L) (h : ∀ k v, P k v ↔ P' k v) : TabP P' L :=
  ⟨T.nd, fun k v => by
    rw [T.mem, h]
    exact ⟨fun ⟨a, b⟩ => ⟨a, fun w hw => b w ((h k w).mpr hw)⟩, fun ⟨a, b⟩ => ⟨a, fun w hw => b w ((h k w).mp hw)⟩⟩,
    fun k w z => T.full k w ((h k w).mpr z)⟩
/-- what is offered has a greatest -/
theorem TabP.has (T : TabP P L) {k : α} {v : Int} (h : getL L k = some v) : P k v ∧ ∀ w, P k w → w ≤ v := (T.mem k v).mp (getL_some h)
theorem TabP.put (T : TabP P L) (k0 : α) (v0 : Int) :
    TabP (fun k v => P k v ∨ (k = k0 ∧ v = v0)) (putL L k0 (match getL L k0 with | some w => if w > v0 then w else v0 | none => v0)) := by
  have hb : ∀ k w, P k w → ∃ v, getL L k = some v := fun k w h => by
    obtain ⟨v, hv⟩ := T.full k w h
    exact ⟨v, getL_nd T.nd hv⟩
  refine ⟨putL_nd T.nd _ _, fun k v => ?_, fun k w hw => ?_⟩
  rotate_left
  · by_cases hk : k = k0
    · exact ⟨_, (putL_mem T.nd).mpr (.inl ⟨hk, rfl⟩)⟩
    · rcases hw with hw | ⟨hw, _⟩
      · obtain ⟨v, hv⟩ := T.full k w hw
        exact ⟨v, (putL_mem T.nd).mpr (.inr ⟨hk, hv⟩)⟩
      · exact absurd hw hk
  rw [putL_mem T.nd]
  constructor
  · rintro (⟨rfl, rfl⟩ | ⟨hk, hm⟩)
    · cases e : getL L k with
      | none =>
        refine ⟨.inr ⟨rfl, rfl⟩, fun w hw => ?_⟩
        rcases hw with hw | ⟨_, hw⟩
        · obtain ⟨u, hu⟩ := hb k w hw
          rw [e] at hu
          cases hu
        · rw [hw]
          exact Int.le_refl _
      | some u =>
        obtain ⟨h1, h2⟩ := T.has e
        dsimp only
        split
        · rename_i hg
          refine ⟨.inl h1, fun w hw => ?_⟩
          rcases hw with hw | ⟨_, hw⟩
          · exact h2 w hw
          · omega
        · rename_i hg
          refine ⟨.inr ⟨rfl, rfl⟩, fun w hw => ?_⟩
          rcases hw with hw | ⟨_, hw⟩
          · have := h2 w hw
            omega
          · omega
    · obtain ⟨h1, h2⟩ := (T.mem k v).mp hm
      refine ⟨.inl h1, fun w hw => ?_⟩
      rcases hw with hw | ⟨hw, _⟩
      · exact h2 w hw
      · exact absurd hw hk
  · rintro ⟨h1, h2⟩
    by_cases hk : k = k0
    · subst hk
      refine .inl ⟨rfl, ?_⟩
      cases e : getL L k with
      | none =>
        rcases h1 with h1 | ⟨_, h1⟩
        · obtain ⟨u, hu⟩ := hb k v h1
          rw [e] at hu
          cases hu
        · exact h1
      | some u =>
        obtain ⟨h3, h4⟩ := T.has e
        dsimp only
        have h5 := h2 u (.inl h3)
        have h6 := h2 v0 (.inr ⟨rfl, rfl⟩)
        split
        · rcases h1 with h1 | ⟨_, h1⟩
          · have := h4 v h1
            omega
          · omega
        · rcases h1 with h1 | ⟨_, h1⟩
          · have := h4 v h1
            omega
          · exact h1
    · refine .inr ⟨hk, (T.mem k v).mpr ⟨?_, fun w hw => h2 w (.inl hw)⟩⟩
      rcases h1 with h1 | ⟨h1, _⟩
      · exact h1
      · exact absurd h1 hk
theorem TabP.get_eq (T : TabP P L) (T' : TabP P L') (k : α) : getL L k = getL L' k := by
  cases e : getL L k with
  | some v => exact (getL_nd T'.nd ((T'.mem k v).mpr (T.has e))).symm
  | none =>
    cases e' : getL L' k with
    | none => rfl
    | some v => exact absurd ((T.mem k v).mpr (T'.has e')) (getL_none e v)
theorem TabP.len_le (T : TabP P L) (T' : TabP P L') : L.length ≤ L'.length := by
  have h := nd_len (l := L.map (·.1)) (m := L'.map (·.1)) T.nd fun k hk => by
    obtain ⟨p, hp, rfl⟩ := List.mem_map.mp hk
    exact List.mem_map.mpr ⟨p, (T'.mem _ _).mpr ((T.mem _ _).mp hp), rfl⟩
  rw [List.length_map, List.length_map] at h
  exact h
theorem TabP.len_eq (T : TabP P L) (T' : TabP P L') : L.length = L'.length := Nat.le_antisymm (T.len_le T') (T'.len_le T)
end
/-! ### sources -/
abbrev Srcs := List (Cell × Int)
/-- offered by the sources: an object, a far reference -/
def offO (fs : Fields) (ss : Srcs) (n v : Int) : Prop := ∃ s, (s, v) ∈ ss ∧ RC fs s (.obj n) ∧ IsKey fs n
def offR (fs : Fields) (ss : Srcs) (r : Int × Int) (v : Int) : Prop := ∃ s, (s, v) ∈ ss ∧ RC fs s (.far r.1 r.2)
/-- a source in the heap -/
def SrcV (H : Hp) (p : Cell × Int) (v : V) : Prop := p.1 ≠ .non ∧ ∃ t sv, v = .ref t ∧ H t = some (.tup [sv, .int p.2]) ∧ CV H p.1 sv
theorem SrcV.tl {H H' : Hp} (t : TL H H') {p : Cell × Int} {v : V} (h : SrcV H p v) : SrcV H' p v := by
  obtain ⟨h1, a, sv, h2, h3, h4⟩ := h
  exact ⟨h1, a, sv, h2, t _ _ h3, h4.tl t⟩
abbrev SrcVs (H : Hp) : Srcs → List V → Prop := Paired (SrcV H)
theorem SrcVs.tl {H H' : Hp} (t : TL H H') {ss : Srcs} {vs : List V} (h : SrcVs H ss vs) : SrcVs H' ss vs := Paired.mapP h fun _ _ q => q.tl t
def kO (n : Int) : L2.Key := .inl n
def kR (r : Int × Int) : List L2.Key := [.inl r.1, .inl r.2]
theorem kO_inj (a b : Int) (h : kO a = kO b) : a = b := Sum.inl.inj h
theorem kR_inj (a b : Int × Int) (h : kR a = kR b) : a = b := by
  unfold kR at h
  injection h with h1 h2
  injection h2 with h2 _
  exact Prod.ext (Sum.inl.inj h1) (Sum.inl.inj h2)
/-- what greatest answers: a new pair of new dicts -/
structure Tops (H H' : Hp) (p : Addr) (fs : Fields) (ss : Srcs) (d1 d2 : Addr) (os : List (Int × Int)) (rs : List ((Int × Int) × Int)) : Prop where
  pt : H' p = some (.tup [.ref d1, .ref d2])
  h1 : H' d1 = some (.dK (enc kO os))
  h2 : H' d2 = some (.dT (enc kR rs))
  np : H p = none
  n1 : H d1 = none
  n2 : H d2 = none
  n12 : d1 ≠ d2
  t1 : TabP (offO fs ss) os
  t2 : TabP (offR fs ss) rs
section
variable {α : Type} [DecidableEq α] {P : α → Int → Prop} {L : List (α × Int)}
theorem TabP.bound (T : TabP P L) {m : List α} (h : ∀ k v, P k v → k ∈ m) : L.length ≤ m.length := by
  have q := nd_len (l := L.map (·.1)) (m := m) T.nd fun k hk => by
    obtain ⟨p, hp, rfl⟩ := List.mem_map.mp hk
    exact h _ _ ((T.mem _ _).mp hp).1
  rw [List.length_map] at q
  exact q
end
theorem mem_take1 {α : Type} {l : List α} {i : Nat} {x y : α} (h : l[i]? = some x) : y ∈ l.take (i + 1) ↔ y ∈ l.take i ∨ y = x := by
  rw [List.take_add_one, h, List.mem_append]
  show (_ ∨ y ∈ [x]) ↔ _
  rw [List.mem_singleton]
section
variable {fs : Fields} {ss : Srcs} {i : Nat} {c : Cell} {v0 : Int}
theorem offO_take (h : ss[i]? = some (c, v0)) (k v : Int) : offO fs (ss.take (i + 1)) k v ↔ offO fs (ss.take i) k v ∨ (RC fs c (.obj k) ∧ IsKey fs k ∧ v = v0) := by
  constructor
  · rintro ⟨s, hs, h1, h2⟩
    rcases (mem_take1 h).mp hs with e | e
    · exact .inl ⟨s, e, h1, h2⟩
    · cases e
      exact .inr ⟨h1, h2, rfl⟩
  · rintro (⟨s, hs, h1, h2⟩ | ⟨h1, h2, rfl⟩)
    · exact ⟨s, (mem_take1 h).mpr (.inl hs), h1, h2⟩
    · exact ⟨c, (mem_take1 h).mpr (.inr rfl), h1, h2⟩
theorem offR_take (h : ss[i]? = some (c, v0)) (r : Int × Int) (v : Int) : offR fs (ss.take (i + 1)) r v ↔ offR fs (ss.take i) r v ∨ (RC fs c (.far r.1 r.2) ∧ v = v0) := by
  constructor
  · rintro ⟨s, hs, h1⟩
    rcases (mem_take1 h).mp hs with e | e
    · exact .inl ⟨s, e, h1⟩
    · cases e
      exact .inr ⟨h1, rfl⟩
  · rintro (⟨s, hs, h1⟩ | ⟨h1, rfl⟩)
    · exact ⟨s, (mem_take1 h).mpr (.inl hs), h1⟩
    · exact ⟨c, (mem_take1 h).mpr (.inr rfl), h1⟩
/-- all that may be a far reference here -/
theorem offR_mem {r : Int × Int} {v : Int} (h : offR fs ss r v) : r ∈ refsOf (ss.map (·.1) ++ allC fs) := by
  obtain ⟨s, hs, h1⟩ := h
  refine Ce.mem_refs.mpr ?_
  rcases h1.src with e | e
  · rw [e]
    exact List.mem_append_left _ (List.mem_map.mpr ⟨_, hs, rfl⟩)
  · exact List.mem_append_right _ e
theorem refs_len (w : ∀ p ∈ fs, p.2.length ≤ 8) : (refsOf (ss.map (·.1) ++ allC fs)).length ≤ ss.length + 8 * fs.length := by
  have h := List.length_filterMap_le refF (ss.map (·.1) ++ allC fs)
  rw [List.length_append, List.length_map] at h
  have h2 := allC_len w
  unfold refsOf
  omega
theorem offO_key {k v : Int} (h : offO fs ss k v) : k ∈ fs.map (·.1) := by
  obtain ⟨_, _, _, h⟩ := h
  exact isKey_iff.mp h
end
/-! ### lists of sources as data -/
def cellD : Cell → PyData
  | .non => .none
  | .obj n => .int n
  | .far a b => .tuple [.int a, .int b]
def dS (ss : Srcs) : PyData := .list (ss.map fun q => PyData.tuple [cellD q.1, .int q.2])
section
variable {K : PySem.W.Frag} {H : Hp} {l : Addr} {ss : Srcs} {us : List V}
theorem td_cell : ∀ {c : Cell} {v : V}, CV H c v → Fh.TD H v (cellD c)
  | .non, _, h => by cases (show _ = V.non from h); exact .non
  | .obj n, _, h => by cases (show _ = V.int n from h); exact .int n
  | .far a b, _, ⟨t, e, h⟩ => by cases e; exact .tup h (.cons (.int a) (.cons (.int b) .nil))
theorem tds_S (h : SrcVs H ss us) : Fh.TDs H us (ss.map fun q => PyData.tuple [cellD q.1, .int q.2]) := by
  induction h with
  | nil => exact .nil
  | cons q _ ih =>
    obtain ⟨_, t, sv, rfl, e, h⟩ := q
    exact .cons (.tup e (.cons (td_cell h) (.cons (.int _) .nil))) ih
theorem dp_S (h : SqL K H l us) (r : SrcVs H ss us) : Dp K H (.ref l) (dS ss) := .lst h (Fh.TDs.dp (tds_S r))
theorem lay_cell : ∀ c : Cell, (cellD c).canLay0 = true
  | .non => rfl
  | .obj _ => rfl
  | .far _ _ => rfl
theorem depth_cell : ∀ c : Cell, (cellD c).depth ≤ 1
  | .non => by simp [cellD, PyData.depth]
  | .obj _ => by simp [cellD, PyData.depth]
  | .far _ _ => by simp [cellD, PyData.depth, PyData.depthAll]
theorem lay_S : ∀ {ss : Srcs}, (dS ss).canLay0 = true := by
  intro ss
  unfold dS
  rw [PyData.canLay0]
  induction ss with
  | nil => rfl
  | cons r rs ih =>
    rw [List.map_cons, PyData.canLayAll0, ih, PyData.canLay0, PyData.canLayAll0, lay_cell]
    rfl
theorem shaped_S : SeqAt.shaped (dS ss) = true := by
  refine Fh.shaped_of lay_S ?_
  unfold dS
  have : PyData.depthAll (ss.map fun q => PyData.tuple [cellD q.1, .int q.2]) ≤ 10 := depthAll_le fun d hd => by
    obtain ⟨n, _, rfl⟩ := List.mem_map.mp hd
    have := depth_cell n.1
    simp only [PyData.depth, PyData.depthAll]
    omega
  simp only [PyData.depth]
  omega
theorem eqv_S : PyData.eqv (dS ss) (dS ss) = true := SeqAt.eqv_refl _ lay_S
end
theorem pr_rev {α β : Type} {F : α → β → Prop} {l : List α} {m : List β} (h : Paired F l m) : Paired F l.reverse m.reverse := by
  induction h with
  | nil => exact .nil
  | cons q _ ih =>
    rw [List.reverse_cons, List.reverse_cons]
    exact pr_app ih (.cons q .nil)
theorem pr_take {α β : Type} {F : α → β → Prop} : ∀ (n : Nat) {l : List α} {m : List β}, Paired F l m → Paired F (l.take n) (m.take n)
  | 0, _, _, _ => .nil
  | _ + 1, _, _, .nil => .nil
  | n + 1, _, _, .cons q t => .cons q (pr_take n t)
theorem pr_drop {α β : Type} {F : α → β → Prop} : ∀ (n : Nat) {l : List α} {m : List β}, Paired F l m → Paired F (l.drop n) (m.drop n)
  | 0, _, _, h => h
  | _ + 1, _, _, .nil => .nil
  | n + 1, _, _, .cons _ t => pr_drop n t
section
variable {α : Type} [DecidableEq α] {P : α → Int → Prop} {L : List (α × Int)}
/-- a key that was not offered yet -/
theorem TabP.put1 (T : TabP P L) {k0 : α} {v0 : Int} {G : Int → Prop} (hn : ∀ v, ¬ P k0 v) (h0 : G v0) (h1 : ∀ w, G w → w ≤ v0) : TabP (fun k v => P k v ∨ (k = k0 ∧ G v)) (putL L k0 v0) := by
  refine ⟨putL_nd T.nd _ _, fun k v => ?_, fun k w hw => ?_⟩
  · rw [putL_mem T.nd]
    constructor
    · rintro (⟨rfl, rfl⟩ | ⟨hk, hm⟩)
      · exact ⟨.inr ⟨rfl, h0⟩, fun w hw => hw.elim (fun z => absurd z (hn w)) fun z => h1 w z.2⟩
      · obtain ⟨a, b⟩ := (T.mem k v).mp hm
        exact ⟨.inl a, fun w hw => hw.elim (b w) fun z => absurd z.1 hk⟩
    · rintro ⟨a, b⟩
      by_cases hk : k = k0
      · subst hk
        rcases a with a | ⟨_, a⟩
        · exact absurd a (hn v)
        · have := b v0 (.inr ⟨rfl, h0⟩)
          have := h1 v a
          exact .inl ⟨rfl, by omega⟩
      · refine .inr ⟨hk, (T.mem k v).mpr ⟨a.elim id fun z => absurd z.1 hk, fun w hw => b w (.inl hw)⟩⟩
  · by_cases hk : k = k0
    · exact ⟨v0, (putL_mem T.nd).mpr (.inl ⟨hk, rfl⟩)⟩
    · rcases hw with hw | ⟨hw, _⟩
      · obtain ⟨v, hv⟩ := T.full k w hw
        exact ⟨v, (putL_mem T.nd).mpr (.inr ⟨hk, hv⟩)⟩
      · exact absurd hw hk
end
/-! ### two sources in the chain, and others that are nowhere -/
theorem RC_nokey {fs : Fields} {m : Int} (h : ¬ IsKey fs m) {c : Cell} (r : RC fs (.obj m) c) : c = .obj m := by
  induction r with
  | here => rfl
  | step _ h2 _ _ ih =>
    injection ih with ih
    subst ih
    exact absurd ⟨_, h2⟩ h
section
variable {r1 r2 mid : Int} {fs : Fields}
theorem Chain.no (C : Chain r1 r2 mid fs) {k : Int} (h : 0 ≤ k) : ¬ IsKey fs ((cnC r1 + 1 + k) * stp r2) := by
  rw [C.key]
  rintro ⟨a, a0, a1, e⟩
  unfold plc at e
  have e := mul_inj stp_lo e
  split at e <;> omega
def offA (r2 f1 f2 v2 a w : Int) : Prop := (low r2 f1 ≤ a ∧ w = 3) ∨ (low r2 f2 ≤ a ∧ w = v2)
/-- the sources: two in the chain, others nowhere -/
structure Two (r1 r2 f1 f2 v2 : Int) (ss : Srcs) : Prop where
  a : (Cell.obj (plc r1 r2 f1), (3 : Int)) ∈ ss
  b : (Cell.obj (plc r1 r2 f2), v2) ∈ ss
  all : ∀ q ∈ ss, q = (Cell.obj (plc r1 r2 f1), (3 : Int)) ∨ q = (Cell.obj (plc r1 r2 f2), v2) ∨ ∃ k, 0 ≤ k ∧ q.1 = Cell.obj ((cnC r1 + 1 + k) * stp r2)
theorem Chain.offO (C : Chain r1 r2 mid fs) {f1 f2 v2 : Int} {ss : Srcs} (T : Two r1 r2 f1 f2 v2 ss) (f10 : 0 ≤ f1) (f11 : f1 < cnC r1) (f20 : 0 ≤ f2) (f21 : f2 < cnC r1) (m0 : 0 ≤ mid) (m1 : mid < cnC r1) (n w : Int) :
    Ce.offO fs ss n w ↔ ∃ a, 0 ≤ a ∧ a < cnC r1 ∧ n = plc r1 r2 a ∧ offA r2 f1 f2 v2 a w := by
  have lo : ∀ f, 0 ≤ f → 0 ≤ low r2 f := fun f h => by
    unfold low
    split <;> omega
  constructor
  · rintro ⟨s, hs, h⟩
    rcases T.all _ hs with e | e | ⟨k, k0, e⟩
    · cases e
      obtain ⟨a, a0, a1, rfl⟩ := (C.objs f10 f11 m0 m1 n).mp h
      have := lo f1 f10
      exact ⟨a, by omega, a1, rfl, .inl ⟨a0, rfl⟩⟩
    · cases e
      obtain ⟨a, a0, a1, rfl⟩ := (C.objs f20 f21 m0 m1 n).mp h
      have := lo f2 f20
      exact ⟨a, by omega, a1, rfl, .inr ⟨a0, rfl⟩⟩
    · have e : s = Cell.obj ((cnC r1 + 1 + k) * stp r2) := e
      subst e
      have := RC_nokey (C.no k0) h.1
      injection this with this
      rw [this] at h
      exact absurd h.2 (C.no k0)
  · rintro ⟨a, a0, a1, rfl, ⟨h, rfl⟩ | ⟨h, rfl⟩⟩
    · exact ⟨_, T.a, (C.objs f10 f11 m0 m1 _).mpr ⟨a, h, a1, rfl⟩⟩
    · exact ⟨_, T.b, (C.objs f20 f21 m0 m1 _).mpr ⟨a, h, a1, rfl⟩⟩
theorem Chain.offR (C : Chain r1 r2 mid fs) {f1 f2 v2 : Int} {ss : Srcs} (T : Two r1 r2 f1 f2 v2 ss) (f10 : 0 ≤ f1) (f11 : f1 < cnC r1) (f20 : 0 ≤ f2) (f21 : f2 < cnC r1) (m0 : 0 ≤ mid) (m1 : mid < cnC r1) (r : Int × Int) (w : Int) :
    Ce.offR fs ss r w ↔ r = (mid % 8, stp r2) ∧ offA r2 f1 f2 v2 mid w := by
  constructor
  · rintro ⟨s, hs, h⟩
    rcases T.all _ hs with e | e | ⟨k, k0, e⟩
    · cases e
      obtain ⟨a, b⟩ := (C.refs f10 f11 m0 m1 r).mp h
      exact ⟨b, .inl ⟨a, rfl⟩⟩
    · cases e
      obtain ⟨a, b⟩ := (C.refs f20 f21 m0 m1 r).mp h
      exact ⟨b, .inr ⟨a, rfl⟩⟩
    · have e : s = Cell.obj ((cnC r1 + 1 + k) * stp r2) := e
      subst e
      exact nomatch RC_nokey (C.no k0) h
  · rintro ⟨rfl, ⟨h, rfl⟩ | ⟨h, rfl⟩⟩
    · exact ⟨_, T.a, (C.refs f10 f11 m0 m1 _).mpr ⟨h, rfl⟩⟩
    · exact ⟨_, T.b, (C.refs f20 f21 m0 m1 _).mpr ⟨h, rfl⟩⟩
def stepA (r2 at_ v f w : Int) : Int := if low r2 f ≤ at_ then (if w > v then w else v) else v
def valA (r2 f1 f2 v2 at_ : Int) : Int := stepA r2 at_ (stepA r2 at_ 0 f1 3) f2 v2
theorem valA_max {f1 f2 v2 a w : Int} (h : offA r2 f1 f2 v2 a w) : w ≤ valA r2 f1 f2 v2 a := by
  unfold valA stepA
  rcases h with ⟨h, rfl⟩ | ⟨h, rfl⟩
  · rw [if_pos h]
    split <;> (try split) <;> omega
  · split <;> split <;> (try split) <;> (try split) <;> omega
theorem valA_off {f1 f2 v2 a : Int} (hv : 0 < valA r2 f1 f2 v2 a) : offA r2 f1 f2 v2 a (valA r2 f1 f2 v2 a) := by
  unfold valA stepA at hv ⊢
  unfold offA
  by_cases h1 : low r2 f1 ≤ a
  · by_cases h2 : low r2 f2 ≤ a
    · rw [if_pos h1, if_pos h2]
      rw [if_pos (show (3 : Int) > 0 by decide)]
      by_cases h3 : v2 > 3
      · rw [if_pos h3]
        exact .inr ⟨h2, rfl⟩
      · rw [if_neg h3]
        exact .inl ⟨h1, rfl⟩
    · rw [if_pos h1, if_neg h2, if_pos (show (3 : Int) > 0 by decide)]
      exact .inl ⟨h1, rfl⟩
  · by_cases h2 : low r2 f2 ≤ a
    · rw [if_neg h1, if_pos h2] at hv ⊢
      by_cases h3 : v2 > 0
      · rw [if_pos h3]
        exact .inr ⟨h2, rfl⟩
      · rw [if_neg h3] at hv
        omega
    · rw [if_neg h1, if_neg h2] at hv
      omega
theorem valA_none {f1 f2 v2 a w : Int} (hv : ¬ 0 < valA r2 f1 f2 v2 a) (h2 : 0 < v2) : ¬ offA r2 f1 f2 v2 a w := fun h => by
  have h1 := valA_max h
  rcases h with ⟨_, rfl⟩ | ⟨_, rfl⟩ <;> omega
end
end Ce

namespace Ce
open PySem L2 Sx
theorem TLs {T : Addr × Str} {H H' : Hp} (s : Sm T H H') : TL H H' := fun b xs h => s b _ h
end Ce

/-! What the tables of greatest values say of each thing, and how each value is explained. -/
namespace Ce
open PySem PySem.Spec PyProof.Rows L2 Hl
def valOf (os : List (Int × Int)) (rs : List ((Int × Int) × Int)) : Cell → Int
  | .non => -1
  | .obj n => (getL os n).getD (-1)
  | .far a b => (getL rs (a, b)).getD (-1)
theorem valOf_non {os : List (Int × Int)} {rs : List ((Int × Int) × Int)} : valOf os rs .non = -1 := rfl
theorem valOf_obj {os : List (Int × Int)} {rs : List ((Int × Int) × Int)} {n : Int} : valOf os rs (.obj n) = (getL os n).getD (-1) := rfl
theorem valOf_far {os : List (Int × Int)} {rs : List ((Int × Int) × Int)} {a b : Int} : valOf os rs (.far a b) = (getL rs (a, b)).getD (-1) := rfl
/-- offered to a thing -/
def offC (fs : Fields) (ss : Srcs) (c : Cell) (v : Int) : Prop := ∃ s, (s, v) ∈ ss ∧ RC fs s c ∧ c ≠ .non ∧ ∀ n, c = .obj n → IsKey fs n
section
variable {fs : Fields} {ss : Srcs} {os : List (Int × Int)} {rs : List ((Int × Int) × Int)} (T1 : TabP (offO fs ss) os) (T2 : TabP (offR fs ss) rs) (hp : ∀ q ∈ ss, 0 ≤ q.2)
include T1 T2
theorem valOf_ge {c : Cell} {v : Int} (h : offC fs ss c v) : v ≤ valOf os rs c := by
  obtain ⟨s, hs, hr, hn, hk⟩ := h
  cases c with
  | non => exact absurd rfl hn
  | obj n =>
    have o : offO fs ss n v := ⟨s, hs, hr, hk n rfl⟩
    obtain ⟨w, hw⟩ := T1.full n v o
    rw [valOf_obj]
    rw [getL_nd T1.nd hw]
    exact ((T1.mem n w).mp hw).2 v o
  | far a b =>
    have o : offR fs ss (a, b) v := ⟨s, hs, hr⟩
    obtain ⟨w, hw⟩ := T2.full (a, b) v o
    rw [valOf_far]
    rw [getL_nd T2.nd hw]
    exact ((T2.mem (a, b) w).mp hw).2 v o
theorem valOf_off {c : Cell} (h : 0 ≤ valOf os rs c) : offC fs ss c (valOf os rs c) := by
  cases c with
  | non => rw [valOf_non] at h; omega
  | obj n =>
    rw [valOf_obj] at h ⊢
    cases e : getL os n with
    | none => rw [e] at h; exact absurd h (by decide)
    | some w =>
      obtain ⟨⟨s, hs, hr, hk⟩, _⟩ := T1.has e
      exact ⟨s, hs, hr, (fun z => nomatch z), fun m z => by cases z; exact hk⟩
  | far a b =>
    rw [valOf_far] at h ⊢
    cases e : getL rs (a, b) with
    | none => rw [e] at h; exact absurd h (by decide)
    | some w =>
      obtain ⟨⟨s, hs, hr⟩, _⟩ := T2.has e
      exact ⟨s, hs, hr, (fun z => nomatch z), fun m z => nomatch z⟩
include hp
theorem valOf_lo (c : Cell) : -1 ≤ valOf os rs c := by
  cases c with
  | non => exact Int.le_refl _
  | obj n =>
    rw [valOf_obj]
    cases e : getL os n with
    | none => exact Int.le_refl _
    | some w =>
      obtain ⟨⟨s, hs, _⟩, _⟩ := T1.has e
      have := hp _ hs
      show -1 ≤ w
      dsimp only at this
      omega
  | far a b =>
    rw [valOf_far]
    cases e : getL rs (a, b) with
    | none => exact Int.le_refl _
    | some w =>
      obtain ⟨⟨s, hs, _⟩, _⟩ := T2.has e
      have := hp _ hs
      show -1 ≤ w
      dsimp only at this
      omega
/-- a source's own value -/
theorem high_start {s : Cell} {v : Int} (h : (s, v) ∈ ss) (hn : s ≠ .non) (hk : ∀ n, s = .obj n → IsKey fs n) : v ≤ valOf os rs s := valOf_ge T1 T2 ⟨s, h, .here, hn, hk⟩
/-- a field's value -/
theorem high_field {m : Int} {cs : List Cell} {c : Cell} (h : (m, cs) ∈ fs) (hc : c ∈ cs) (hn : c ≠ .non) (hk : ∀ n, c = .obj n → IsKey fs n) : valOf os rs (.obj m) ≤ valOf os rs c := by
  by_cases h0 : 0 ≤ valOf os rs (.obj m)
  · obtain ⟨s, hs, hr, _, _⟩ := valOf_off T1 T2 h0
    exact valOf_ge T1 T2 ⟨s, hs, .step hr h hc hn, hn, hk⟩
  · have := valOf_lo T1 T2 hp c
    omega
end
/-! ### the walk that explains -/
structure WE (fs : Fields) (ss : Srcs) (vl : Cell → Int) (ws : List Cell) (i : Nat) : Prop where
  nd : ws.Nodup
  src : ∀ c ∈ ws, c ∈ ss.map (·.1) ∨ c ∈ allC fs
  val : ∀ c ∈ ws, 0 ≤ vl c
  done : ∀ (j : Nat) (m : Int) (cs : List Cell), j < i → ws[j]? = some (.obj m) → (m, cs) ∈ fs → ∀ c ∈ cs, c ≠ .non → vl c = vl (.obj m) → c ∈ ws
section
variable {fs : Fields} {ss : Srcs} {vl : Cell → Int} {ws : List Cell} {i : Nat}
theorem WE.len (w : WE fs ss vl ws i) (h : ∀ p ∈ fs, p.2.length ≤ 8) : ws.length ≤ ss.length + 8 * fs.length := by
  have h1 := nd_len (l := ws) (m := ss.map (·.1) ++ allC fs) w.nd fun c hc => List.mem_append.mpr (w.src c hc)
  rw [List.length_append, List.length_map] at h1
  have h2 := allC_len h
  omega
theorem WE.nil : WE fs ss vl [] 0 := ⟨List.nodup_nil, fun _ h => (nomatch h), fun _ h => (nomatch h), fun _ _ _ h => absurd h (Nat.not_lt_zero _)⟩
theorem WE.snoc (w : WE fs ss vl ws 0) {c : Cell} (h1 : c ∈ ss.map (·.1)) (h2 : c ∉ ws) (h3 : 0 ≤ vl c) : WE fs ss vl (ws ++ [c]) 0 := by
  have hm : ∀ x ∈ ws ++ [c], x ∈ ws ∨ x = c := fun x hx => (List.mem_append.mp hx).imp_right List.mem_singleton.mp
  refine ⟨?_, fun x hx => ?_, fun x hx => ?_, fun _ _ _ h => absurd h (Nat.not_lt_zero _)⟩
  · rw [List.nodup_append]
    exact ⟨w.nd, by simp, fun x hx y hy z => h2 (by rw [← List.mem_singleton.mp hy, ← z]; exact hx)⟩
  · rcases hm x hx with q | q
    · exact w.src x q
    · rw [q]; exact .inl h1
  · rcases hm x hx with q | q
    · exact w.val x q
    · rw [q]; exact h3
theorem WE.pass (w : WE fs ss vl ws i) {c : Cell} (h : ws[i]? = some c) (hc : ∀ m, c = .obj m → ¬ IsKey fs m) : WE fs ss vl ws (i + 1) :=
  ⟨w.nd, w.src, w.val, fun j n ds hj hn hd c' hc' hcn he => by
    rcases Nat.lt_or_eq_of_le (Nat.le_of_lt_succ hj) with q | q
    · exact w.done j n ds q hn hd c' hc' hcn he
    · rw [q, h] at hn
      cases hn
      exact absurd ⟨ds, hd⟩ (hc n rfl)⟩
/-- in the middle of a turn -/
structure TE (fs : Fields) (ss : Srcs) (vl : Cell → Int) (ws : List Cell) (i : Nat) (m : Int) (cs : List Cell) (k : Nat) : Prop where
  walk : WE fs ss vl ws i
  at_ : ws[i]? = some (.obj m)
  mem : (m, cs) ∈ fs
  seen : ∀ (j : Nat) (c : Cell), j < k → cs[j]? = some c → c ≠ .non → vl c = vl (.obj m) → c ∈ ws
variable {m : Int} {cs : List Cell} {k : Nat} {c : Cell}
theorem TE.skip (t : TE fs ss vl ws i m cs k) (hc : cs[k]? = some c) (h : c = .non ∨ c ∈ ws ∨ vl c ≠ vl (.obj m)) : TE fs ss vl ws i m cs (k + 1) :=
  ⟨t.walk, t.at_, t.mem, fun j d hj hd hn he => by
    rcases Nat.lt_or_eq_of_le (Nat.le_of_lt_succ hj) with q | q
    · exact t.seen j d q hd hn he
    · rw [q, hc] at hd
      cases hd
      rcases h with h | h | h
      · exact absurd h hn
      · exact h
      · exact absurd he h⟩
theorem TE.add (t : TE fs ss vl ws i m cs k) (hc : cs[k]? = some c) (h1 : c ≠ .non) (h2 : c ∉ ws) (h3 : vl c = vl (.obj m)) : TE fs ss vl (ws ++ [c]) i m cs (k + 1) := by
  have hm : ∀ x ∈ ws ++ [c], x ∈ ws ∨ x = c := fun x hx => (List.mem_append.mp hx).imp_right List.mem_singleton.mp
  have hcm := List.mem_of_getElem? hc
  refine ⟨⟨?_, fun x hx => ?_, fun x hx => ?_, fun j n ds hj hn hd x hx hxn he => ?_⟩, get_app t.at_, t.mem, fun j d hj hd hn he => ?_⟩
  · rw [List.nodup_append]
    exact ⟨t.walk.nd, by simp, fun x hx y hy z => h2 (by rw [← List.mem_singleton.mp hy, ← z]; exact hx)⟩
  · rcases hm x hx with q | q
    · exact t.walk.src x q
    · rw [q]; exact .inr (mem_allC t.mem hcm)
  · rcases hm x hx with q | q
    · exact t.walk.val x q
    · rw [q, h3]; exact t.walk.val _ (List.mem_of_getElem? t.at_)
  · have hl : j < ws.length := Nat.lt_trans hj (List.getElem?_eq_some_iff.mp t.at_).1
    rw [List.getElem?_append_left hl] at hn
    exact List.mem_append_left _ (t.walk.done j n ds hj hn hd x hx hxn he)
  · rcases Nat.lt_or_eq_of_le (Nat.le_of_lt_succ hj) with q | q
    · exact List.mem_append_left _ (t.seen j d q hd hn he)
    · rw [q, hc] at hd
      cases hd
      exact List.mem_append_right _ List.mem_cons_self
theorem TE.end_ (hnd : (fs.map (·.1)).Nodup) (t : TE fs ss vl ws i m cs k) (hk : cs.length ≤ k) : WE fs ss vl ws (i + 1) :=
  ⟨t.walk.nd, t.walk.src, t.walk.val, fun j n ds hj hn hd c hc hcn he => by
    rcases Nat.lt_or_eq_of_le (Nat.le_of_lt_succ hj) with q | q
    · exact t.walk.done j n ds q hn hd c hc hcn he
    · rw [q, t.at_] at hn
      cases hn
      rw [cellsOf_nd hnd hd t.mem] at hc
      obtain ⟨l, hl⟩ := List.mem_iff_getElem?.mp hc
      exact t.seen l c (Nat.lt_of_lt_of_le (List.getElem?_eq_some_iff.mp hl).1 hk) hl hcn he⟩
end
/-- all that has a value is explained -/
theorem explained {fs : Fields} {ss : Srcs} {os : List (Int × Int)} {rs : List ((Int × Int) × Int)} (T1 : TabP (offO fs ss) os) (T2 : TabP (offR fs ss) rs) (hp : ∀ q ∈ ss, 0 ≤ q.2) (hn : ∀ q ∈ ss, q.1 ≠ .non)
    {ws : List Cell} {i : Nat} (W : WE fs ss (valOf os rs) ws i) (hi : ws.length ≤ i) (st : ∀ q ∈ ss, valOf os rs q.1 = q.2 → q.1 ∈ ws) : ws.length = os.length + rs.length := by
  have all : ∀ c, 0 ≤ valOf os rs c → c ∈ ws := by
    intro c hc
    obtain ⟨s, hs, hr, hcn, hk⟩ := valOf_off T1 T2 hc
    have key : ∀ x, RC fs s x → x ≠ .non → (∀ n, x = .obj n → IsKey fs n) → valOf os rs x = valOf os rs c → x ∈ ws := by
      intro x hx
      induction hx with
      | here => exact fun _ _ e => st _ hs e
      | @step m cs y h1 h2 h3 h4 ih =>
        intro _ hk' e
        have ge1 : valOf os rs c ≤ valOf os rs (.obj m) := valOf_ge T1 T2 ⟨s, hs, h1, (fun z => nomatch z), fun n z => by cases z; exact ⟨_, h2⟩⟩
        have le1 : valOf os rs (.obj m) ≤ valOf os rs y := high_field T1 T2 hp h2 h3 h4 hk'
        have em : valOf os rs (.obj m) = valOf os rs c := by omega
        have hm := ih (fun z => nomatch z) (fun n z => by cases z; exact ⟨_, h2⟩) em
        obtain ⟨j, hj⟩ := List.mem_iff_getElem?.mp hm
        exact W.done j m cs (Nat.lt_of_lt_of_le (List.getElem?_eq_some_iff.mp hj).1 hi) hj h2 y h3 h4 (by omega)
    exact key c hr hcn hk rfl
  have two : ∀ c, c ∈ os.map (fun q => Cell.obj q.1) ++ rs.map (fun q => Cell.far q.1.1 q.1.2) ↔ 0 ≤ valOf os rs c := by
    intro c
    rw [List.mem_append, List.mem_map, List.mem_map]
    constructor
    · rintro (⟨q, hq, rfl⟩ | ⟨q, hq, rfl⟩)
      · obtain ⟨⟨s, hs, _⟩, _⟩ := (T1.mem q.1 q.2).mp hq
        have := hp _ hs
        rw [valOf_obj, getL_nd T1.nd hq]
        exact this
      · obtain ⟨⟨s, hs, _⟩, _⟩ := (T2.mem q.1 q.2).mp hq
        have := hp _ hs
        rw [valOf_far, show (q.1.1, q.1.2) = q.1 from rfl, getL_nd T2.nd hq]
        exact this
    · intro h
      cases c with
      | non => rw [valOf_non] at h; omega
      | obj n =>
        rw [valOf_obj] at h
        cases e : getL os n with
        | none => rw [e] at h; exact absurd h (by decide)
        | some w => exact .inl ⟨_, getL_some e, rfl⟩
      | far a b =>
        rw [valOf_far] at h
        cases e : getL rs (a, b) with
        | none => rw [e] at h; exact absurd h (by decide)
        | some w => exact .inr ⟨_, getL_some e, rfl⟩
  have nd2 : (os.map (fun q => Cell.obj q.1) ++ rs.map (fun q => Cell.far q.1.1 q.1.2)).Nodup := by
    rw [List.nodup_append]
    refine ⟨?_, ?_, fun x hx y hy e => ?_⟩
    · have h := T1.nd
      have e : os.map (fun q => Cell.obj q.1) = (os.map (·.1)).map Cell.obj := by rw [List.map_map]; rfl
      rw [e]
      exact List.Pairwise.map _ (fun a b (z : a ≠ b) y => z (by injection y)) h
    · have h := T2.nd
      have e : rs.map (fun q => Cell.far q.1.1 q.1.2) = (rs.map (·.1)).map fun r => Cell.far r.1 r.2 := by rw [List.map_map]; rfl
      rw [e]
      exact List.Pairwise.map _ (fun a b (z : a ≠ b) y => z (by injection y with h1 h2; exact Prod.ext h1 h2)) h
    · obtain ⟨p, _, rfl⟩ := List.mem_map.mp hx
      obtain ⟨q, _, rfl⟩ := List.mem_map.mp hy
      exact nomatch e
  have l1 := nd_len W.nd fun c hc => (two c).mpr (W.val c hc)
  have l2 := nd_len nd2 fun c hc => all c ((two c).mp hc)
  rw [List.length_append, List.length_map, List.length_map] at l1 l2
  omega
/-! ### one source; the pair of both lists as data -/
theorem keys_oneO {fs : Fields} {c : Cell} {v : Int} {os : List (Int × Int)} (T : TabP (offO fs [(c, v)]) os) (n : Int) : n ∈ os.map (·.1) ↔ RC fs c (.obj n) ∧ IsKey fs n := by
  constructor
  · intro h
    obtain ⟨q, hq, rfl⟩ := List.mem_map.mp h
    obtain ⟨⟨s, hs, h1⟩, _⟩ := (T.mem q.1 q.2).mp hq
    have e := List.mem_singleton.mp hs
    cases e
    exact h1
  · intro h
    obtain ⟨w, hw⟩ := T.full n v ⟨c, List.mem_cons_self, h⟩
    exact List.mem_map.mpr ⟨_, hw, rfl⟩
theorem keys_oneR {fs : Fields} {c : Cell} {v : Int} {rs : List ((Int × Int) × Int)} (T : TabP (offR fs [(c, v)]) rs) (r : Int × Int) : r ∈ rs.map (·.1) ↔ RC fs c (.far r.1 r.2) := by
  constructor
  · intro h
    obtain ⟨q, hq, rfl⟩ := List.mem_map.mp h
    obtain ⟨⟨s, hs, h1⟩, _⟩ := (T.mem q.1 q.2).mp hq
    have e := List.mem_singleton.mp hs
    cases e
    exact h1
  · intro h
    obtain ⟨w, hw⟩ := T.full r v ⟨c, List.mem_cons_self, h⟩
    exact List.mem_map.mpr ⟨_, hw, rfl⟩
theorem rvs_keys {H : Hp} {bs : List Addr} : ∀ {rs : List ((Int × Int) × Int)}, IsKeys H (enc kR rs) bs → RVs H (rs.map (·.1)) (bs.map V.ref) := by
  intro rs
  induction rs generalizing bs with
  | nil =>
    intro h
    unfold IsKeys enc at h
    rw [List.map_nil] at h
    cases h
    exact .nil
  | cons r rs ih =>
    intro h
    unfold IsKeys enc at h
    rw [List.map_cons] at h
    cases h with
    | cons q t => exact .cons ⟨_, rfl, q⟩ (ih t)
def dP (ns : List Int) (rs : List (Int × Int)) : PyData := .tuple [dI ns, dR rs]
section
variable {K : PySem.W.Frag} {H : Hp} {p l1 l2 : Addr} {ns : List Int} {rs : List (Int × Int)} {bs : List V}
theorem dp_P (hp : H p = some (.tup [.ref l1, .ref l2])) (h1 : H l1 = some (.lst (ns.map V.int))) (h2 : H l2 = some (.lst bs)) (rv : RVs H rs bs) : Dp K H (.ref p) (dP ns rs) :=
  .tup (SqT.of hp) (.cons (dp_I (SqL.of h1)) (.cons (dp_R (SqL.of h2) rv) .nil))
theorem lay_P : (dP ns rs).canLay0 = true := by
  unfold dP
  rw [PyData.canLay0, PyData.canLayAll0, PyData.canLayAll0, PyData.canLayAll0, lay_I, lay_R]
  rfl
theorem shaped_P : SeqAt.shaped (dP ns rs) = true := by
  refine Fh.shaped_of lay_P ?_
  have h1 : (dI ns).depth ≤ 11 := by
    unfold dI
    have : PyData.depthAll (ns.map PyData.int) ≤ 10 := depthAll_le fun d hd => by
      obtain ⟨n, _, rfl⟩ := List.mem_map.mp hd
      simp [PyData.depth]
    simp only [PyData.depth]
    omega
  have h2 : (dR rs).depth ≤ 11 := by
    unfold dR
    have : PyData.depthAll (rs.map fun r => PyData.tuple [.int r.1, .int r.2]) ≤ 10 := depthAll_le fun d hd => by
      obtain ⟨n, _, rfl⟩ := List.mem_map.mp hd
      simp [PyData.depth, PyData.depthAll]
    simp only [PyData.depth]
    omega
  unfold dP
  simp only [PyData.depth, PyData.depthAll]
  omega
theorem eqv_P : PyData.eqv (dP ns rs) (dP ns rs) = true := SeqAt.eqv_refl _ lay_P
end
end Ce

/-! The walk from one source after another, the greatest value first. -/
namespace Ce
open PySem PySem.Spec PyProof.Rows L2
abbrev keysL {α : Type} (L : List (α × Int)) : List α := L.map (·.1)
theorem key_mem {α : Type} {L : List (α × Int)} {k : α} {v : Int} (h : (k, v) ∈ L) : k ∈ keysL L := List.mem_map.mpr ⟨_, h, rfl⟩
theorem mem_key {α : Type} {L : List (α × Int)} {k : α} (h : k ∈ keysL L) : ∃ v, (k, v) ∈ L := by
  obtain ⟨p, hp, rfl⟩ := List.mem_map.mp h
  exact ⟨p.2, hp⟩
/-- x is found, or no thing to be found -/
def Found (fs : Fields) (os : List (Int × Int)) (rs : List ((Int × Int) × Int)) : Cell → Prop
  | .non => True
  | .obj n => n ∈ keysL os ∨ ¬ IsKey fs n
  | .far a b => (a, b) ∈ keysL rs
/-- while the walk from c, of value v, goes on; W: what waits -/
structure Dfs (fs : Fields) (c : Cell) (v : Int) (os0 : List (Int × Int)) (rs0 : List ((Int × Int) × Int)) (os : List (Int × Int)) (rs : List ((Int × Int) × Int)) (W : List Cell) : Prop where
  o1 : ∀ p ∈ os0, p ∈ os
  o2 : ∀ p ∈ os, p ∈ os0 ∨ (p.2 = v ∧ RC fs c (.obj p.1) ∧ IsKey fs p.1 ∧ p.1 ∉ keysL os0)
  on : (keysL os).Nodup
  r1 : ∀ p ∈ rs0, p ∈ rs
  r2 : ∀ p ∈ rs, p ∈ rs0 ∨ (p.2 = v ∧ RC fs c (.far p.1.1 p.1.2) ∧ p.1 ∉ keysL rs0)
  rn : (keysL rs).Nodup
  w : ∀ x ∈ W, x = .non ∨ RC fs c x
  cl : ∀ n ∈ keysL os, n ∉ keysL os0 → ∀ cs, (n, cs) ∈ fs → ∀ x ∈ cs, x ∈ W ∨ Found fs os rs x
  st : c ∈ W ∨ Found fs os rs c
  wl : W.length + 8 * os0.length ≤ 8 * os.length + 1
section
variable {fs : Fields} {c : Cell} {v : Int} {os0 os : List (Int × Int)} {rs0 rs : List ((Int × Int) × Int)} {W : List Cell}
theorem Dfs.start (hc : c ≠ .non) (on : (keysL os0).Nodup) (rn : (keysL rs0).Nodup) : Dfs fs c v os0 rs0 os0 rs0 [c] where
  o1 := fun _ h => h
  o2 := fun _ h => .inl h
  on := on
  r1 := fun _ h => h
  r2 := fun _ h => .inl h
  rn := rn
  w := fun x h => by rw [List.mem_singleton.mp h]; exact .inr .here
  cl := fun n h1 h2 => absurd h1 h2
  st := .inl (List.mem_singleton.mpr rfl)
  wl := by simp; omega
theorem Found.mono {os' : List (Int × Int)} {rs' : List ((Int × Int) × Int)} (h1 : ∀ n ∈ keysL os, n ∈ keysL os') (h2 : ∀ r ∈ keysL rs, r ∈ keysL rs') : ∀ {x : Cell}, Found fs os rs x → Found fs os' rs' x
  | .non, _ => trivial
  | .obj n, h => h.elim (fun h => .inl (h1 n h)) .inr
  | .far a b, h => h2 _ h
/-- what waits is taken, and is no news -/
theorem Dfs.pass {x : Cell} (D : Dfs fs c v os0 rs0 os rs (W ++ [x])) (h : Found fs os rs x) : Dfs fs c v os0 rs0 os rs W where
  o1 := D.o1
  o2 := D.o2
  on := D.on
  r1 := D.r1
  r2 := D.r2
  rn := D.rn
  w := fun y hy => D.w y (List.mem_append_left _ hy)
  cl := fun n h1 h2 cs hc y hy => by
    rcases D.cl n h1 h2 cs hc y hy with q | q
    · rcases List.mem_append.mp q with q | q
      · exact .inl q
      · rw [List.mem_singleton.mp q]; exact .inr h
    · exact .inr q
  st := by
    rcases D.st with q | q
    · rcases List.mem_append.mp q with q | q
      · exact .inl q
      · rw [List.mem_singleton.mp q]; exact .inr h
    · exact .inr q
  wl := by have := D.wl; rw [List.length_append] at this; simp at this; omega
theorem Dfs.far {a b : Int} (D : Dfs fs c v os0 rs0 os rs (W ++ [.far a b])) (h : (a, b) ∉ keysL rs) : Dfs fs c v os0 rs0 os (putL rs (a, b) v) W := by
  have hw : RC fs c (.far a b) := by
    rcases D.w _ (List.mem_append_right _ (List.mem_singleton.mpr rfl)) with e | e
    · cases e
    · exact e
  have km : ∀ r ∈ keysL rs, r ∈ keysL (putL rs (a, b) v) := fun r hr => by
    obtain ⟨w, hw⟩ := mem_key hr
    by_cases e : r = (a, b)
    · subst e
      exact key_mem (v := v) ((putL_mem D.rn).mpr (.inl ⟨rfl, rfl⟩))
    · exact key_mem ((putL_mem D.rn).mpr (.inr ⟨e, hw⟩))
  have D' : Dfs fs c v os0 rs0 os (putL rs (a, b) v) (W ++ [.far a b]) :=
    { D with
      r1 := fun p hp => (putL_mem D.rn (k' := p.1) (v' := p.2)).mpr (.inr ⟨fun e => h (e ▸ key_mem (v := p.2) (D.r1 p hp)), D.r1 p hp⟩)
      r2 := fun p hp => by
        rcases (putL_mem D.rn (k' := p.1) (v' := p.2)).mp hp with ⟨e1, e2⟩ | ⟨_, e⟩
        · refine .inr ⟨e2, by rw [e1]; exact hw, fun z => ?_⟩
          obtain ⟨w, hw⟩ := mem_key z
          exact h (e1 ▸ key_mem (D.r1 _ hw))
        · exact D.r2 p e
      rn := putL_nd D.rn _ _
      cl := fun n h1 h2 cs hc y hy => (D.cl n h1 h2 cs hc y hy).imp id fun q => q.mono (fun _ z => z) km
      st := D.st.imp id fun q => q.mono (fun _ z => z) km }
  exact D'.pass (show (a, b) ∈ keysL _ from key_mem (v := v) ((putL_mem D.rn).mpr (.inl ⟨rfl, rfl⟩)))
theorem Dfs.obj {n : Int} {cs : List Cell} (hnd : (fs.map (·.1)).Nodup) (D : Dfs fs c v os0 rs0 os rs (W ++ [.obj n])) (h : n ∉ keysL os) (hf : (n, cs) ∈ fs) (hl : cs.length ≤ 8) : Dfs fs c v os0 rs0 (putL os n v) rs (W ++ cs) := by
  have hw : RC fs c (.obj n) := by
    rcases D.w _ (List.mem_append_right _ (List.mem_singleton.mpr rfl)) with e | e
    · cases e
    · exact e
  have hin : n ∈ keysL (putL os n v) := key_mem (v := v) ((putL_mem D.on).mpr (.inl ⟨rfl, rfl⟩))
  have km : ∀ r ∈ keysL os, r ∈ keysL (putL os n v) := fun r hr => by
    obtain ⟨w, hw⟩ := mem_key hr
    by_cases e : r = n
    · subst e
      exact hin
    · exact key_mem ((putL_mem D.on).mpr (.inr ⟨e, hw⟩))
  have move : ∀ x, x ∈ W ++ [Cell.obj n] ∨ Found fs os rs x → x ∈ W ++ cs ∨ Found fs (putL os n v) rs x := fun x q => by
    rcases q with q | q
    · rcases List.mem_append.mp q with q | q
      · exact .inl (List.mem_append_left _ q)
      · rw [List.mem_singleton.mp q]
        exact .inr (show _ ∨ _ from .inl hin)
    · exact .inr (q.mono km fun _ z => z)
  have len : (putL os n v).length = os.length + 1 := by
    unfold putL
    rw [if_neg]
    · rw [List.length_append]; rfl
    · intro z
      obtain ⟨p, hp, e⟩ := List.any_eq_true.mp z
      exact h ((of_decide_eq_true e) ▸ key_mem (v := p.2) hp)
  exact {
    o1 := fun p hp => (putL_mem D.on (k' := p.1) (v' := p.2)).mpr (.inr ⟨fun e => h (e ▸ key_mem (v := p.2) (D.o1 p hp)), D.o1 p hp⟩)
    o2 := fun p hp => by
      rcases (putL_mem D.on (k' := p.1) (v' := p.2)).mp hp with ⟨e1, e2⟩ | ⟨_, e⟩
      · refine .inr ⟨e2, by rw [e1]; exact hw, by rw [e1]; exact ⟨cs, hf⟩, fun z => ?_⟩
        obtain ⟨w, hw⟩ := mem_key z
        exact h (e1 ▸ key_mem (D.o1 _ hw))
      · exact D.o2 p e
    on := putL_nd D.on _ _
    r1 := D.r1
    r2 := D.r2
    rn := D.rn
    w := fun x hx => by
      rcases List.mem_append.mp hx with q | q
      · exact D.w x (List.mem_append_left _ q)
      · by_cases e : x = .non
        · exact .inl e
        · exact .inr (.step hw hf q e)
    cl := fun m h1 h2 cs' hc y hy => by
      obtain ⟨u, hu⟩ := mem_key h1
      rcases (putL_mem D.on).mp hu with ⟨e, _⟩ | ⟨_, e⟩
      · subst e
        have := cellsOf_nd hnd hf hc
        subst this
        exact .inl (List.mem_append_right _ hy)
      · exact move y (D.cl m (key_mem e) h2 cs' hc y hy)
    st := move c D.st
    wl := by
      have := D.wl
      rw [List.length_append] at this ⊢
      simp at this
      rw [len]
      omega }
theorem Dfs.len (D : Dfs fs c v os0 rs0 os rs W) (hk : ∀ n ∈ keysL os0, IsKey fs n) : os.length ≤ fs.length := by
  have q := nd_len (l := keysL os) (m := fs.map (·.1)) D.on fun n hn => by
    obtain ⟨w, hw⟩ := mem_key hn
    rcases D.o2 _ hw with e | ⟨_, _, e, _⟩
    · exact isKey_iff.mp (hk n (key_mem e))
    · exact isKey_iff.mp e
  rw [List.length_map, List.length_map] at q
  exact q
variable {S : Srcs} {i : Nat}
theorem Dfs.rlen (D : Dfs fs c v os0 rs0 os rs W) (T2 : TabP (offR fs (S.take i)) rs0) (h : S[i]? = some (c, v)) (w8 : ∀ p ∈ fs, p.2.length ≤ 8) : rs.length ≤ S.length + 8 * fs.length := by
  have q := nd_len (l := keysL rs) (m := refsOf (S.map (·.1) ++ allC fs)) D.rn fun r hr => by
    obtain ⟨w, hw⟩ := mem_key hr
    refine offR_mem (v := w) ?_
    rcases D.r2 _ hw with e | ⟨e1, e2, _⟩
    · obtain ⟨s, hs, hh⟩ := ((T2.mem _ _).mp e).1
      exact ⟨s, List.mem_of_mem_take hs, hh⟩
    · exact ⟨c, by rw [show w = v from e1]; exact List.mem_of_getElem? h, e2⟩
  rw [List.length_map] at q
  have := refs_len (ss := S) w8
  omega
/-- nothing waits: all that c reaches is found -/
theorem Dfs.all (D : Dfs fs c v os0 rs0 os rs []) (T1 : TabP (offO fs (S.take i)) os0) (T2 : TabP (offR fs (S.take i)) rs0) : ∀ x, RC fs c x → Found fs os rs x := by
  intro x h
  induction h with
  | here =>
    rcases D.st with q | q
    · cases q
    · exact q
  | @step m cs x hm hf hx hn ih =>
    have hm2 : m ∈ keysL os := by
      rcases ih with q | q
      · exact q
      · exact absurd ⟨cs, hf⟩ q
    by_cases h0 : m ∈ keysL os0
    · obtain ⟨u, hu⟩ := mem_key h0
      obtain ⟨s, hs, hr, _⟩ := ((T1.mem _ _).mp hu).1
      cases x with
      | non => trivial
      | obj n =>
        by_cases hk : IsKey fs n
        · obtain ⟨w, hw⟩ := T1.full n u ⟨s, hs, .step hr hf hx hn, hk⟩
          exact .inl (key_mem (D.o1 _ hw))
        · exact .inr hk
      | far a b =>
        obtain ⟨w, hw⟩ := T2.full (a, b) u ⟨s, hs, .step hr hf hx hn⟩
        exact key_mem (D.r1 _ hw)
    · rcases D.cl m hm2 h0 cs hf x hx with q | q
      · cases q
      · exact q
theorem Dfs.end_ (D : Dfs fs c v os0 rs0 os rs []) (T1 : TabP (offO fs (S.take i)) os0) (T2 : TabP (offR fs (S.take i)) rs0) (h : S[i]? = some (c, v)) (hv : ∀ p ∈ S.take i, v ≤ p.2) :
    TabP (offO fs (S.take (i + 1))) os ∧ TabP (offR fs (S.take (i + 1))) rs := by
  have all := D.all T1 T2
  constructor
  · refine TabP.congr (P := fun k w => offO fs (S.take i) k w ∨ (RC fs c (.obj k) ∧ IsKey fs k ∧ w = v)) ⟨D.on, fun k w => ?_, fun k w hp => ?_⟩ fun k w => (offO_take h k w).symm
    · constructor
      · intro hm
        rcases D.o2 _ hm with e | ⟨e1, e2, e3, e4⟩
        · obtain ⟨a1, a2⟩ := (T1.mem _ _).mp e
          refine ⟨.inl a1, fun w' q => ?_⟩
          rcases q with q | ⟨_, _, q⟩
          · exact a2 w' q
          · obtain ⟨s, hs, _⟩ := a1
            have := hv _ hs
            subst q
            exact this
        · refine ⟨.inr ⟨e2, e3, e1⟩, fun w' q => ?_⟩
          rcases q with q | ⟨_, _, q⟩
          · obtain ⟨u, hu⟩ := T1.full _ _ q
            exact absurd (key_mem hu) e4
          · have : w = v := e1
            omega
      · rintro ⟨q, mx⟩
        rcases q with q | ⟨q1, q2, q3⟩
        · obtain ⟨u, hu⟩ := T1.full _ _ q
          obtain ⟨a1, a2⟩ := (T1.mem _ _).mp hu
          have l1 := mx u (.inl a1)
          have l2 := a2 w q
          have : u = w := by omega
          subst this
          exact D.o1 _ hu
        · have hk : k ∈ keysL os := by
            rcases all _ q1 with z | z
            · exact z
            · exact absurd q2 z
          obtain ⟨u, hu⟩ := mem_key hk
          rcases D.o2 _ hu with e | ⟨e1, _⟩
          · obtain ⟨a1, a2⟩ := (T1.mem _ _).mp e
            have l1 := mx u (.inl a1)
            obtain ⟨s, hs, _⟩ := a1
            have l2 : v ≤ u := hv _ hs
            have : u = w := by omega
            subst this
            exact hu
          · have : u = v := e1
            subst this
            subst q3
            exact hu
    · rcases hp with q | ⟨q1, q2, q3⟩
      · obtain ⟨u, hu⟩ := T1.full _ _ q
        exact ⟨u, D.o1 _ hu⟩
      · rcases all _ q1 with z | z
        · exact mem_key z
        · exact absurd q2 z
  · refine TabP.congr (P := fun k w => offR fs (S.take i) k w ∨ (RC fs c (.far k.1 k.2) ∧ w = v)) ⟨D.rn, fun k w => ?_, fun k w hp => ?_⟩ fun k w => (offR_take h k w).symm
    · constructor
      · intro hm
        rcases D.r2 _ hm with e | ⟨e1, e2, e4⟩
        · obtain ⟨a1, a2⟩ := (T2.mem _ _).mp e
          refine ⟨.inl a1, fun w' q => ?_⟩
          rcases q with q | ⟨_, q⟩
          · exact a2 w' q
          · obtain ⟨s, hs, _⟩ := a1
            have := hv _ hs
            subst q
            exact this
        · refine ⟨.inr ⟨e2, e1⟩, fun w' q => ?_⟩
          rcases q with q | ⟨_, q⟩
          · obtain ⟨u, hu⟩ := T2.full _ _ q
            exact absurd (key_mem hu) e4
          · have : w = v := e1
            omega
      · rintro ⟨q, mx⟩
        rcases q with q | ⟨q1, q3⟩
        · obtain ⟨u, hu⟩ := T2.full _ _ q
          obtain ⟨a1, a2⟩ := (T2.mem _ _).mp hu
          have l1 := mx u (.inl a1)
          have l2 := a2 w q
          have : u = w := by omega
          subst this
          exact D.r1 _ hu
        · obtain ⟨u, hu⟩ := mem_key (show k ∈ keysL rs from all _ q1)
          rcases D.r2 _ hu with e | ⟨e1, _⟩
          · obtain ⟨a1, a2⟩ := (T2.mem _ _).mp e
            have l1 := mx u (.inl a1)
            obtain ⟨s, hs, _⟩ := a1
            have l2 : v ≤ u := hv _ hs
            have : u = w := by omega
            subst this
            exact hu
          · have : u = v := e1
            subst this
            subst q3
            exact hu
    · rcases hp with q | ⟨q1, q3⟩
      · obtain ⟨u, hu⟩ := T2.full _ _ q
        exact ⟨u, D.r1 _ hu⟩
      · exact mem_key (show k ∈ keysL rs from all _ q1)
end
/-- a pairing follows a rearrangement -/
theorem pr_perm {α β : Type} {F : α → β → Prop} {m m' : List β} (p : m'.Perm m) : ∀ {l : List α}, Paired F l m → ∃ l', l'.Perm l ∧ Paired F l' m' := by
  induction p with
  | nil => intro l h; exact ⟨l, List.Perm.refl _, h⟩
  | @cons x a b _ ih =>
    intro l h
    cases h with
    | cons q t =>
      obtain ⟨l', p', h'⟩ := ih t
      exact ⟨_ :: l', p'.cons _, .cons q h'⟩
  | swap x y a =>
    intro l h
    cases h with
    | cons q t =>
      cases t with
      | cons q2 t => exact ⟨_, List.Perm.swap _ _ _, .cons q2 (.cons q t)⟩
  | trans _ _ ih1 ih2 =>
    intro l h
    obtain ⟨l1, p1, h1⟩ := ih2 h
    obtain ⟨l2, p2, h2⟩ := ih1 h1
    exact ⟨l2, p2.trans p1, h2⟩
theorem pr_last {α β : Type} {F : α → β → Prop} {y : β} : ∀ {m : List β} {l : List α}, Paired F l (m ++ [y]) → ∃ l' x, l = l' ++ [x] ∧ Paired F l' m ∧ F x y
  | [], _, h => by
    cases h with
    | cons q t => cases t; exact ⟨[], _, rfl, .nil, q⟩
  | z :: m, _, h => by
    cases h with
    | cons q t =>
      obtain ⟨l', x, rfl, h1, h2⟩ := pr_last t
      exact ⟨_ :: l', x, rfl, .cons q h1, h2⟩
theorem offO_perm {fs : Fields} {S S' : Srcs} (p : S'.Perm S) (k v : Int) : offO fs S' k v ↔ offO fs S k v :=
  ⟨fun ⟨s, h, r⟩ => ⟨s, p.mem_iff.mp h, r⟩, fun ⟨s, h, r⟩ => ⟨s, p.mem_iff.mpr h, r⟩⟩
theorem offR_perm {fs : Fields} {S S' : Srcs} (p : S'.Perm S) (k : Int × Int) (v : Int) : offR fs S' k v ↔ offR fs S k v :=
  ⟨fun ⟨s, h, r⟩ => ⟨s, p.mem_iff.mp h, r⟩, fun ⟨s, h, r⟩ => ⟨s, p.mem_iff.mpr h, r⟩⟩
/-- the second item of a pair of the heap -/
def sndV (H : Hp) : V → Int
  | .ref t => match H t with
    | some (.tup [_, .int z]) => z
    | _ => 0
  | _ => 0
theorem sndV_of {H : Hp} {p : Cell × Int} {y : V} (h : SrcV H p y) : sndV H y = p.2 := by
  obtain ⟨_, t, sv, rfl, h, _⟩ := h
  show (match H t with
    | some (.tup [_, .int z]) => z
    | _ => 0) = p.2
  rw [h]
theorem pr_pw {S : Srcs} {H : Hp} {ys : List V} (h : SrcVs H S ys) (o : ys.Pairwise fun a b => sndV H b ≤ sndV H a) : S.Pairwise fun a b => b.2 ≤ a.2 := by
  induction h with
  | nil => exact .nil
  | @cons p y ps ys q t ih =>
    rw [List.pairwise_cons] at o ⊢
    refine ⟨fun b hb => ?_, ih o.2⟩
    obtain ⟨z, hz, fz⟩ := pr_mem t hb
    have := o.1 z hz
    rw [sndV_of q, sndV_of fz] at this
    exact this
theorem pw_take {S : Srcs} (o : S.Pairwise fun a b => b.2 ≤ a.2) {i : Nat} {c : Cell} {v : Int} (h : S[i]? = some (c, v)) : ∀ p ∈ S.take i, v ≤ p.2 := by
  intro p hp
  obtain ⟨j, hj⟩ := List.mem_iff_getElem?.mp hp
  have hji : j < i := by
    have := (List.getElem?_eq_some_iff.mp hj).1
    rw [List.length_take] at this
    omega
  rw [List.getElem?_take_of_lt hji] at hj
  obtain ⟨h1, e1⟩ := List.getElem?_eq_some_iff.mp hj
  obtain ⟨h2, e2⟩ := List.getElem?_eq_some_iff.mp h
  have := List.pairwise_iff_getElem.mp o j i h1 h2 hji
  rw [e1, e2] at this
  exact this
end Ce

/-! greatest is least. -/
namespace K07
open PySem PySem.Spec PyProof.Rows L2 Ce Hl Sx
/-! ### the text by places -/
def top (i : Nat) : Stmt := PySem.Challenge.pw_farheap_k07_whole_greatest_is_least.main.body.getD i (.Pass ⟨0, 0, 0, 0⟩)
abbrev s_reach : Stmt := top 1
abbrev s_greatest : Stmt := top 2
abbrev s_law_is_integer : Stmt := top 4
abbrev s_law_cell : Stmt := top 5
abbrev s_law_row : Stmt := top 6
abbrev s_law_numbers : Stmt := top 7
abbrev s_law_content : Stmt := top 8
abbrev s_law_contents : Stmt := top 9
abbrev s_law_heap : Stmt := top 10
abbrev s_law_copy : Stmt := top 11
abbrev s_law_sources : Stmt := top 12
abbrev s_law_value : Stmt := top 13
abbrev s_law_is_high : Stmt := top 14
abbrev s_law_is_explained : Stmt := top 15
abbrev s_law_is_answer : Stmt := top 16
abbrev s_law_long_heap : Stmt := top 17
abbrev s_law_place : Stmt := top 18
abbrev s_law_long_rows : Stmt := top 19
abbrev s_law : Stmt := top 20
theorem sc_reach : FnScope ["fields", "start", "objects", "references"] ["fields", "start"] (defScope s_reach) := ⟨rfl, rfl, rfl, by decide +kernel, rfl, by decide +kernel, by decide +kernel⟩
theorem sc_greatest : FnScope ["fields", "sources", "objects", "references", "start", "value", "waiting", "found"] ["fields", "sources"] (defScope s_greatest) := ⟨rfl, rfl, rfl, by decide +kernel, rfl, by decide +kernel, by decide +kernel⟩
theorem sc_law_is_integer : FnScope ["actual"] ["actual"] (defScope s_law_is_integer) := ⟨rfl, rfl, rfl, by decide +kernel, rfl, by decide +kernel, by decide +kernel⟩
theorem sc_law_cell : FnScope ["script", "k"] ["script", "k"] (defScope s_law_cell) := ⟨rfl, rfl, rfl, by decide +kernel, rfl, by decide +kernel, by decide +kernel⟩
theorem sc_law_row : FnScope ["cell", "salt", "count", "base", "rest", "row", "k", "first", "second"] ["cell", "salt", "count", "base"] (defScope s_law_row) := ⟨rfl, rfl, rfl, by decide +kernel, rfl, by decide +kernel, by decide +kernel⟩
theorem sc_law_numbers : FnScope ["script", "count", "holes", "numbers", "at", "k"] ["script", "count"] (defScope s_law_numbers) := ⟨rfl, rfl, rfl, by decide +kernel, rfl, by decide +kernel, by decide +kernel⟩
theorem sc_law_content : FnScope ["digit", "numbers", "sparse", "choice", "value"] ["digit", "numbers", "sparse"] (defScope s_law_content) := ⟨rfl, rfl, rfl, by decide +kernel, rfl, by decide +kernel, by decide +kernel⟩
theorem sc_law_contents : FnScope ["script", "k", "numbers", "style", "row", "contents", "digit"] ["script", "k", "numbers", "style"] (defScope s_law_contents) := ⟨rfl, rfl, rfl, by decide +kernel, rfl, by decide +kernel, by decide +kernel⟩
theorem sc_law_heap : FnScope ["script", "most", "shape", "count", "style", "numbers", "fields", "k", "at"] ["script", "most"] (defScope s_law_heap) := ⟨rfl, rfl, rfl, by decide +kernel, rfl, by decide +kernel, by decide +kernel⟩
theorem sc_law_copy : FnScope ["fields", "copied", "number"] ["fields"] (defScope s_law_copy) := ⟨rfl, rfl, rfl, by decide +kernel, rfl, by decide +kernel, by decide +kernel⟩
theorem sc_law_sources : FnScope ["script", "numbers", "many", "row", "scale", "sources", "digit", "choice", "value", "start"] ["script", "numbers", "many"] (defScope s_law_sources) := ⟨rfl, rfl, rfl, by decide +kernel, rfl, by decide +kernel, by decide +kernel⟩
theorem sc_law_value : FnScope ["answer", "item"] ["answer", "item"] (defScope s_law_value) := ⟨rfl, rfl, rfl, by decide +kernel, rfl, by decide +kernel, by decide +kernel⟩
theorem sc_law_is_high : FnScope ["fields", "sources", "answer", "start", "value", "number", "content"] ["fields", "sources", "answer"] (defScope s_law_is_high) := ⟨rfl, rfl, rfl, by decide +kernel, rfl, by decide +kernel, by decide +kernel⟩
theorem sc_law_is_explained : FnScope ["fields", "sources", "answer", "waiting", "seen", "start", "value", "turn", "item", "content"] ["fields", "sources", "answer"] (defScope s_law_is_explained) := ⟨rfl, rfl, rfl, by decide +kernel, rfl, by decide +kernel, by decide +kernel⟩
theorem sc_law_is_answer : FnScope ["fields", "sources", "answer", "number", "reference"] ["fields", "sources", "answer"] (defScope s_law_is_answer) := ⟨rfl, rfl, rfl, by decide +kernel, rfl, by decide +kernel, by decide +kernel⟩
theorem sc_law_long_heap : FnScope ["row", "count", "step", "fields", "k", "at", "contents"] ["row"] (defScope s_law_long_heap) := ⟨rfl, rfl, rfl, by decide +kernel, rfl, by decide +kernel, by decide +kernel⟩
theorem sc_law_place : FnScope ["row", "at", "count", "step"] ["row", "at"] (defScope s_law_place) := ⟨rfl, rfl, rfl, by decide +kernel, rfl, by decide +kernel, by decide +kernel⟩
theorem sc_law_long_rows : FnScope ["row", "fields", "count", "sources", "k"] ["row"] (defScope s_law_long_rows) := ⟨rfl, rfl, rfl, by decide +kernel, rfl, by decide +kernel, by decide +kernel⟩
theorem sc_law : FnScope ["script", "fields", "numbers", "many", "sources", "source", "answer", "due", "actual", "row"] ["script"] (defScope s_law) := ⟨rfl, rfl, rfl, by decide +kernel, rfl, by decide +kernel, by decide +kernel⟩
/-! ### what the top has written -/
/-- what the top has written -/
structure Txt (K : PySem.W.Frag) (mg : Str → Option Value) (base : Heap) where
  tb : LamX.TabB base mg (He.cT K ("greatest", none)).1 (He.cT K ("greatest", none)).2
  g_reach : mg "reach" = some (.ref (He.ga K "reach"))
  g_greatest : mg "greatest" = some (.ref (He.ga K "greatest"))
  g_law_is_integer : mg "_law_is_integer" = some (.ref (He.ga K "_law_is_integer"))
  g_law_cell : mg "_law_cell" = some (.ref (He.ga K "_law_cell"))
  g_law_row : mg "_law_row" = some (.ref (He.ga K "_law_row"))
  g_law_numbers : mg "_law_numbers" = some (.ref (He.ga K "_law_numbers"))
  g_law_content : mg "_law_content" = some (.ref (He.ga K "_law_content"))
  g_law_contents : mg "_law_contents" = some (.ref (He.ga K "_law_contents"))
  g_law_heap : mg "_law_heap" = some (.ref (He.ga K "_law_heap"))
  g_law_copy : mg "_law_copy" = some (.ref (He.ga K "_law_copy"))
  g_law_sources : mg "_law_sources" = some (.ref (He.ga K "_law_sources"))
  g_law_value : mg "_law_value" = some (.ref (He.ga K "_law_value"))
  g_law_is_high : mg "_law_is_high" = some (.ref (He.ga K "_law_is_high"))
  g_law_is_explained : mg "_law_is_explained" = some (.ref (He.ga K "_law_is_explained"))
  g_law_is_answer : mg "_law_is_answer" = some (.ref (He.ga K "_law_is_answer"))
  g_law_long_heap : mg "_law_long_heap" = some (.ref (He.ga K "_law_long_heap"))
  g_law_place : mg "_law_place" = some (.ref (He.ga K "_law_place"))
  g_law_long_rows : mg "_law_long_rows" = some (.ref (He.ga K "_law_long_rows"))
  g_law : mg "law" = some (.ref (He.ga K "law"))
  z_sorted : mg "sorted" = none
  z_isinstance : mg "isinstance" = none
  z_tuple : mg "tuple" = none
  z_int : mg "int" = none
  z_bool : mg "bool" = none
  z_len : mg "len" = none
  z_range : mg "range" = none
  z_list : mg "list" = none
  z_dict : mg "dict" = none
  fd_reach : FuncData
  F_reach : FunD K "reach" "reach" (defArgs s_reach) (defBody s_reach) (defScope s_reach) [] [] (He.ga K "reach") fd_reach
  fd_greatest : FuncData
  F_greatest : FunD K "greatest" "greatest" (defArgs s_greatest) (defBody s_greatest) (defScope s_greatest) [] [] (He.ga K "greatest") fd_greatest
  fd_law_is_integer : FuncData
  F_law_is_integer : FunD K "_law_is_integer" "_law_is_integer" (defArgs s_law_is_integer) (defBody s_law_is_integer) (defScope s_law_is_integer) [] [] (He.ga K "_law_is_integer") fd_law_is_integer
  fd_law_cell : FuncData
  F_law_cell : FunD K "_law_cell" "_law_cell" (defArgs s_law_cell) (defBody s_law_cell) (defScope s_law_cell) [] [] (He.ga K "_law_cell") fd_law_cell
  fd_law_row : FuncData
  F_law_row : FunD K "_law_row" "_law_row" (defArgs s_law_row) (defBody s_law_row) (defScope s_law_row) [] [] (He.ga K "_law_row") fd_law_row
  fd_law_numbers : FuncData
  F_law_numbers : FunD K "_law_numbers" "_law_numbers" (defArgs s_law_numbers) (defBody s_law_numbers) (defScope s_law_numbers) [] [] (He.ga K "_law_numbers") fd_law_numbers
  fd_law_content : FuncData
  F_law_content : FunD K "_law_content" "_law_content" (defArgs s_law_content) (defBody s_law_content) (defScope s_law_content) [] [] (He.ga K "_law_content") fd_law_content
  fd_law_contents : FuncData
  F_law_contents : FunD K "_law_contents" "_law_contents" (defArgs s_law_contents) (defBody s_law_contents) (defScope s_law_contents) [] [] (He.ga K "_law_contents") fd_law_contents
  fd_law_heap : FuncData
  F_law_heap : FunD K "_law_heap" "_law_heap" (defArgs s_law_heap) (defBody s_law_heap) (defScope s_law_heap) [] [] (He.ga K "_law_heap") fd_law_heap
  fd_law_copy : FuncData
  F_law_copy : FunD K "_law_copy" "_law_copy" (defArgs s_law_copy) (defBody s_law_copy) (defScope s_law_copy) [] [] (He.ga K "_law_copy") fd_law_copy
  fd_law_sources : FuncData
  F_law_sources : FunD K "_law_sources" "_law_sources" (defArgs s_law_sources) (defBody s_law_sources) (defScope s_law_sources) [] [] (He.ga K "_law_sources") fd_law_sources
  fd_law_value : FuncData
  F_law_value : FunD K "_law_value" "_law_value" (defArgs s_law_value) (defBody s_law_value) (defScope s_law_value) [] [] (He.ga K "_law_value") fd_law_value
  fd_law_is_high : FuncData
  F_law_is_high : FunD K "_law_is_high" "_law_is_high" (defArgs s_law_is_high) (defBody s_law_is_high) (defScope s_law_is_high) [] [] (He.ga K "_law_is_high") fd_law_is_high
  fd_law_is_explained : FuncData
  F_law_is_explained : FunD K "_law_is_explained" "_law_is_explained" (defArgs s_law_is_explained) (defBody s_law_is_explained) (defScope s_law_is_explained) [] [] (He.ga K "_law_is_explained") fd_law_is_explained
  fd_law_is_answer : FuncData
  F_law_is_answer : FunD K "_law_is_answer" "_law_is_answer" (defArgs s_law_is_answer) (defBody s_law_is_answer) (defScope s_law_is_answer) [] [] (He.ga K "_law_is_answer") fd_law_is_answer
  fd_law_long_heap : FuncData
  F_law_long_heap : FunD K "_law_long_heap" "_law_long_heap" (defArgs s_law_long_heap) (defBody s_law_long_heap) (defScope s_law_long_heap) [] [] (He.ga K "_law_long_heap") fd_law_long_heap
  fd_law_place : FuncData
  F_law_place : FunD K "_law_place" "_law_place" (defArgs s_law_place) (defBody s_law_place) (defScope s_law_place) [] [] (He.ga K "_law_place") fd_law_place
  fd_law_long_rows : FuncData
  F_law_long_rows : FunD K "_law_long_rows" "_law_long_rows" (defArgs s_law_long_rows) (defBody s_law_long_rows) (defScope s_law_long_rows) [] [] (He.ga K "_law_long_rows") fd_law_long_rows
  fd_law : FuncData
  F_law : FunD K "law" "law" (defArgs s_law) (defBody s_law) (defScope s_law) [] [] (He.ga K "law") fd_law
section
variable {K : PySem.W.Frag} {mg : Str → Option Value} {base : Heap}
theorem Txt.b_reach (T : Txt K mg base) : Binds K T.fd_reach ["fields", "start"] [] := T.F_reach.bindsN fun _ _ _ _ _ _ us hl => match us, hl with | [_, _], _ => rfl
theorem Txt.b_greatest (T : Txt K mg base) : Binds K T.fd_greatest ["fields", "sources"] [] := T.F_greatest.bindsN fun _ _ _ _ _ _ us hl => match us, hl with | [_, _], _ => rfl
theorem Txt.b_law_is_integer (T : Txt K mg base) : Binds K T.fd_law_is_integer ["actual"] [] := T.F_law_is_integer.bindsN fun _ _ _ _ _ _ us hl => match us, hl with | [_], _ => rfl
theorem Txt.b_law_cell (T : Txt K mg base) : Binds K T.fd_law_cell ["script", "k"] [] := T.F_law_cell.bindsN fun _ _ _ _ _ _ us hl => match us, hl with | [_, _], _ => rfl
theorem Txt.b_law_row (T : Txt K mg base) : Binds K T.fd_law_row ["cell", "salt", "count", "base"] [] := T.F_law_row.bindsN fun _ _ _ _ _ _ us hl => match us, hl with | [_, _, _, _], _ => rfl
theorem Txt.b_law_numbers (T : Txt K mg base) : Binds K T.fd_law_numbers ["script", "count"] [] := T.F_law_numbers.bindsN fun _ _ _ _ _ _ us hl => match us, hl with | [_, _], _ => rfl
theorem Txt.b_law_content (T : Txt K mg base) : Binds K T.fd_law_content ["digit", "numbers", "sparse"] [] := T.F_law_content.bindsN fun _ _ _ _ _ _ us hl => match us, hl with | [_, _, _], _ => rfl
theorem Txt.b_law_contents (T : Txt K mg base) : Binds K T.fd_law_contents ["script", "k", "numbers", "style"] [] := T.F_law_contents.bindsN fun _ _ _ _ _ _ us hl => match us, hl with | [_, _, _, _], _ => rfl
theorem Txt.b_law_heap (T : Txt K mg base) : Binds K T.fd_law_heap ["script", "most"] [] := T.F_law_heap.bindsN fun _ _ _ _ _ _ us hl => match us, hl with | [_, _], _ => rfl
theorem Txt.b_law_copy (T : Txt K mg base) : Binds K T.fd_law_copy ["fields"] [] := T.F_law_copy.bindsN fun _ _ _ _ _ _ us hl => match us, hl with | [_], _ => rfl
theorem Txt.b_law_sources (T : Txt K mg base) : Binds K T.fd_law_sources ["script", "numbers", "many"] [] := T.F_law_sources.bindsN fun _ _ _ _ _ _ us hl => match us, hl with | [_, _, _], _ => rfl
theorem Txt.b_law_value (T : Txt K mg base) : Binds K T.fd_law_value ["answer", "item"] [] := T.F_law_value.bindsN fun _ _ _ _ _ _ us hl => match us, hl with | [_, _], _ => rfl
theorem Txt.b_law_is_high (T : Txt K mg base) : Binds K T.fd_law_is_high ["fields", "sources", "answer"] [] := T.F_law_is_high.bindsN fun _ _ _ _ _ _ us hl => match us, hl with | [_, _, _], _ => rfl
theorem Txt.b_law_is_explained (T : Txt K mg base) : Binds K T.fd_law_is_explained ["fields", "sources", "answer"] [] := T.F_law_is_explained.bindsN fun _ _ _ _ _ _ us hl => match us, hl with | [_, _, _], _ => rfl
theorem Txt.b_law_is_answer (T : Txt K mg base) : Binds K T.fd_law_is_answer ["fields", "sources", "answer"] [] := T.F_law_is_answer.bindsN fun _ _ _ _ _ _ us hl => match us, hl with | [_, _, _], _ => rfl
theorem Txt.b_law_long_heap (T : Txt K mg base) : Binds K T.fd_law_long_heap ["row"] [] := T.F_law_long_heap.bindsN fun _ _ _ _ _ _ us hl => match us, hl with | [_], _ => rfl
theorem Txt.b_law_place (T : Txt K mg base) : Binds K T.fd_law_place ["row", "at"] [] := T.F_law_place.bindsN fun _ _ _ _ _ _ us hl => match us, hl with | [_, _], _ => rfl
theorem Txt.b_law_long_rows (T : Txt K mg base) : Binds K T.fd_law_long_rows ["row"] [] := T.F_law_long_rows.bindsN fun _ _ _ _ _ _ us hl => match us, hl with | [_], _ => rfl
theorem Txt.b_law (T : Txt K mg base) : Binds K T.fd_law ["script"] [] := T.F_law.bindsN fun _ _ _ _ _ _ us hl => match us, hl with | [_], _ => rfl
end
/-! ### the promises -/
abbrev Scr (K : PySem.W.Frag) (H : Hp) (a : Addr) (ss : List Int) : Prop := SqL K H a (ss.map V.int) ∧ ss.length ≤ 63
def spIsInt : Sp := fun vs H Q _ => ∃ z : Int, vs = [.int z] ∧ Q (.bl true) H
def spCell (K : PySem.W.Frag) : Sp := fun vs H Q _ => ∃ (a : Addr) (ss : List Int) (k : Int), vs = [.ref a, .int k] ∧ Scr K H a ss ∧ 0 ≤ k ∧ ∀ r : Int, Q (.int r) H
def spRow : Sp := fun vs H Q _ => ∃ cell salt count base : Int, vs = [.int cell, .int salt, .int count, .int base] ∧ 0 ≤ count ∧ count ≤ 100 ∧ 0 < base ∧ base < 1073741824 ∧
  ∀ (H' : Hp) (p : Addr) (xs : List Int), Same H H' → H p = none → H' p = some (.lst (xs.map V.int)) → (xs.length : Int) = count → (∀ x ∈ xs, 0 ≤ x ∧ x < base) → Q (.ref p) H'
def spNumbers (K : PySem.W.Frag) : Sp := fun vs H Q _ => ∃ (a : Addr) (ss : List Int) (count : Int), vs = [.ref a, .int count] ∧ Scr K H a ss ∧ 0 ≤ count ∧ count ≤ 100 ∧
  ∀ (H' : Hp) (p : Addr) (xs : List Int), Same H H' → H p = none → H' p = some (.lst (xs.map V.int)) → (xs.length : Int) = count → Q (.ref p) H'
def spContent : Sp := fun vs H Q _ => ∃ (digit : Int) (l : Addr) (ns : List Int) (sp : Bool), vs = [.int digit, .ref l, .bl sp] ∧ H l = some (.lst (ns.map V.int)) ∧ ns.length ≤ 1000 ∧
  ∀ (c : Cell) (v : V) (H' : Hp), Same H H' → CV H' c v → Q v H'
def spContents (K : PySem.W.Frag) : Sp := fun vs H Q _ => ∃ (a : Addr) (ss : List Int) (k : Int) (l : Addr) (ns : List Int) (style : Int), vs = [.ref a, .int k, .ref l, .int style] ∧ Scr K H a ss ∧ 0 ≤ k ∧ H l = some (.lst (ns.map V.int)) ∧ ns ≠ [] ∧ ns.length ≤ 1000 ∧
  ∀ (H' : Hp) (t : Addr) (ws : List V) (cs : List Cell), Same H H' → H t = none → H' t = some (.tup ws) → CVs H' cs ws → cs.length ≤ 8 → Q (.ref t) H'
/-- what a heap of fields is -/
structure Fs (H : Hp) (d : Addr) (fs : Fields) (many : Nat) : Prop where
  fa : FA H d fs
  nd : (fs.map (·.1)).Nodup
  w : ∀ p ∈ fs, p.2.length ≤ 8
  len : fs.length ≤ many
def spHeap (K : PySem.W.Frag) : Sp := fun vs H Q _ => ∃ (a : Addr) (ss : List Int) (most : Int), vs = [.ref a, .int most] ∧ Scr K H a ss ∧ 0 ≤ most ∧ most ≤ 99 ∧
  ∀ (H' : Hp) (d : Addr) (fs : Fields), Same H H' → H d = none → Fs H' d fs 100 → Q (.ref d) H'
def spReached : Sp := fun vs H Q _ => ∃ (d : Addr) (sv : V) (fs : Fields) (s : Cell), vs = [.ref d, sv] ∧ Fs H d fs 5000 ∧ CV H s sv ∧ s ≠ .non ∧
  ∀ (H' : Hp) (p l1 l2 : Addr) (ns : List Int) (rs : List (Int × Int)) (bs : List V), Same H H' → Ans H H' p fs s l1 l2 ns rs bs → Q (.ref p) H'
abbrev tG (K : PySem.W.Frag) : Addr × Str := ((He.cT K ("greatest", none)).2, ("greatest" ++ ".<locals>.") ++ "<lambda>")
def spGreatest (K : PySem.W.Frag) : Sp := fun vs H Q _ => ∃ (d l : Addr) (fs : Fields) (us : List V) (ss : Srcs), vs = [.ref d, .ref l] ∧ Fs H d fs 5000 ∧ H l = some (.lst us) ∧ SrcVs H ss us ∧ us.length ≤ 100 ∧ LamX.TabS H (tG K).1 (tG K).2 ∧
  ∀ (H' : Hp) (p d1 d2 : Addr) (os : List (Int × Int)) (rs : List ((Int × Int) × Int)), Sm (tG K) H H' → Tops H H' p fs ss d1 d2 os rs → Q (.ref p) H'
def spReach (K : PySem.W.Frag) : Sp := fun vs H Q _ => ∃ (d : Addr) (sv : V) (fs : Fields) (s : Cell), vs = [.ref d, sv] ∧ Fs H d fs 5000 ∧ CV H s sv ∧ s ≠ .non ∧ LamX.TabS H (tG K).1 (tG K).2 ∧
  ∀ (H' : Hp) (p l1 l2 : Addr) (ns : List Int) (rs : List (Int × Int)) (bs : List V), Sm (tG K) H H' → Ans H H' p fs s l1 l2 ns rs bs → Q (.ref p) H'
/-- while sources are walked -/
structure GI (T : Addr × Str) (H H3 : Hp) (fs : Fields) (S : Srcs) (i : Nat) (d1 d2 p : Addr) (ys : List V) (os : List (Int × Int)) (rs : List ((Int × Int) × Int)) : Prop where
  sm : Sm T H H3
  h1 : H3 d1 = some (.dK (enc kO os))
  h2 : H3 d2 = some (.dT (enc kR rs))
  hp : H3 p = some (.lst ys)
  t1 : TabP (offO fs (S.take i)) os
  t2 : TabP (offR fs (S.take i)) rs
def spIsAnswer : Sp := fun vs H Q _ => ∃ (p q l1 l2 m1 m2 : Addr) (ns : List Int) (rs : List (Int × Int)) (bs cs : List V), vs = [.ref p, .ref q] ∧ H p = some (.tup [.ref l1, .ref l2]) ∧ H l1 = some (.lst (ns.map V.int)) ∧ H l2 = some (.lst bs) ∧ RVs H rs bs ∧
  H q = some (.tup [.ref m1, .ref m2]) ∧ H m1 = some (.lst (ns.map V.int)) ∧ H m2 = some (.lst cs) ∧ RVs H rs cs ∧ Q (.bl true) H
def spStarts (K : PySem.W.Frag) : Sp := fun vs H Q _ => ∃ (a : Addr) (ss : List Int) (l : Addr) (ns : List Int), vs = [.ref a, .ref l] ∧ Scr K H a ss ∧ H l = some (.lst (ns.map V.int)) ∧ ns.length ≤ 200 ∧
  ∀ (H' : Hp) (p : Addr) (us : List V) (cs : List Cell), Same H H' → H p = none → H' p = some (.lst us) → CVs H' cs us → (∀ c ∈ cs, c ≠ .non) → us.length ≤ 300 → Q (.ref p) H'
def spPlace : Sp := fun vs H Q _ => ∃ (lr : Addr) (us : List V) (r1 r2 at_ : Int), vs = [.ref lr, .int at_] ∧ H lr = some (.lst us) ∧ us[1]? = some (.int r1) ∧ us[2]? = some (.int r2) ∧ Q (.int (plc r1 r2 at_)) H
/-- a row of five ints -/
structure Row5 (H : Hp) (lr : Addr) (us : List V) (r0 r1 r2 r3 r4 : Int) : Prop where
  lst : H lr = some (.lst us)
  e0 : us[0]? = some (.int r0)
  e1 : us[1]? = some (.int r1)
  e2 : us[2]? = some (.int r2)
  e3 : us[3]? = some (.int r3)
  e4 : us[4]? = some (.int r4)
theorem Row5.sm {H H' : Hp} {lr : Addr} {us : List V} {r0 r1 r2 r3 r4 : Int} (R : Row5 H lr us r0 r1 r2 r3 r4) (s : Same H H') : Row5 H' lr us r0 r1 r2 r3 r4 := ⟨s _ _ R.lst, R.e0, R.e1, R.e2, R.e3, R.e4⟩
theorem Row5.at_ {H : Hp} {lr : Addr} {us : List V} {r0 r1 r2 r3 r4 : Int} (R : Row5 H lr us r0 r1 r2 r3 r4) {i : Int} (h0 : 0 ≤ i) (h1 : i < 5) : ∃ z, atI us i = some (.int z) := by
  have h : i = 0 ∨ i = 1 ∨ i = 2 ∨ i = 3 ∨ i = 4 := by omega
  rcases h with rfl | rfl | rfl | rfl | rfl
  · exact ⟨_, at_of (j := 0) rfl R.e0⟩
  · exact ⟨_, at_of (j := 1) rfl R.e1⟩
  · exact ⟨_, at_of (j := 2) rfl R.e2⟩
  · exact ⟨_, at_of (j := 3) rfl R.e3⟩
  · exact ⟨_, at_of (j := 4) rfl R.e4⟩
def spLongHeap : Sp := fun vs H Q _ => ∃ (lr : Addr) (us : List V) (r0 r1 r2 r3 r4 : Int), vs = [.ref lr] ∧ Row5 H lr us r0 r1 r2 r3 r4 ∧
  ∀ (H' : Hp) (d : Addr) (fs : Fields), Same H H' → H d = none → Fs H' d fs 3000 → Chain r1 r2 (r3 % cnC r1) fs → Q (.ref d) H'
def spLongRows (K : PySem.W.Frag) : Sp := fun vs H Q _ => ∃ (lr : Addr) (us : List V) (r0 r1 r2 r3 r4 : Int), vs = [.ref lr] ∧ Row5 H lr us r0 r1 r2 r3 r4 ∧ LamX.TabS H (tG K).1 (tG K).2 ∧ ∀ H', Sm (tG K) H H' → Q (.bl true) H'
def spLaw (K : PySem.W.Frag) : Sp := fun vs H Q _ => ∃ (a : Addr) (ns : List Int), vs = [.ref a] ∧ SqL K H a (ns.map V.int) ∧ ns.length ≤ 63 ∧ LamX.TabS H (tG K).1 (tG K).2 ∧ ∀ H', Q (.bl true) H'
def spCopy : Sp := fun vs H Q _ => ∃ (d : Addr) (kvs : List (Key × V)), vs = [.ref d] ∧ H d = some (.dK kvs) ∧ (kvs.map (·.1)).Nodup ∧ (∀ p ∈ kvs, ∃ n, p.1 = .inl n) ∧ kvs.length ≤ 5000 ∧
  ∀ (H' : Hp) (e : Addr), Same H H' → H e = none → H' e = some (.dK kvs) → Q (.ref e) H'
def spSources (K : PySem.W.Frag) : Sp := fun vs H Q _ => ∃ (a : Addr) (sc : List Int) (l : Addr) (ns : List Int) (many : Int), vs = [.ref a, .ref l, .int many] ∧ Scr K H a sc ∧ H l = some (.lst (ns.map V.int)) ∧ ns.length ≤ 200 ∧ 0 ≤ many ∧ many ≤ 60 ∧
  ∀ (H' : Hp) (p : Addr) (us : List V) (ss : Srcs), Same H H' → H p = none → H' p = some (.lst us) → SrcVs H' ss us → (∀ q ∈ ss, 0 ≤ q.2) → (us.length : Int) = many → Q (.ref p) H'
/-- the law's own tables -/
structure Due (H' : Hp) (q : Addr) (fs : Fields) (ss : Srcs) (e1 e2 : Addr) (os : List (Int × Int)) (rs : List ((Int × Int) × Int)) : Prop where
  pt : H' q = some (.lst [.ref e1, .ref e2])
  h1 : H' e1 = some (.dK (enc kO os))
  h2 : H' e2 = some (.dT (enc kR rs))
  t1 : TabP (offO fs ss) os
  t2 : TabP (offR fs ss) rs
theorem Due.sm {H H' : Hp} {q e1 e2 : Addr} {fs : Fields} {ss : Srcs} {os : List (Int × Int)} {rs : List ((Int × Int) × Int)} (D : Due H q fs ss e1 e2 os rs) (s : Same H H') : Due H' q fs ss e1 e2 os rs := ⟨s _ _ D.pt, s _ _ D.h1, s _ _ D.h2, D.t1, D.t2⟩
def spDue : Sp := fun vs H Q _ => ∃ (d l : Addr) (fs : Fields) (us : List V) (ss : Srcs), vs = [.ref d, .ref l] ∧ Fs H d fs 5000 ∧ H l = some (.lst us) ∧ SrcVs H ss us ∧ (∀ q ∈ ss, 0 ≤ q.2) ∧ us.length ≤ 100 ∧
  ∀ (H' : Hp) (q e1 e2 : Addr) (os : List (Int × Int)) (rs : List ((Int × Int) × Int)), Same H H' → Due H' q fs ss e1 e2 os rs → Q (.ref q) H'
def spIsAnswer6 : Sp := fun vs H Q _ => ∃ (p q d1 d2 e1 e2 : Addr) (os os' : List (Int × Int)) (rs rs' : List ((Int × Int) × Int)), vs = [.ref p, .ref q] ∧ H p = some (.tup [.ref d1, .ref d2]) ∧ H d1 = some (.dK (enc kO os)) ∧ H d2 = some (.dT (enc kR rs)) ∧
  H q = some (.lst [.ref e1, .ref e2]) ∧ H e1 = some (.dK (enc kO os')) ∧ H e2 = some (.dT (enc kR rs')) ∧ (os'.map (·.1)).Nodup ∧ (rs'.map (·.1)).Nodup ∧ os.length = os'.length ∧ rs.length = rs'.length ∧ (∀ k, getL os k = getL os' k) ∧ (∀ k, getL rs k = getL rs' k) ∧
  ∀ H', Same H H' → Q (.bl true) H'
def spAsks6 : Sp := fun vs H Q _ => ∃ (d l : Addr) (fs : Fields) (us : List V) (ss : Srcs), vs = [.ref d, .ref l] ∧ Fs H d fs 200 ∧ H l = some (.lst us) ∧ SrcVs H ss us ∧ (∀ q ∈ ss, 0 ≤ q.2) ∧ us.length ≤ 100 ∧ ∀ H', Same H H' → Q (.bl true) H'
def spValue : Sp := fun vs H Q _ => ∃ (p d1 d2 : Addr) (os : List (Int × Int)) (rs : List ((Int × Int) × Int)) (v : V) (c : Cell), vs = [.ref p, v] ∧ H p = some (.tup [.ref d1, .ref d2]) ∧ H d1 = some (.dK (enc kO os)) ∧ H d2 = some (.dT (enc kR rs)) ∧ CV H c v ∧ c ≠ .non ∧ Q (.int (valOf os rs c)) H
/-- fields, sources, and an answer to them -/
structure Put (H : Hp) (d l p : Addr) (fs : Fields) (us : List V) (ss : Srcs) (d1 d2 : Addr) (os : List (Int × Int)) (rs : List ((Int × Int) × Int)) : Prop where
  f : Fs H d fs 5000
  l : H l = some (.lst us)
  s : SrcVs H ss us
  pos : ∀ q ∈ ss, 0 ≤ q.2
  len : us.length ≤ 100
  pt : H p = some (.tup [.ref d1, .ref d2])
  h1 : H d1 = some (.dK (enc kO os))
  h2 : H d2 = some (.dT (enc kR rs))
  t1 : TabP (offO fs ss) os
  t2 : TabP (offR fs ss) rs
theorem Put.sm {H H' : Hp} {d l p d1 d2 : Addr} {fs : Fields} {us : List V} {ss : Srcs} {os : List (Int × Int)} {rs : List ((Int × Int) × Int)} (U : Put H d l p fs us ss d1 d2 os rs) (s : Same H H') : Put H' d l p fs us ss d1 d2 os rs :=
  ⟨⟨U.f.fa.sm s, U.f.nd, U.f.w, U.f.len⟩, s _ _ U.l, U.s.tl (TL.same s), U.pos, U.len, s _ _ U.pt, s _ _ U.h1, s _ _ U.h2, U.t1, U.t2⟩
def spPut : Sp := fun vs H Q _ => ∃ (d l p : Addr) (fs : Fields) (us : List V) (ss : Srcs) (d1 d2 : Addr) (os : List (Int × Int)) (rs : List ((Int × Int) × Int)), vs = [.ref d, .ref l, .ref p] ∧ Put H d l p fs us ss d1 d2 os rs ∧ ∀ H', Same H H' → Q (.bl true) H'

section
variable {P : Program} {w : World} {K : PySem.W.Frag} {mg : Str → Option Value} {base : Heap}
theorem ok_law_is_integer (T : Txt K mg base) : FnOk P w K mg base CX0 1 (He.ga K "_law_is_integer") T.fd_law_is_integer ["actual"] spIsInt := by
  refine T.F_law_is_integer.ok sc_law_is_integer (fun vs H Q E h => ?_) (fun cdv A outer s H vs Q E hr h => ?_)
  · obtain ⟨z, rfl, k⟩ := h
    rfl
  · obtain ⟨z, rfl, k⟩ := h
    refine ⟨_, PSs.nox (pss_one (ps_ret (pe_and (pe_callB call_isi (by rfl) T.z_isinstance (by decide +kernel) (pa_cons (pv 0) (pa_cons (pe_bltn (v := .ty "int") (by rfl) T.z_int (by decide +kernel) rfl) pa_nil))) (pe_one (pe_not (pe_callB call_isi (by rfl) T.z_isinstance (by decide +kernel) (pa_cons (pv 0) (pa_cons (pe_bltn (v := .ty "bool") (by rfl) T.z_bool (by decide +kernel) rfl) pa_nil)))))))), ?_⟩
    refine ⟨_, rfl, _, _, _, _, true, rfl, .ty _, .base (.int _), kit_ty (by decide +kernel), _, rfl, iteT ?_⟩
    exact ⟨_, rfl, _, _, _, _, false, rfl, .ty _, .base (.int _), kit_ty (by decide +kernel), _, rfl, k⟩

theorem ok_law_cell (T : Txt K mg base) : FnOk P w K mg base CX0 1 (He.ga K "_law_cell") T.fd_law_cell ["script", "k"] (spCell K) := by
  refine T.F_law_cell.ok sc_law_cell (fun vs H Q E h => ?_) (fun cdv A outer s H vs Q E hr h => ?_)
  · obtain ⟨a, ss, i, rfl, ⟨hS, hl⟩, h0, k⟩ := h
    rfl
  · obtain ⟨a, ss, i, rfl, ⟨hS, hl⟩, h0, k⟩ := h
    refine ⟨_, PSs.nox (pss_cons (ps_if (pt_cmpR op_lt (pv 1) (pe_callB call_len_seq (by rfl) T.z_len (by decide +kernel) (pa_cons (pv 0) pa_nil)) (nomark _))
      (pss_one (ps_ret (pe_ix ix_list (pv 0) (pv 1) (fun _ _ => rfl))))
      pss_nil)
    (pss_one (ps_ret pe_int))), ?_⟩
    refine ⟨_, rfl, _, rfl, a, _, rfl, .inl hS, _, _, rfl, rfl, _, rfl, ?_⟩
    refine ite2 (fun hc => ?_) (fun _ => ?_)
    · have hc := of_decide_eq_true hc
      rw [List.length_map] at hc
      obtain ⟨z, _, hz⟩ := at_in (f := V.int) h0 hc
      exact ⟨_, rfl, _, rfl, a, _, _, _, rfl, rfl, hS, hz, k z⟩
    · exact k 0

theorem ok_law_row (T : Txt K mg base) : FnOk P w K mg base CX0 1 (He.ga K "_law_row") T.fd_law_row ["cell", "salt", "count", "base"] spRow := by
  refine T.F_law_row.ok sc_law_row (fun vs H Q E h => ?_) (fun cdv A outer s H vs Q E hr h => ?_)
  · obtain ⟨cell, salt, count, bs, rfl, c0, c1, b0, b1, k⟩ := h
    rfl
  · obtain ⟨cell, salt, count, bs, rfl, c0, c1, b0, b1, k⟩ := h
    refine ⟨_, PSs.nox (pss_cons (ps_set (i := 4) sc_law_row.nd rfl (Or.inl rfl) (pe_callTy call_int1 (by rfl) T.z_int (by decide +kernel) (pa_cons (pv 0) pa_nil)))
    (pss_cons (ps_set (i := 5) sc_law_row.nd rfl (Or.inl rfl) (pe_lst pa_nil))
    (pss_cons (ps_if (pt_cmpR op_ge (pv 4) (pe_op op_pow pe_int pe_int) (nomark _))
      (pss_cons (ps_set (i := 4) sc_law_row.nd rfl (Or.inl rfl) (pe_op op_sub (pv 4) (pe_op op_pow pe_int pe_int)))
      (pss_cons (ps_for PassesOwn.never rfl (pi_range1 (by rfl) T.z_range (pa_cons (pv 2) pa_nil)) (pg_name (i := 6) sc_law_row.nd rfl (Or.inl rfl))
        (pss_cons (ps_expr (pe_bm PySem.F.plainAttrs_list PySem.F.slot_list_append PySem.F.type_list_append mt_append (pv 5) (pa_cons (pe_op op_mod (pe_callTy call_int1 (by rfl) T.z_int (by decide +kernel) (pa_cons (pv 4) pa_nil)) (pv 3)) pa_nil)))
        (pss_one (ps_set (i := 4) sc_law_row.nd rfl (Or.inl rfl) (pe_op op_fdiv (pv 4) (pv 3))))))
      (pss_one (ps_ret (pv 5)))))
      pss_nil)
    (pss_cons (ps_for PassesOwn.never rfl (pi_range1 (by rfl) T.z_range (pa_cons (pv 2) pa_nil)) (pg_name (i := 6) sc_law_row.nd rfl (Or.inl rfl))
      (pss_cons (ps_set (i := 7) sc_law_row.nd rfl (Or.inl rfl) (pe_op op_mod (pe_callTy call_int1 (by rfl) T.z_int (by decide +kernel) (pa_cons (pe_op op_add (pe_op op_add (pe_op op_add (pe_op op_mul (pv 4) pe_int) (pe_op op_mul (pv 6) pe_int)) (pe_op op_mul (pv 1) pe_int)) pe_int) pa_nil)) pe_int))
      (pss_cons (ps_set (i := 8) sc_law_row.nd rfl (Or.inl rfl) (pe_op op_mod (pe_callTy call_int1 (by rfl) T.z_int (by decide +kernel) (pa_cons (pe_op op_add (pe_op op_mul (pv 7) (pe_op op_add (pe_op op_add (pe_op op_fdiv (pv 7) pe_int) (pv 6)) pe_int)) (pv 1)) pa_nil)) pe_int))
      (pss_one (ps_expr (pe_bm PySem.F.plainAttrs_list PySem.F.slot_list_append PySem.F.type_list_append mt_append (pv 5) (pa_cons (pe_op op_mod (pe_callTy call_int1 (by rfl) T.z_int (by decide +kernel) (pa_cons (pv 8) pa_nil)) (pv 3)) pa_nil)))))))
    (pss_one (ps_ret (pv 5))))))), ?_⟩
    refine ⟨_, rfl, .inl ⟨_, rfl, (by show 0 ≤ sizeLine; decide), fun l hl => ?_⟩⟩
    have sz : ∀ n : Nat, n < 200 → n < sizeLine := fun n h => Nat.lt_trans h (by decide)
    refine ⟨_, rfl, _, _, rfl, rfl, ⟨by decide, by decide, by decide⟩, _, _, rfl, rfl, _, rfl, ?_⟩
    refine ite2 (fun _ => ?_) (fun _ => ?_)
    · refine ⟨_, rfl, _, _, rfl, rfl, ⟨by decide, by decide, by decide⟩, _, _, rfl, rfl, ?_⟩
      refine ⟨_, rfl, _, rfl, by omega, by omega, ?_⟩
      refine for_range (lo := 0) (n := count.toNat) (fun i σ H2 => ∃ (xs : List Int) (z : Int) (v : Option V), σ = [some (.int cell), some (.int salt), some (.int count), some (.int bs), some (.int z), some (.ref l), v, none, none] ∧ H2 = upd H l (.lst (xs.map V.int)) ∧ xs.length = i ∧ ∀ x ∈ xs, 0 ≤ x ∧ x < bs)
        ⟨[], _, none, rfl, rfl, rfl, fun _ h => nomatch h⟩ ?_ ?_
      · rintro i σ H2 hi ⟨xs, z, v, rfl, rfl, hx, hb⟩
        refine ⟨_, rfl, .inl ⟨rfl, _, SqL.of upd_same⟩, _, rfl, .inl ⟨_, rfl, _, rfl, _, _, rfl, rfl, b0, ?_⟩⟩
        refine ⟨l, _, _, rfl, rfl, upd_same, sz _ (by rw [List.length_map]; omega), ?_⟩
        refine ⟨_, rfl, _, rfl, _, _, rfl, rfl, ⟨b0, b1⟩, ?_⟩
        refine ⟨xs ++ [z % bs], _, _, rfl, ?_, by simp [hx], fun x hm => ?_⟩
        · rw [upd_upd, List.map_append]
          rfl
        · rcases List.mem_append.mp hm with h | h
          · exact hb x h
          · rw [List.mem_singleton.mp h]
            exact ⟨Int.emod_nonneg _ (by omega), Int.emod_lt_of_pos _ b0⟩
      · rintro σ H2 ⟨xs, z, v, rfl, rfl, hx, hb⟩
        exact ⟨_, rfl, k _ l xs (sm_new hl) hl upd_same (by omega) hb⟩
    · refine ⟨_, rfl, _, rfl, by omega, by omega, ?_⟩
      refine for_range (lo := 0) (n := count.toNat) (fun i σ H2 => ∃ (xs : List Int) (v1 v2 v3 : Option V), σ = [some (.int cell), some (.int salt), some (.int count), some (.int bs), some (.int cell), some (.ref l), v1, v2, v3] ∧ H2 = upd H l (.lst (xs.map V.int)) ∧ xs.length = i ∧ ∀ x ∈ xs, 0 ≤ x ∧ x < bs)
        ⟨[], none, none, none, rfl, rfl, rfl, fun _ h => nomatch h⟩ ?_ ?_
      · rintro i σ H2 hi ⟨xs, v1, v2, v3, rfl, rfl, hx, hb⟩
        refine ⟨_, rfl, _, _, rfl, rfl, .inr ⟨by decide, by decide⟩, _, rfl, _, _, rfl, rfl, .inr ⟨by decide, by decide⟩, _, _, rfl, rfl, _, rfl, _, _, rfl, rfl, .inr ⟨by decide, by decide⟩, _, _, rfl, rfl, _, _, rfl, rfl, .inl ⟨_, rfl, _, _, rfl, rfl, (by show (0 : Int) < 2147483647; decide), ?_⟩⟩
        have n0 : 0 ≤ (cell * 48271 + (0 + (i : Int)) * 69621 + salt * 12345 + 777) % 2147483647 := Int.emod_nonneg _ (by decide)
        have n1 : (cell * 48271 + (0 + (i : Int)) * 69621 + salt * 12345 + 777) % 2147483647 < 2147483647 := Int.emod_lt_of_pos _ (by decide)
        revert n0 n1
        show 0 ≤ (cell * 48271 + (0 + (i : Int)) * 69621 + salt * 12345 + 777) % 2147483647 → (cell * 48271 + (0 + (i : Int)) * 69621 + salt * 12345 + 777) % 2147483647 < 2147483647 → gName 7 (.int ((cell * 48271 + (0 + (i : Int)) * 69621 + salt * 12345 + 777) % 2147483647)) _ _ _
        generalize (cell * 48271 + (0 + (i : Int)) * 69621 + salt * 12345 + 777) % 2147483647 = f1
        intro n0 n1
        refine ⟨_, rfl, _, rfl, _, _, rfl, rfl, ⟨by decide, by decide⟩, _, rfl, _, _, rfl, rfl, _, _, rfl, rfl, _, _, rfl, rfl, (.inl ⟨by omega, by omega⟩), _, rfl, _, _, rfl, rfl, .inl ⟨_, rfl, _, _, rfl, rfl, (by show (0 : Int) < 2147483629; decide), ?_⟩⟩
        refine ⟨_, rfl, .inl ⟨rfl, _, SqL.of upd_same⟩, _, rfl, .inl ⟨_, rfl, _, rfl, _, _, rfl, rfl, b0, ?_⟩⟩
        refine ⟨l, _, _, rfl, rfl, upd_same, sz _ (by rw [List.length_map]; omega), ?_⟩
        refine ⟨xs ++ [(f1 * (f1 / 65536 + (0 + (i : Int)) + 3) + salt) % 2147483629 % bs], _, _, _, rfl, ?_, by simp [hx], fun x hm => ?_⟩
        · rw [upd_upd, List.map_append]
          rfl
        · rcases List.mem_append.mp hm with h | h
          · exact hb x h
          · rw [List.mem_singleton.mp h]
            exact ⟨Int.emod_nonneg _ (by omega), Int.emod_lt_of_pos _ b0⟩
      · rintro σ H2 ⟨xs, v1, v2, v3, rfl, rfl, hx, hb⟩
        exact ⟨_, rfl, k _ l xs (sm_new hl) hl upd_same (by omega) hb⟩

theorem ok_law_numbers (T : Txt K mg base) : FnOk P w K mg base CX0 2 (He.ga K "_law_numbers") T.fd_law_numbers ["script", "count"] (spNumbers K) := by
  refine T.F_law_numbers.ok sc_law_numbers (fun vs H Q E h => ?_) (fun cdv A outer s H vs Q E hr h => ?_)
  · obtain ⟨a, ss, count, rfl, ⟨hS, hl⟩, c0, c1, k⟩ := h
    rfl
  · obtain ⟨a, ss, count, rfl, ⟨hS, hl⟩, c0, c1, k⟩ := h
    refine ⟨_, PSs.nox (pss_cons (ps_set (i := 2) sc_law_numbers.nd rfl (Or.inl rfl) (pe_call (ok_law_row T) (hr.mono (by decide)) (by rfl) T.g_law_row T.F_law_row.kp T.b_law_row .nil pass0 (pa_cons (pe_call (ok_law_cell T) (hr.mono (by decide)) (by rfl) T.g_law_cell T.F_law_cell.kp T.b_law_cell .nil pass0 (pa_cons (pv 0) (pa_cons pe_int pa_nil))) (pa_cons pe_int (pa_cons (pv 1) (pa_cons pe_int pa_nil))))))
    (pss_cons (ps_set (i := 3) sc_law_numbers.nd rfl (Or.inl rfl) (pe_lst pa_nil))
    (pss_cons (ps_set (i := 4) sc_law_numbers.nd rfl (Or.inl rfl) (pe_op op_mod (pe_callTy call_int1 (by rfl) T.z_int (by decide +kernel) (pa_cons (pe_call (ok_law_cell T) (hr.mono (by decide)) (by rfl) T.g_law_cell T.F_law_cell.kp T.b_law_cell .nil pass0 (pa_cons (pv 0) (pa_cons pe_int pa_nil))) pa_nil)) pe_int))
    (pss_cons (ps_for PassesOwn.never rfl (pi_range1 (by rfl) T.z_range (pa_cons (pv 1) pa_nil)) (pg_name (i := 5) sc_law_numbers.nd rfl (Or.inl rfl))
      (pss_cons (ps_expr (pe_bm PySem.F.plainAttrs_list PySem.F.slot_list_append PySem.F.type_list_append mt_append (pv 3) (pa_cons (pv 4) pa_nil)))
      (pss_one (ps_set (i := 4) sc_law_numbers.nd rfl (Or.inl rfl) (pe_op op_add (pe_op op_add (pv 4) pe_int) (pe_ix ix_list (pe_lst (pa_cons pe_int (pa_cons pe_int (pa_cons pe_int (pa_cons pe_int (pa_cons pe_int (pa_cons pe_int pa_nil))))))) (pe_ix ix_list (pv 2) (pv 5) (fun _ _ => rfl)) (fun _ _ => rfl)))))))
    (pss_one (ps_ret (pv 3))))))), ?_⟩
    have sz : ∀ n : Nat, n < 200 → n < sizeLine := fun n h => Nat.lt_trans h (by decide)
    refine ⟨_, rfl, a, ss, 1, rfl, ⟨hS, hl⟩, by decide, fun r1 => ?_⟩
    refine ⟨_, rfl, r1, 1, count, 6, rfl, c0, c1, by decide, by decide, fun H1 lh hs s1 n1 e1 l1 b1 => ?_⟩
    refine ⟨(by show 0 ≤ sizeLine; decide), fun l hn => ?_⟩
    have e1' : (upd H1 l (.lst [])) lh = some (.lst (hs.map V.int)) := by rw [upd_ne (ne_of_none e1 hn)]; exact e1
    have s2 : Same H (upd H1 l (.lst [])) := s1.trans (sm_new hn)
    refine ⟨_, rfl, a, ss, 1, rfl, ⟨s2.seq hS, hl⟩, by decide, fun r2 => .inl ⟨_, rfl, _, _, rfl, rfl, (by show (0 : Int) < 3; decide), ?_⟩⟩
    refine ⟨_, rfl, _, rfl, by omega, by omega, ?_⟩
    refine for_range (lo := 0) (n := count.toNat) (fun i σ H2 => ∃ (ns : List Int) (z : Int) (v : Option V), σ = [some (.ref a), some (.int count), some (.ref lh), some (.ref l), some (.int z), v] ∧ Same H1 H2 ∧ H2 l = some (.lst (ns.map V.int)) ∧ ns.length = i)
      ⟨[], _, none, rfl, sm_new hn, upd_same, rfl⟩ ?_ ?_
    · rintro i σ H2 hi ⟨ns, z, v, rfl, sm, hl2, hx⟩
      refine ⟨_, rfl, .inl ⟨rfl, _, SqL.of hl2⟩, _, rfl, l, _, _, rfl, rfl, hl2, sz _ (by rw [List.length_map]; omega), ?_⟩
      have sm2 : Same H1 (upd H2 l (.lst (ns.map V.int ++ [.int z]))) := sm_put sm hn
      refine ⟨_, rfl, _, _, rfl, rfl, (by show 6 ≤ sizeLine; decide), fun p hp => ?_⟩
      have sm3 := sm2.trans (sm_new (o := .lst [.int 0, .int 0, .int 0, .int 1, .int 4, .int 60]) hp)
      obtain ⟨x, hx1, hx2⟩ := at_in (f := V.int) (xs := hs) (i := 0 + (i : Int)) (by omega) (by omega)
      obtain ⟨b2, b3⟩ := b1 x hx1
      obtain ⟨y, hy1, hy2⟩ := at_in (f := V.int) (xs := [0, 0, 0, 1, 4, 60]) (i := x) b2 b3
      refine ⟨_, rfl, _, rfl, lh, _, _, _, rfl, rfl, SqL.of (sm3 _ _ e1), hx2, p, _, _, _, rfl, rfl, SqL.of upd_same, hy2, _, _, rfl, rfl, ?_⟩
      refine ⟨ns ++ [z], _, _, rfl, sm3, ?_, by simp [hx]⟩
      rw [upd_ne (ne_of_none (o := .lst (ns.map V.int ++ [.int z])) upd_same hp), upd_same, List.map_append]
      rfl
    · rintro σ H2 ⟨ns, z, v, rfl, sm, hl2, hx⟩
      exact ⟨_, rfl, k H2 l ns (s1.trans sm) (s1.free hn) hl2 (by omega)⟩

theorem ok_law_content (T : Txt K mg base) : FnOk P w K mg base CX0 1 (He.ga K "_law_content") T.fd_law_content ["digit", "numbers", "sparse"] spContent := by
  refine T.F_law_content.ok sc_law_content (fun vs H Q E h => ?_) (fun cdv A outer s H vs Q E hr h => ?_)
  · obtain ⟨digit, l, ns, sp, rfl, hl, hz, k⟩ := h
    rfl
  · obtain ⟨digit, l, ns, sp, rfl, hl, hz, k⟩ := h
    refine ⟨_, PSs.nox (pss_cons (ps_set (i := 3) sc_law_content.nd rfl (Or.inl rfl) (pe_op op_mod (pe_callTy call_int1 (by rfl) T.z_int (by decide +kernel) (pa_cons (pv 0) pa_nil)) pe_int))
    (pss_cons (ps_set (i := 4) sc_law_content.nd rfl (Or.inl rfl) (pe_op op_fdiv (pe_callTy call_int1 (by rfl) T.z_int (by decide +kernel) (pa_cons (pv 0) pa_nil)) pe_int))
    (C8.pss_cut (ps_if (PW.pt (pw_or (pt_cmpR op_lt (pv 3) pe_int (nomark _)) (pw_or1 (PW.pt (pw_and (pt_val (pv 2)) (pw_and1 (pt_cmpR op_lt (pv 3) pe_int (nomark _))))))))
      (pss_one (ps_ret pe_non))
      pss_nil)
    (pss_cons (ps_if (PW.pt (pw_and (pt_cmpR op_lt (pv 3) pe_int (nomark _)) (pw_and1 (pt_truth (pv 1) (by intro _; rfl)))))
      (pss_one (ps_ret (pe_ix ix_list (pv 1) (pe_op op_mod (pv 4) (pe_callB call_len_seq (by rfl) T.z_len (by decide +kernel) (pa_cons (pv 1) pa_nil))) (fun _ _ => rfl))))
      pss_nil)
    (pss_cons (ps_if (pt_cmpR op_lt (pv 3) pe_int (nomark _))
      (pss_one (ps_ret (pv 4)))
      pss_nil)
    (pss_one (ps_ret (pe_tup (pa_cons (pe_op op_mod (pv 4) pe_int) (pa_cons (pe_op op_fdiv (pv 4) pe_int) pa_nil)))))))))), ?_⟩
    have hlen : (ns.map V.int).length = ns.length := List.length_map ..
    refine ⟨_, rfl, .inl ⟨_, rfl, _, _, rfl, rfl, (by show (0 : Int) < 10; decide), ?_⟩⟩
    refine ⟨_, rfl, .inl ⟨_, rfl, _, _, rfl, rfl, ⟨by decide, by decide⟩, ?_⟩⟩
    refine ⟨fun σ H' => σ = [some (.int digit), some (.ref l), some (.bl sp), some (.int (digit % 10)), some (.int (digit / 10))] ∧ H' = H, ?_, ?_⟩
    · refine ⟨_, rfl, _, _, rfl, rfl, _, rfl, ite2 (fun _ => ?_) (fun _ => ?_)⟩
      · exact k .non .non H (Same.refl H) rfl
      · refine ⟨_, rfl, sp, rfl, ?_⟩
        cases sp with
        | false => exact iteF ⟨rfl, rfl⟩
        | true =>
          refine iteT ⟨_, rfl, _, _, rfl, rfl, _, rfl, ite2 (fun _ => ?_) (fun _ => ?_)⟩
          · exact k .non .non H (Same.refl H) rfl
          · exact ⟨rfl, rfl⟩
    rintro σ H' ⟨rfl, rfl⟩
    have rest : ∀ (Q' : Prop), Q' → Q' := fun _ h => h
    refine ⟨_, rfl, _, _, rfl, rfl, _, rfl, ite2 (fun _ => ?_) (fun _ => ?_)⟩
    · refine ⟨_, rfl, !(ns.map V.int).isEmpty, .inl ⟨_, SqL.of hl, rfl⟩, ?_⟩
      cases ns with
      | nil =>
        refine iteF ?_
        refine ⟨_, rfl, _, _, rfl, rfl, _, rfl, ite2 (fun _ => ?_) (fun _ => ?_)⟩
        · exact ⟨_, rfl, k (.obj _) _ _ (Same.refl _) rfl⟩
        · refine ⟨_, rfl, _, _, rfl, rfl, (by show (0 : Int) < 8; decide), _, rfl, _, _, rfl, rfl, ⟨by decide, by decide⟩, (by show 2 ≤ sizeLine; decide), fun t ht => ?_⟩
          exact k (.far _ _) _ _ (sm_new ht) ⟨t, rfl, upd_same⟩
      | cons n0 ns =>
        refine iteT ?_
        have c0 : (0 : Int) < ((((n0 :: ns).map V.int).length : Nat) : Int) := by rw [List.length_map, List.length_cons]; omega
        obtain ⟨y, _, hy⟩ := at_in (f := V.int) (xs := n0 :: ns) (i := digit / 10 % ((((n0 :: ns).map V.int).length : Nat) : Int)) (Int.emod_nonneg _ (by omega)) (by
          have := Int.emod_lt_of_pos (digit / 10) c0
          rw [List.length_map] at this ⊢
          exact this)
        exact ⟨_, rfl, _, rfl, _, rfl, l, _, rfl, .inl (SqL.of hl), _, _, rfl, rfl, c0, l, _, _, _, rfl, rfl, SqL.of hl, hy, k (.obj y) _ _ (Same.refl _) rfl⟩
    · refine ⟨_, rfl, _, _, rfl, rfl, _, rfl, ite2 (fun _ => ?_) (fun _ => ?_)⟩
      · exact ⟨_, rfl, k (.obj _) _ _ (Same.refl _) rfl⟩
      · refine ⟨_, rfl, _, _, rfl, rfl, (by show (0 : Int) < 8; decide), _, rfl, _, _, rfl, rfl, ⟨by decide, by decide⟩, (by show 2 ≤ sizeLine; decide), fun t ht => ?_⟩
        exact k (.far _ _) _ _ (sm_new ht) ⟨t, rfl, upd_same⟩

theorem ok_law_contents (T : Txt K mg base) : FnOk P w K mg base CX0 3 (He.ga K "_law_contents") T.fd_law_contents ["script", "k", "numbers", "style"] (spContents K) := by
  refine T.F_law_contents.ok sc_law_contents (fun vs H Q E h => ?_) (fun cdv A outer s H vs Q E hr h => ?_)
  · obtain ⟨a, ss, i, l, ns, style, rfl, ⟨hS, hl⟩, i0, hn, nn, hz, k⟩ := h
    rfl
  · obtain ⟨a, ss, i, l, ns, style, rfl, ⟨hS, hl⟩, i0, hn, nn, hz, k⟩ := h
    refine ⟨_, PSs.nox (pss_cons (ps_set (i := 4) sc_law_contents.nd rfl (Or.inl rfl) (pe_call (ok_law_row T) (hr.mono (by decide)) (by rfl) T.g_law_row T.F_law_row.kp T.b_law_row .nil pass0 (pa_cons (pe_call (ok_law_cell T) (hr.mono (by decide)) (by rfl) T.g_law_cell T.F_law_cell.kp T.b_law_cell .nil pass0 (pa_cons (pv 0) (pa_cons (pe_op op_add pe_int (pe_op op_mod (pv 1) pe_int)) pa_nil))) (pa_cons (pe_op op_add pe_int (pv 1)) (pa_cons pe_int (pa_cons pe_int pa_nil))))))
    (pss_cons (ps_setLc (i := 5) (own := [("digit", 6)]) (g := gName 6) (tt := tYes) (by rfl) sc_law_contents.nd rfl rfl (sw_true rfl rfl rfl (by decide +kernel)) (pi_list (pe_slice sl_list (pv 4) (po_some pe_int) (po_some (pe_op op_add pe_int (pe_op op_mod (pe_ix ix_list (pv 4) pe_int (fun _ _ => rfl)) pe_int))))) (blkOk_by (own := [("digit", 6)]) (N := ["script", "k", "numbers", "style", "row", "contents", "digit"]) (sc := defScope s_law_contents) (by decide +kernel)) (fun _ _ _ _ _ => pg_name (i := 6) sc_law_contents.nd rfl (Or.inl rfl)) (fun _ _ _ _ _ => pts_nil) (fun _ _ _ _ _ => (pe_call (ok_law_content T) (hr.mono (by decide)) (by rfl) T.g_law_content T.F_law_content.kp T.b_law_content .nil pass0 (pa_cons (pv 6) (pa_cons (pv 2) (pa_cons (pe_cmpR op_eq (pv 3) pe_int (nomark _)) pa_nil))))))
    (C8.pss_cut (ps_if (pt_cmpR op_eq (pv 3) pe_int (nomark _))
      (pss_one (ps_set (i := 5) sc_law_contents.nd rfl (Or.inl rfl) (pe_op op_cat (pe_lst (pa_cons (pe_ix ix_list (pv 2) (pe_op op_mod (pe_op op_add (pv 1) pe_int) (pe_callB call_len_seq (by rfl) T.z_len (by decide +kernel) (pa_cons (pv 2) pa_nil))) (fun _ _ => rfl)) pa_nil)) (pe_slice sl_list (pv 5) po_none (po_some pe_int)))))
      pss_nil)
    (pss_one (ps_ret (pe_callTy call_tuple_of (by rfl) T.z_tuple (by decide +kernel) (pa_cons (pv 5) pa_nil))))))), ?_⟩
    have sz : ∀ n : Nat, n < 200 → n < sizeLine := fun n h => Nat.lt_trans h (by decide)
    have sz2 : ∀ n : Nat, n < 200 → n ≤ sizeLine := fun n h => Nat.le_of_lt (sz n h)
    have n0 : (0 : Int) ≤ 3 + i % 60 := by have := Int.emod_nonneg i (b := 60) (by decide); omega
    refine ⟨_, rfl, _, rfl, _, _, rfl, rfl, (by show (0 : Int) < 60; decide), _, _, rfl, rfl, a, ss, 3 + i % 60, rfl, ⟨hS, hl⟩, n0, fun r1 => ?_⟩
    refine ⟨_, rfl, _, _, rfl, rfl, r1, 3 + i, 9, 2000, rfl, by decide, by decide, by decide, by decide, fun H1 lr rs s1 n1 e1 l1 b1 => ?_⟩
    obtain ⟨r0, hr0, hr1⟩ := at_in (f := V.int) (xs := rs) (i := 0) (by omega) (by omega)
    have e8 : 1 + r0 % 9 ≤ 9 := by have := Int.emod_lt_of_pos r0 (b := 9) (by decide); omega
    have e9 : 0 ≤ r0 % 9 := Int.emod_nonneg r0 (by decide)
    refine ⟨_, rfl, _, rfl, _, rfl, lr, _, _, _, rfl, rfl, SqL.of e1, hr1, _, _, rfl, rfl, (by show (0 : Int) < 9; decide), _, _, rfl, rfl, _, rfl, lr, _, rfl, SqL.of e1, fun q hq => ?_⟩
    have hcut : ∀ x ∈ cutV (rs.map V.int) (some 1) (some (1 + r0 % 9)), ∃ z, x = V.int z := by
      intro x hx
      unfold cutV at hx
      obtain ⟨z, _, e⟩ := List.mem_map.mp (List.mem_of_mem_drop (List.mem_of_mem_take hx))
      exact ⟨z, e.symm⟩
    have lcut : (cutV (rs.map V.int) (some 1) (some (1 + r0 % 9))).length ≤ 8 := by
      unfold cutV
      rw [List.length_take, List.length_drop, List.length_map]
      have l9 : rs.length = 9 := by omega
      rw [l9]
      have h1 : HT.sIx 9 0 (some 1) = 1 := by decide
      rw [h1]
      omega
    revert hcut lcut
    generalize cutV (rs.map V.int) (some 1) (some (1 + r0 % 9)) = ds
    intro hcut lcut
    refine ⟨q, rfl, ⟨_, SqL.of upd_same⟩, fun D hD => ?_⟩
    have s2 : Same H (upd H1 q (.lst ds)) := s1.trans (sm_new hq)
    refine lc_list (K := K) (a := q) (xs := ds) (fun j H2 => ∃ (ws : List V) (cs : List Cell), Same (upd H1 q (.lst ds)) H2 ∧ H2 D = some (.lst ws) ∧ CVs H2 cs ws ∧ ws.length = j)
      ⟨[], [], sm_new hD, upd_same, .nil, rfl⟩ (fun j H2 _ ⟨_, _, sm, _⟩ => SqL.of (sm _ _ upd_same)) ?_ ?_
    · rintro j x H2 hj ⟨ws, cs, sm, hw, hc, hx⟩
      obtain ⟨z, rfl⟩ := hcut x (List.mem_of_getElem? hj)
      have hlt : j < ds.length := (List.getElem?_eq_some_iff.mp hj).1
      have hn2 := sm _ _ (s2 _ _ hn)
      refine ⟨rfl, _, rfl, _, rfl, _, rfl, rfl, z, l, ns, _, rfl, hn2, hz, fun c v H3 s3 hv => ?_⟩
      refine ⟨ws, s3 _ _ hw, sz _ (by omega), ws ++ [v], cs ++ [c], ?_, upd_same, ?_, by simp [hx]⟩
      · exact sm_put (sm.trans s3) hD
      · have tl : TL H3 (upd H3 D (.lst (ws ++ [v]))) := TL.put (s3 _ _ hw) fun xs => nofun
        exact pr_app ((CVs.tl (TL.same s3) hc).tl tl) (.cons (hv.tl tl) .nil)
    rintro H2 ⟨ws, cs, sm, hw, hc, hx⟩
    have s3 := s2.trans sm
    refine ⟨fun σ H' => ∃ (ws : List V) (cs : List Cell) (c : Addr) (v : Option V), σ = [some (.ref a), some (.int i), some (.ref l), some (.int style), some (.ref lr), some (.ref c), v] ∧ Same H H' ∧ H' c = some (.lst ws) ∧ CVs H' cs ws ∧ ws.length ≤ 8, ?_, ?_⟩
    · refine ⟨_, rfl, rfl, _, rfl, ?_⟩
      refine ite2 (fun _ => ?_) (fun _ => ?_)
      · have c0 : (0 : Int) < (((ns.map V.int).length : Nat) : Int) := by
          rw [List.length_map]
          have := List.length_pos_iff.mpr nn
          omega
        obtain ⟨y, _, hy⟩ := at_in (f := V.int) (xs := ns) (i := (i + 1) % (((ns.map V.int).length : Nat) : Int)) (Int.emod_nonneg _ (by omega)) (by
          have := Int.emod_lt_of_pos (i + 1) c0
          rw [List.length_map] at this ⊢
          exact this)
        refine ⟨_, rfl, _, rfl, _, _, rfl, rfl, _, rfl, l, _, rfl, .inl (SqL.of (s3 _ _ hn)), _, _, rfl, rfl, c0, l, _, _, _, rfl, rfl, SqL.of (s3 _ _ hn), hy, (by show 1 ≤ sizeLine; decide), fun p1 h1 => ?_⟩
        have s4 := sm_new (o := .lst [.int y]) h1
        refine ⟨_, rfl, _, rfl, D, _, rfl, SqL.of (s4 _ _ hw), fun p2 h2 => ?_⟩
        have s5 := sm_new (o := .lst (cutV ws none (some 2))) h2
        refine ⟨p1, p2, _, _, rfl, rfl, s5 _ _ upd_same, upd_same, ?_, fun p3 h3 => ?_⟩
        · have := cutV_length ws none (some 2)
          exact sz2 _ (by rw [List.length_cons, List.length_nil]; omega)
        have s6 := sm_new (o := .lst ([.int y] ++ cutV ws none (some 2))) h3
        have e2 : cutV ws none (some 2) = ws.take 2 := by
          unfold cutV
          have q1 : HT.sIx ws.length 0 none = 0 := rfl
          rw [q1, List.drop_zero, Nat.sub_zero]
          have q2 : HT.sIx ws.length ws.length (some 2) = min 2 ws.length := by
            unfold HT.sIx
            rfl
          rw [q2]
          rcases Nat.le_total 2 ws.length with h | h
          · rw [Nat.min_eq_left h]
          · rw [Nat.min_eq_right h, List.take_of_length_le (Nat.le_refl _), List.take_of_length_le h]
        refine ⟨[.int y] ++ ws.take 2, .obj y :: cs.take 2, p3, _, rfl, ((s3.trans s4).trans s5).trans s6, ?_, ?_, ?_⟩
        · rw [e2]
          exact upd_same
        · refine .cons rfl ?_
          have all : ∀ (n : Nat) {cs : List Cell} {ws : List V}, CVs H2 cs ws → CVs H2 (cs.take n) (ws.take n) := by
            intro n
            induction n with
            | zero => intro cs ws _; exact .nil
            | succ n ih =>
              intro cs ws h
              cases h with
              | nil => exact .nil
              | cons x t => exact .cons x (ih t)
          exact (all 2 hc).tl (TL.same ((s4.trans s5).trans s6))
        · rw [List.length_append, List.length_take]
          simp only [List.length_cons, List.length_nil]
          omega
      · exact ⟨ws, cs, D, _, rfl, s3, hw, hc, by omega⟩
    rintro σ H' ⟨ws, cs, c, v, rfl, sm, hw, hc, hx⟩
    refine ⟨_, rfl, c, _, rfl, .inl ⟨SqL.of hw, fun t ht => ?_⟩⟩
    exact k _ t ws cs (sm.trans (sm_new ht)) (sm.free ht) upd_same (hc.tl (TL.same (sm_new ht))) (by rw [pr_len hc]; exact hx)

theorem ok_law_heap (T : Txt K mg base) : FnOk P w K mg base CX0 4 (He.ga K "_law_heap") T.fd_law_heap ["script", "most"] (spHeap K) := by
  refine T.F_law_heap.ok sc_law_heap (fun vs H Q E h => ?_) (fun cdv A outer s H vs Q E hr h => ?_)
  · obtain ⟨a, ss, most, rfl, ⟨hS, hl⟩, m0, m1, k⟩ := h
    rfl
  · obtain ⟨a, ss, most, rfl, ⟨hS, hl⟩, m0, m1, k⟩ := h
    refine ⟨_, PSs.nox (pss_cons (ps_set (i := 2) sc_law_heap.nd rfl (Or.inl rfl) (pe_callTy call_int1 (by rfl) T.z_int (by decide +kernel) (pa_cons (pe_ix ix_list (pe_call (ok_law_row T) (hr.mono (by decide)) (by rfl) T.g_law_row T.F_law_row.kp T.b_law_row .nil pass0 (pa_cons (pe_call (ok_law_cell T) (hr.mono (by decide)) (by rfl) T.g_law_cell T.F_law_cell.kp T.b_law_cell .nil pass0 (pa_cons (pv 0) (pa_cons pe_int pa_nil))) (pa_cons pe_int (pa_cons pe_int (pa_cons (pe_op op_pow pe_int pe_int) pa_nil))))) pe_int (fun _ _ => rfl)) pa_nil)))
    (pss_cons (ps_set (i := 3) sc_law_heap.nd rfl (Or.inl rfl) (pe_op op_mod (pv 2) pe_int))
    (C8.pss_cut (ps_if (pt_cmpR op_eq (pe_op op_mod (pe_op op_fdiv (pv 2) pe_int) pe_int) pe_int (nomark _))
      (pss_one (ps_set (i := 3) sc_law_heap.nd rfl (Or.inl rfl) (pe_op op_mod (pe_op op_fdiv (pv 2) pe_int) (pe_op op_add (pv 1) pe_int))))
      pss_nil)
    (pss_cons (ps_set (i := 4) sc_law_heap.nd rfl (Or.inl rfl) (pe_op op_mod (pe_op op_fdiv (pv 2) pe_int) pe_int))
    (pss_cons (ps_set (i := 5) sc_law_heap.nd rfl (Or.inl rfl) (pe_call (ok_law_numbers T) (hr.mono (by decide)) (by rfl) T.g_law_numbers T.F_law_numbers.kp T.b_law_numbers .nil pass0 (pa_cons (pv 0) (pa_cons (pv 3) pa_nil))))
    (pss_cons (ps_set (i := 6) sc_law_heap.nd rfl (Or.inl rfl) pe_dnewK)
    (pss_cons (ps_for PassesOwn.never rfl (pi_range1 (by rfl) T.z_range (pa_cons (pv 3) pa_nil)) (pg_name (i := 7) sc_law_heap.nd rfl (Or.inl rfl))
      (pss_cons (ps_set (i := 8) sc_law_heap.nd rfl (Or.inl rfl) (pe_op op_mod (pe_op op_add (pv 7) (pe_op op_fdiv (pv 2) pe_int)) (pv 3)))
      (C8.pss_cut (ps_if (pt_cmpR op_eq (pe_op op_mod (pe_op op_fdiv (pv 2) pe_int) pe_int) pe_int (nomark _))
        (pss_one (ps_set (i := 8) sc_law_heap.nd rfl (Or.inl rfl) (pe_op op_sub (pe_op op_sub (pv 3) pe_int) (pv 8))))
        pss_nil)
      (pss_one (ps_dput (hu2 hr.units) (pv 6) (pe_ix ix_list (pv 5) (pv 8) (fun _ _ => rfl)) (pe_call (ok_law_contents T) (hr.mono (by decide)) (by rfl) T.g_law_contents T.F_law_contents.kp T.b_law_contents .nil pass0 (pa_cons (pv 0) (pa_cons (pv 8) (pa_cons (pv 5) (pa_cons (pv 4) pa_nil))))) rfl)))))
    (pss_one (ps_ret (pv 6)))))))))), ?_⟩
    have sz : ∀ n : Nat, n < 200 → n < sizeLine := fun n h => Nat.lt_trans h (by decide)
    refine ⟨_, rfl, a, ss, 0, rfl, ⟨hS, hl⟩, by decide, fun r1 => ?_⟩
    refine ⟨_, _, rfl, rfl, ⟨by decide, by decide, by decide⟩, r1, 0, 1, _, rfl, by decide, by decide, by decide +kernel, by decide +kernel, fun H1 lr rs s1 n1 e1 l1 b1 => ?_⟩
    obtain ⟨sh, hr0, hr1⟩ := at_in (f := V.int) (xs := rs) (i := 0) (by omega) (by omega)
    obtain ⟨b2, _⟩ := b1 sh hr0
    refine ⟨lr, _, _, _, rfl, rfl, SqL.of e1, hr1, .inl ⟨_, rfl, ?_⟩⟩
    refine ⟨_, rfl, _, _, rfl, rfl, (by show (0 : Int) < 13; decide), ?_⟩
    have c0 : 0 ≤ sh % 13 := Int.emod_nonneg _ (by decide)
    have c1 : sh % 13 < 13 := Int.emod_lt_of_pos _ (by decide)
    refine ⟨fun σ H' => ∃ count : Int, 0 ≤ count ∧ count ≤ 99 ∧ σ = [some (.ref a), some (.int most), some (.int sh), some (.int count), none, none, none, none, none] ∧ H' = H1, ?_, ?_⟩
    · refine ⟨_, rfl, _, _, rfl, rfl, ⟨by decide, by decide⟩, _, _, rfl, rfl, (by show (0 : Int) < 8; decide), rfl, _, rfl, ite2 (fun _ => ?_) (fun _ => ?_)⟩
      · have d0 : 0 ≤ sh / 104 % (most + 1) := Int.emod_nonneg _ (by omega)
        have d1 : sh / 104 % (most + 1) < most + 1 := Int.emod_lt_of_pos _ (by omega)
        refine ⟨_, rfl, _, _, rfl, rfl, ⟨by decide, by decide⟩, _, rfl, _, _, rfl, rfl, _, _, rfl, rfl, (by show (0 : Int) < most + 1; omega), ?_⟩
        exact ⟨_, d0, by omega, rfl, rfl⟩
      · exact ⟨_, c0, by omega, rfl, rfl⟩
    rintro σ H' ⟨count, c2, c3, rfl, rfl⟩
    refine ⟨_, rfl, _, _, rfl, rfl, ⟨by decide, by decide⟩, _, _, rfl, rfl, (by show (0 : Int) < 4; decide), ?_⟩
    refine ⟨_, rfl, _, rfl, a, ss, count, rfl, ⟨s1.seq hS, hl⟩, c2, by omega, fun H2 ln ns s2 n2 e2 l2 => ?_⟩
    refine fun d hd => ?_
    have nd : H2 d = none := hd
    refine ⟨_, rfl, _, rfl, by omega, by omega, ?_⟩
    refine for_range (lo := 0) (n := count.toNat) (fun i σ H3 => ∃ (fs : Fields) (v1 v2 : Option V), σ = [some (.ref a), some (.int most), some (.int sh), some (.int count), some (.int (sh / 10000 % 4)), some (.ref ln), some (.ref d), v1, v2] ∧ Same H2 H3 ∧ Fs H3 d fs i)
      ⟨[], none, none, rfl, sm_new hd, ⟨⟨[], upd_same, .nil⟩, List.nodup_nil, fun _ h => (nomatch h), Nat.le_refl _⟩⟩ ?_ ?_
    · rintro i σ H3 hi ⟨fs, v1, v2, rfl, sm, F⟩
      have d0 : 0 ≤ (0 + (i : Int) + sh / 40000) % count := Int.emod_nonneg _ (by omega)
      have d1 : (0 + (i : Int) + sh / 40000) % count < count := Int.emod_lt_of_pos _ (by omega)
      refine ⟨_, rfl, _, rfl, _, _, rfl, rfl, ⟨by decide, by decide⟩, _, _, rfl, rfl, _, rfl, _, _, rfl, rfl, (by show (0 : Int) < count; omega), ?_⟩
      refine ⟨fun σ H' => ∃ at_ : Int, 0 ≤ at_ ∧ at_ < count ∧ σ = [some (.ref a), some (.int most), some (.int sh), some (.int count), some (.int (sh / 10000 % 4)), some (.ref ln), some (.ref d), some (.int (0 + (i : Int))), some (.int at_)] ∧ H' = H3, ?_, ?_⟩
      · refine ⟨_, rfl, _, _, rfl, rfl, ⟨by decide, by decide⟩, _, _, rfl, rfl, (by show (0 : Int) < 2; decide), rfl, _, rfl, ite2 (fun _ => ?_) (fun _ => ?_)⟩
        · refine ⟨_, rfl, _, _, rfl, rfl, _, rfl, _, _, rfl, rfl, ?_⟩
          exact ⟨_, by omega, by omega, rfl, rfl⟩
        · exact ⟨_, d0, d1, rfl, rfl⟩
      rintro σ H' ⟨at_, a0, a1, rfl, rfl⟩
      have s4 := (s1.trans s2).trans sm
      obtain ⟨n, _, hn⟩ := at_in (f := V.int) (xs := ns) (i := at_) a0 (by omega)
      refine ⟨_, rfl, _, rfl, _, rfl, _, rfl, a, ss, at_, ln, ns, _, rfl, ⟨s4.seq hS, hl⟩, a0, sm _ _ e2, (fun z => by subst z; simp at l2; omega), by omega, fun H4 t ws cs s5 n5 e5 hc w8 => ?_⟩
      obtain ⟨kvs, hk, hp⟩ := F.fa.sm s5
      have lk : kvs.length < 200 := by
        have h1 := pr_len hp
        have h2 := F.len
        omega
      refine ⟨_, rfl, _, rfl, _, rfl, ln, _, _, _, rfl, rfl, SqL.of (s5 _ _ (sm _ _ e2)), hn, d, _, rfl, DPut.k (k := Sum.inl n) hk (sz _ lk), ?_⟩
      have tl : TL H4 (upd H4 d (.dK (putK kvs (Sum.inl n) (.ref t)))) := TL.put hk fun xs => nofun
      refine ⟨putC fs n cs, _, _, rfl, sm_put (sm.trans s5) nd, ⟨⟨_, upd_same, ?_⟩, putC_nd F.nd n cs, putC_all (Pr := fun c => c.length ≤ 8) F.w w8, Nat.le_trans (putC_len fs n cs) (Nat.succ_le_succ F.len)⟩⟩
      exact Paired.mapP (put_pr hp e5 hc) fun _ _ q => q.tl tl
    · rintro σ H3 ⟨fs, v1, v2, rfl, sm, F⟩
      exact ⟨_, rfl, k H3 d fs ((s1.trans s2).trans sm) ((s1.trans s2).free nd) ⟨F.fa, F.nd, F.w, by have := F.len; omega⟩⟩

theorem ok_law_copy (T : Txt K mg base) : FnOk P w K mg base CX0 1 (He.ga K "_law_copy") T.fd_law_copy ["fields"] spCopy := by
  refine T.F_law_copy.ok sc_law_copy (fun vs H Q E h => ?_) (fun cdv A outer s H vs Q E hr h => ?_)
  · obtain ⟨d, kvs, rfl, hd, hnd, hk, hz, k⟩ := h
    rfl
  · obtain ⟨d, kvs, rfl, hd, hnd, hk, hz, k⟩ := h
    refine ⟨_, PSs.nox (pss_cons (ps_set (i := 1) sc_law_copy.nd rfl (Or.inl rfl) pe_dnewK)
    (pss_cons (ps_for PassesOwn.never rfl (pi_list (DKe.pe_listKeys rfl (pv 0) (by rfl) T.z_list (by rfl))) (pg_name (i := 2) sc_law_copy.nd rfl (Or.inl rfl))
      (pss_one (ps_dput (hu2 hr.units) (pv 1) (pv 2) (pe_dget (hu2 hr.units) (pv 0) (pv 2) (fun _ _ => rfl)) rfl)))
    (pss_one (ps_ret (pv 1))))), ?_⟩
    have sz : ∀ n : Nat, n < 6000 → n < sizeLine := fun n h => Nat.lt_trans h (by decide)
    refine fun e he => ?_
    have ne : d ≠ e := ne_of_none hd he
    have hd1 : (upd H e (.dK [])) d = some (.dK kvs) := by rw [upd_ne ne]; exact hd
    refine ⟨_, rfl, d, kvs, rfl, hd1, fun q hq => ?_⟩
    have nqe : e ≠ q := ne_of_none (o := .dK []) upd_same hq
    refine ⟨q, rfl, ⟨_, SqL.of upd_same⟩, ?_⟩
    refine for_list (K := K) (a := q) (xs := kvs.map fun kv => kV kv.1) (fun i σ H2 => ∃ v : Option V, σ = [some (.ref d), some (.ref e), v] ∧ Same H H2 ∧ H2 q = some (.lst (kvs.map fun kv => kV kv.1)) ∧ H2 e = some (.dK (kvs.take i)))
      ⟨none, rfl, (sm_new he).trans (sm_new hq), upd_same, by rw [upd_ne nqe, upd_same]; rfl⟩ (fun i σ H2 _ ⟨_, _, _, h, _⟩ => SqL.of h) ?_ ?_
    · rintro i x σ H2 hi ⟨v, rfl, sm, h2, h3⟩
      rw [List.getElem?_map] at hi
      obtain ⟨p, hp, rfl⟩ := Option.map_eq_some_iff.mp hi
      have hv := valV_nd hnd (List.mem_of_getElem? hp)
      have hlt : i < kvs.length := (List.getElem?_eq_some_iff.mp hp).1
      refine ⟨_, rfl, _, rfl, d, p.2, rfl, ?_, _, rfl, _, rfl, e, _, rfl, DPut.k (k := p.1) h3 ?_, ?_⟩
      · have g := DGet.k (k := p.1) (sm _ _ hd)
        rw [hv] at g
        exact g
      · rw [List.length_take]
        exact sz _ (by omega)
      · rw [putK_take hnd hp]
        exact ⟨_, rfl, sm_put sm he, by rw [upd_ne nqe.symm]; exact h2, upd_same⟩
    · rintro σ H2 ⟨v, rfl, sm, h2, h3⟩
      refine ⟨_, rfl, k H2 e sm he ?_⟩
      rw [List.length_map, List.take_length] at h3
      exact h3

theorem ok_law_sources (T : Txt K mg base) : FnOk P w K mg base CX0 2 (He.ga K "_law_sources") T.fd_law_sources ["script", "numbers", "many"] (spSources K) := by
  refine T.F_law_sources.ok sc_law_sources (fun vs H Q E h => ?_) (fun cdv A outer s H vs Q E hr h => ?_)
  · obtain ⟨a, sc, l, ns, many, rfl, ⟨hS, hl⟩, hn, nz, m0, m1, k⟩ := h
    rfl
  · obtain ⟨a, sc, l, ns, many, rfl, ⟨hS, hl⟩, hn, nz, m0, m1, k⟩ := h
    refine ⟨_, PSs.nox (pss_cons (ps_set (i := 3) sc_law_sources.nd rfl (Or.inl rfl) (pe_call (ok_law_row T) (hr.mono (by decide)) (by rfl) T.g_law_row T.F_law_row.kp T.b_law_row .nil pass0 (pa_cons (pe_call (ok_law_cell T) (hr.mono (by decide)) (by rfl) T.g_law_cell T.F_law_cell.kp T.b_law_cell .nil pass0 (pa_cons (pv 0) (pa_cons pe_int pa_nil))) (pa_cons pe_int (pa_cons (pe_op op_add (pv 2) pe_int) (pa_cons pe_int pa_nil))))))
    (pss_cons (ps_set (i := 4) sc_law_sources.nd rfl (Or.inl rfl) (pe_ix ix_list (pe_lst (pa_cons pe_int (pa_cons pe_int (pa_cons (pe_op op_add (pe_op op_pow pe_int pe_int) pe_int) pa_nil)))) (pe_op op_mod (pe_ix ix_list (pv 3) pe_int (fun _ _ => rfl)) pe_int) (fun _ _ => rfl)))
    (pss_cons (ps_set (i := 5) sc_law_sources.nd rfl (Or.inl rfl) (pe_lst pa_nil))
    (pss_cons (ps_for PassesOwn.never rfl (pi_list (pe_slice sl_list (pv 3) (po_some pe_int) po_none)) (pg_name (i := 6) sc_law_sources.nd rfl (Or.inl rfl))
      (pss_cons (ps_set (i := 7) sc_law_sources.nd rfl (Or.inl rfl) (pe_op op_mod (pv 6) pe_int))
      (pss_cons (ps_set (i := 8) sc_law_sources.nd rfl (Or.inl rfl) (pe_op op_mod (pe_op op_fdiv (pv 6) pe_int) pe_int))
      (pss_cons (ps_set (i := 9) sc_law_sources.nd rfl (Or.inl rfl) (pe_tup (pa_cons (pe_op op_mod (pv 8) pe_int) (pa_cons (pe_op op_fdiv (pv 8) pe_int) pa_nil))))
      (C8.pss_cut (ps_if (PW.pt (pw_and (pt_cmpR op_lt (pv 7) pe_int (nomark _)) (pw_and1 (pt_truth (pv 1) (by intro _; rfl)))))
        (pss_one (ps_set (i := 9) sc_law_sources.nd rfl (Or.inl rfl) (pe_ix ix_list (pv 1) (pe_op op_mod (pv 8) (pe_callB call_len_seq (by rfl) T.z_len (by decide +kernel) (pa_cons (pv 1) pa_nil))) (fun _ _ => rfl))))
        (pss_one (ps_if (pt_cmpR op_eq (pv 7) pe_int (nomark _))
          (pss_one (ps_set (i := 9) sc_law_sources.nd rfl (Or.inl rfl) (pv 8)))
          pss_nil)))
      (C8.pss_cut (ps_if (PW.pt (pw_and (pt_cmpR op_eq (pe_op op_mod (pv 8) pe_int) pe_int (nomark _)) (pw_and1 (pt_truth (pv 5) (by intro _; rfl)))))
        (pss_one (ps_set (i := 9) sc_law_sources.nd rfl (Or.inl rfl) (pe_ix ix_tup (pe_ix ix_list (pv 5) (pe_op op_mod (pe_op op_fdiv (pv 8) pe_int) (pe_callB call_len_seq (by rfl) T.z_len (by decide +kernel) (pa_cons (pv 5) pa_nil))) (fun _ _ => rfl)) pe_int (fun _ _ => rfl))))
        pss_nil)
      (pss_one (ps_expr (pe_bm PySem.F.plainAttrs_list PySem.F.slot_list_append PySem.F.type_list_append mt_append (pv 5) (pa_cons (pe_tup (pa_cons (pv 9) (pa_cons (pe_op op_mul (pe_op op_fdiv (pv 6) pe_int) (pv 4)) pa_nil))) pa_nil))))))))))
    (pss_one (ps_ret (pv 5))))))), ?_⟩
    have sz : ∀ n : Nat, n < 1000 → n < sizeLine := fun n h => Nat.lt_trans h (by decide)
    refine ⟨_, rfl, a, sc, 2, rfl, ⟨hS, hl⟩, by decide, fun r1 => ?_⟩
    refine ⟨_, rfl, _, _, rfl, rfl, r1, 2, many + 1, 8000, rfl, by omega, by omega, by decide, by decide, fun H1 lr rs s1 n1 e1 l1 b1 => ?_⟩
    obtain ⟨r0, _, h0⟩ := at_in (f := V.int) (xs := rs) (i := 0) (by omega) (by omega)
    refine ⟨_, _, rfl, rfl, ⟨by decide, by decide, by decide⟩, _, _, rfl, rfl, (by show 3 ≤ sizeLine; decide), fun c hc => ?_⟩
    have u1 := sm_new (o := .lst [.int 1, .int 1, .int (10 ^ Int.toNat 25 + 7)]) hc
    obtain ⟨scale, es, hsc⟩ := at_in (f := V.int) (xs := [1, 1, 10 ^ Int.toNat 25 + 7]) (i := r0 % 3) (Int.emod_nonneg _ (by decide)) (Int.emod_lt_of_pos _ (by decide))
    have sc0 : 0 ≤ scale := by
      have q : (0 : Int) ≤ 10 ^ Int.toNat 25 + 7 := by decide +kernel
      simp only [List.mem_cons, List.not_mem_nil, or_false] at es
      rcases es with h | h | h
      · omega
      · omega
      · rw [h]; exact q
    refine ⟨_, rfl, lr, _, _, _, rfl, rfl, SqL.of (u1 _ _ e1), h0, _, _, rfl, rfl, (by show (0 : Int) < 3; decide), c, _, _, _, rfl, rfl, SqL.of upd_same, hsc, ?_⟩
    have s2 := s1.trans u1
    have er := u1 _ _ e1
    revert s2 er
    generalize (upd H1 c (.lst [.int 1, .int 1, .int (10 ^ Int.toNat 25 + 7)])) = H2
    intro s2 er
    refine ⟨(by show 0 ≤ sizeLine; decide), fun p hp => ?_⟩
    have u2 := sm_new (o := .lst []) hp
    refine ⟨_, rfl, _, rfl, lr, _, rfl, SqL.of (u2 _ _ er), fun q hq => ?_⟩
    have hcut : ∀ x ∈ cutV (rs.map V.int) (some 1) none, ∃ z, x = V.int z ∧ 0 ≤ z ∧ z < 8000 := by
      intro x hx
      unfold cutV at hx
      obtain ⟨z, hz, e⟩ := List.mem_map.mp (List.mem_of_mem_drop (List.mem_of_mem_take hx))
      exact ⟨z, e.symm, b1 z hz⟩
    have lcut : ((cutV (rs.map V.int) (some 1) none).length : Int) = many := by
      unfold cutV
      have q1 : HT.sIx (rs.map V.int).length 0 (some 1) = min 1 (rs.map V.int).length := rfl
      have q2 : HT.sIx (rs.map V.int).length (rs.map V.int).length none = (rs.map V.int).length := rfl
      rw [q1, q2, List.length_take, List.length_drop, List.length_map]
      omega
    revert hcut lcut
    generalize cutV (rs.map V.int) (some 1) none = ds
    intro hcut lcut
    have npq : p ≠ q := ne_of_none (o := .lst []) upd_same hq
    have hp2 : H2 p = none := hp
    refine ⟨q, rfl, ⟨_, SqL.of upd_same⟩, ?_⟩
    refine for_list (K := K) (a := q) (xs := ds) (fun j σ H3 => ∃ (us : List V) (ss : Srcs) (v6 v7 v8 v9 : Option V), σ = [some (.ref a), some (.ref l), some (.int many), some (.ref lr), some (.int scale), some (.ref p), v6, v7, v8, v9] ∧ Same H2 H3 ∧ H3 q = some (.lst ds) ∧ H3 p = some (.lst us) ∧
        SrcVs H3 ss us ∧ (∀ q ∈ ss, 0 ≤ q.2) ∧ us.length = j)
      ⟨[], [], none, none, none, none, rfl, u2.trans (sm_new hq), upd_same, by rw [upd_ne npq, upd_same], .nil, fun _ h => (nomatch h), rfl⟩ (fun j σ H3 _ ⟨_, _, _, _, _, _, _, _, h, _⟩ => SqL.of h) ?_ ?_
    · rintro j x σ H3 hj ⟨us, ss, v6, v7, v8, v9, rfl, sm, hq3, hp3, hs, hpos, hx⟩
      obtain ⟨dg, rfl, g0, g1⟩ := hcut x (List.mem_of_getElem? hj)
      have hlt : j < ds.length := (List.getElem?_eq_some_iff.mp hj).1
      have hn3 := sm _ _ (s2 _ _ hn)
      refine ⟨_, rfl, _, _, rfl, rfl, (by show (0 : Int) < 5; decide), ?_⟩
      refine ⟨_, rfl, _, _, rfl, rfl, ⟨by decide, by decide⟩, _, _, rfl, rfl, (by show (0 : Int) < 200; decide), ?_⟩
      refine ⟨_, rfl, _, _, rfl, rfl, (by show (0 : Int) < 8; decide), _, rfl, _, _, rfl, rfl, ⟨by decide, by decide⟩, (by show 2 ≤ sizeLine; decide), fun t ht => ?_⟩
      have u4 := sm_new (o := .tup [.int (dg / 5 % 200 % 8), .int (dg / 5 % 200 / 8)]) ht
      have hn4 := u4 _ _ hn3
      have hp4 := u4 _ _ hp3
      have hs4 := hs.tl (TL.same u4)
      refine ⟨fun σ H4 => ∃ (c : Cell) (v : V), σ = [some (.ref a), some (.ref l), some (.int many), some (.ref lr), some (.int scale), some (.ref p), some (.int dg), some (.int (dg % 5)), some (.int (dg / 5 % 200)), some v] ∧ H4 = (upd H3 t (.tup [.int (dg / 5 % 200 % 8), .int (dg / 5 % 200 / 8)])) ∧ CV H4 c v ∧ c ≠ .non, ?_, ?_⟩
      · have far : CV (upd H3 t (.tup [.int (dg / 5 % 200 % 8), .int (dg / 5 % 200 / 8)])) (.far (dg / 5 % 200 % 8) (dg / 5 % 200 / 8)) (.ref t) := ⟨t, rfl, upd_same⟩
        have elif_ : ∀ {σ0 : L2.St}, True := trivial
        refine ⟨_, rfl, _, _, rfl, rfl, _, rfl, ite2 (fun _ => ?_) (fun _ => ?_)⟩
        · refine ⟨_, rfl, !(ns.map V.int).isEmpty, .inl ⟨_, SqL.of hn4, rfl⟩, ?_⟩
          cases hns : ns with
          | nil =>
            refine iteF ⟨_, rfl, rfl, _, rfl, ite2 (fun _ => ?_) (fun _ => ?_)⟩
            · exact ⟨_, rfl, .obj _, _, rfl, rfl, rfl, fun z => nomatch z⟩
            · exact ⟨_, _, rfl, rfl, far, fun z => nomatch z⟩
          | cons n0 ns0 =>
            rw [← hns]
            have c0 : (0 : Int) < (((ns.map V.int).length : Nat) : Int) := by rw [List.length_map, hns, List.length_cons]; omega
            obtain ⟨y, _, hy⟩ := at_in (f := V.int) (xs := ns) (i := dg / 5 % 200 % (((ns.map V.int).length : Nat) : Int)) (Int.emod_nonneg _ (by omega)) (by
              have := Int.emod_lt_of_pos (dg / 5 % 200) c0
              rw [List.length_map] at this ⊢
              exact this)
            have eb : (!(ns.map V.int).isEmpty) = true := by rw [hns]; rfl
            show (if (!(ns.map V.int).isEmpty) = true then _ else _)
            rw [if_pos eb]
            exact ⟨_, rfl, _, rfl, _, rfl, l, _, rfl, .inl (SqL.of hn4), _, _, rfl, rfl, c0, l, _, _, _, rfl, rfl, SqL.of hn4, hy, .obj y, _, rfl, rfl, rfl, fun z => nomatch z⟩
        · refine ⟨_, rfl, rfl, _, rfl, ite2 (fun _ => ?_) (fun _ => ?_)⟩
          · exact ⟨_, rfl, .obj _, _, rfl, rfl, rfl, fun z => nomatch z⟩
          · exact ⟨_, _, rfl, rfl, far, fun z => nomatch z⟩
      rintro σ H4 ⟨c0, v0, rfl, rfl, hv0, cn0⟩
      refine ⟨fun σ H5 => ∃ (c : Cell) (v : V), σ = [some (.ref a), some (.ref l), some (.int many), some (.ref lr), some (.int scale), some (.ref p), some (.int dg), some (.int (dg % 5)), some (.int (dg / 5 % 200)), some v] ∧ H5 = (upd H3 t (.tup [.int (dg / 5 % 200 % 8), .int (dg / 5 % 200 / 8)])) ∧ CV H5 c v ∧ c ≠ .non, ?_, ?_⟩
      · refine ⟨_, rfl, _, _, rfl, rfl, (by show (0 : Int) < 4; decide), rfl, _, rfl, ite2 (fun _ => ?_) (fun _ => ?_)⟩
        · refine ⟨_, rfl, !us.isEmpty, .inl ⟨_, SqL.of hp4, rfl⟩, ?_⟩
          cases us with
          | nil => exact iteF ⟨_, _, rfl, rfl, hv0, cn0⟩
          | cons u0 us0 =>
            have c0' : (0 : Int) < (((u0 :: us0).length : Nat) : Int) := by rw [List.length_cons]; omega
            obtain ⟨y, hym, hy⟩ := at_inV (xs := u0 :: us0) (i := dg / 5 % 200 / 4 % (((u0 :: us0).length : Nat) : Int)) (Int.emod_nonneg _ (by omega)) (Int.emod_lt_of_pos _ c0')
            obtain ⟨jj, hjj⟩ := List.mem_iff_getElem?.mp hym
            obtain ⟨sq, _, hsq⟩ := pr_r hs4 hjj
            obtain ⟨g1, t', sv, rfl, g3, g4⟩ := hsq
            refine iteT ⟨_, rfl, _, rfl, _, _, rfl, rfl, ⟨by decide, by decide⟩, _, rfl, p, _, rfl, .inl (SqL.of hp4), _, _, rfl, rfl, c0', p, _, _, _, rfl, rfl, SqL.of hp4, hy, t', _, _, _, rfl, rfl, SqT.of g3, at_of (j := 0) rfl rfl, ?_⟩
            exact ⟨sq.1, sv, rfl, rfl, g4, g1⟩
        · exact ⟨_, _, rfl, rfl, hv0, cn0⟩
      rintro σ H5 ⟨c1, v1, rfl, rfl, hv1, cn1⟩
      have d0 : 0 ≤ dg / 1000 := Int.ediv_nonneg g0 (by decide)
      have d1 : dg / 1000 < 8 := by omega
      refine ⟨_, rfl, .inl ⟨rfl, _, SqL.of hp4⟩, _, rfl, _, rfl, _, _, rfl, rfl, ⟨by decide, by decide⟩, _, rfl, _, _, rfl, rfl, .inl ⟨by omega, by omega⟩, (by show 2 ≤ sizeLine; decide), fun t2 ht2 => ?_⟩
      have u5 := sm_new (o := .tup [v1, .int (dg / 1000 * scale)]) ht2
      have hp5 := u5 _ _ hp4
      refine ⟨p, _, _, rfl, rfl, hp5, sz _ (by omega), ?_⟩
      have tl := TL.put (o := .lst (us ++ [.ref t2])) hp5 fun xs z => nomatch z
      have nqp : (upd (upd (upd H3 t (.tup [.int (dg / 5 % 200 % 8), .int (dg / 5 % 200 / 8)])) t2 (.tup [v1, .int (dg / 1000 * scale)])) p (.lst (us ++ [.ref t2]))) q = some (.lst ds) := by
        rw [upd_ne npq.symm]
        exact u5 _ _ (u4 _ _ hq3)
      refine ⟨us ++ [.ref t2], ss ++ [(c1, dg / 1000 * scale)], _, _, _, _, rfl, sm_put (sm.trans (u4.trans u5)) hp2, nqp, upd_same, pr_app ((hs4.tl (TL.same u5)).tl tl) (.cons ⟨cn1, t2, v1, rfl, tl _ _ upd_same, (hv1.tl (TL.same u5)).tl tl⟩ .nil), fun z hz => ?_, by simp [hx]⟩
      rcases List.mem_append.mp hz with h | h
      · exact hpos z h
      · rw [List.mem_singleton.mp h]
        exact Int.mul_nonneg d0 sc0
    · rintro σ H3 ⟨us, ss, v6, v7, v8, v9, rfl, sm, hq3, hp3, hs, hpos, hx⟩
      exact ⟨_, rfl, k H3 p us ss (s2.trans sm) (s2.free hp2) hp3 hs hpos (by omega)⟩

theorem ok_greatest (T : Txt K mg base) : FnOk P w K mg base CX0 3 (He.ga K "greatest") T.fd_greatest ["fields", "sources"] (spGreatest K) := by
  refine Fh.okC ("greatest", none) rfl T.F_greatest sc_greatest (fun vs H Q E h => ?_) (fun cdv A outer s H vs Q E hcd hr h => ?_)
  · obtain ⟨d, l, fs, us, ss, rfl, F, hl, hs, hlen, tab, k⟩ := h
    rfl
  · obtain ⟨d, l, fs, us, ss, rfl, F, hl, hs, hlen, tab, k⟩ := h
    refine ⟨_, PSs.nox (pss_cons (ps_set (i := 2) sc_greatest.nd rfl (Or.inl rfl) pe_dnewK)
    (pss_cons (ps_set (i := 3) sc_greatest.nd rfl (Or.inl rfl) pe_dnewT)
    (pss_cons (ps_for PassesOwn.never rfl (pi_list (Sx.pe_sortSnd (pa_cons (pv 1) pa_nil) (by rfl) T.z_sorted (hr.mono (by decide)) T.tb hcd)) (pg_tup (by rfl) (pgs_cons (pg_name (i := 4) sc_greatest.nd rfl (Or.inl rfl)) (pgs_cons (pg_name (i := 5) sc_greatest.nd rfl (Or.inl rfl)) pgs_nil)))
      (pss_cons (ps_set (i := 6) sc_greatest.nd rfl (Or.inl rfl) (pe_lst (pa_cons (pv 4) pa_nil)))
      (pss_one (ps_while PassesOwn.never (pt_truth (pv 6) (by intro _; rfl))
        (pss_cons (ps_set (i := 7) sc_greatest.nd rfl (Or.inl rfl) (pe_bm0 PySem.F.plainAttrs_list PySem.F.slot_list_pop PySem.F.type_list_pop mt_pop (pv 6)))
        (pss_one (ps_if (pt_val (pe_callB call_isi (by rfl) T.z_isinstance (by decide +kernel) (pa_cons (pv 7) (pa_cons (pe_bltn (v := .ty "tuple") (by rfl) T.z_tuple (by decide +kernel) rfl) pa_nil))))
          (pss_one (ps_expr (DTu.pe_dsetdT (hu2 hr.units) (pv 3) (pv 7) (pv 5) ⟨rfl, rfl, rfl, rfl⟩)))
          (pss_one (ps_if (PW.pt (pw_and (pt_cmp (pc_dinN (hu2 hr.units) (pv 7) (pv 0))) (pw_and1 (pt_cmp (pc_dnotinN (hu2 hr.units) (pv 7) (pv 2))))))
            (pss_cons (ps_dput (hu2 hr.units) (pv 2) (pv 7) (pv 5) rfl)
            (pss_one (ps_expr (pe_bm PySem.F.plainAttrs_list PySem.F.slot_list_extend PySem.F.type_list_extend (ExT.mt_extendT (K := K) rfl) (pv 6) (pa_cons (pe_dget (hu2 hr.units) (pv 0) (pv 7) (fun _ _ => rfl)) pa_nil)))))
            pss_nil)))))))))
    (pss_one (ps_ret (pe_tup (pa_cons (pv 2) (pa_cons (pv 3) pa_nil)))))))), ?_⟩
    have F8 := F.len
    have sz : ∀ n : Nat, n < 50000 → n < sizeLine := fun n h => Nat.lt_trans h (by decide)
    refine fun d1 hd1 => ?_
    refine fun d2 hd2 => ?_
    have u1 := sm_new (o := .dK []) hd1
    have u2 := u1.trans (sm_new (o := .dT []) hd2)
    have hd2' := u1.free hd2
    have n12 : d1 ≠ d2 := ne_of_none (o := .dK []) upd_same hd2
    refine ⟨_, rfl, l, us, sndV H, rfl, SqL.of (u2 _ _ hl), fun y hy => ?_, tab.ext fun b o h => u2 b o h, fun H2 ys p sm0 pm so hp => ?_⟩
    · obtain ⟨j, hj⟩ := List.mem_iff_getElem?.mp hy
      obtain ⟨q, _, fq⟩ := pr_r hs hj
      have e := sndV_of fq
      obtain ⟨_, t, sv, e2, h2, _⟩ := fq
      refine ⟨t, _, e2, u2 _ _ h2, ?_⟩
      rw [e]
      rfl
    have sm1 : Sm (tG K) (upd (upd H d1 (.dK [])) d2 (.dT [])) H2 := sm0
    clear sm0
    obtain ⟨S, pS, hS⟩ := pr_perm pm hs
    have oS := pr_pw hS so
    have lS : S.length ≤ 100 := by rw [pS.length_eq, pr_len hs]; exact hlen
    have sm2 := (Sm.of (T := tG K) u2).trans sm1
    have hp0 := sm2.free hp
    have np1 : d1 ≠ p := ne_of_none (sm1 _ _ (by rw [upd_ne n12, upd_same])) hp
    have np2 : d2 ≠ p := ne_of_none (sm1 _ _ upd_same) hp
    have G0 : GI (tG K) H (upd H2 p (.lst ys)) fs S 0 d1 d2 p ys [] [] :=
      ⟨sm2.trans (Sm.new hp), by rw [upd_ne np1]; exact sm1 _ (.dK []) (by rw [upd_ne n12, upd_same]), by rw [upd_ne np2]; exact sm1 _ (.dT []) upd_same, upd_same, TabP.nil fun k v h => (by obtain ⟨_, h, _⟩ := h; cases h), TabP.nil fun k v h => (by obtain ⟨_, h, _⟩ := h; cases h)⟩
    revert G0
    generalize upd H2 p (.lst ys) = H3
    intro G0
    have lY : ys.length = S.length := (pr_len hS).symm
    refine ⟨p, rfl, ⟨_, SqL.of G0.hp⟩, ?_⟩
    refine for_list (K := K) (a := p) (xs := ys) (fun i σ H4 => ∃ (os : List (Int × Int)) (rs : List ((Int × Int) × Int)) (v4 v5 v6 v7 : Option V), σ = [some (.ref d), some (.ref l), some (.ref d1), some (.ref d2), v4, v5, v6, v7] ∧ GI (tG K) H H4 fs S i d1 d2 p ys os rs)
      ⟨[], [], none, none, none, none, rfl, G0⟩ (fun i σ H4 _ ⟨_, _, _, _, _, _, _, G⟩ => SqL.of G.hp) ?_ ?_
    · rintro i y σ H4 hi ⟨os0, rs0, v4, v5, v6, v7, rfl, G⟩
      obtain ⟨⟨c, v⟩, hSi, fy⟩ := pr_r hS hi
      obtain ⟨cn, t, sv, rfl, hT, hcv⟩ := fy
      have cn : c ≠ .non := cn
      have hT : H t = some (.tup [sv, .int v]) := hT
      have hcv : CV H c sv := hcv
      have hv := pw_take oS hSi
      refine ⟨t, _, rfl, SqT.of (G.sm _ _ hT), rfl, _, _, rfl, _, _, rfl, rfl, ?_⟩
      refine ⟨_, rfl, (by show 1 ≤ sizeLine; decide), fun wl hwl => ?_⟩
      have nw1 : d1 ≠ wl := ne_of_none G.h1 hwl
      have nw2 : d2 ≠ wl := ne_of_none G.h2 hwl
      have nwp : p ≠ wl := ne_of_none G.hp hwl
      have w0 := G.sm.free hwl
      have K0 : ∀ n ∈ keysL os0, IsKey fs n := fun n hn => by
        obtain ⟨w, hw⟩ := mem_key hn
        obtain ⟨_, _, _, h⟩ := ((G.t1.mem _ _).mp hw).1
        exact h
      obtain ⟨W, hW⟩ : ∃ W : Nat → L2.St → Hp → Prop, W = fun m σ H5 => ∃ (os : List (Int × Int)) (rs : List ((Int × Int) × Int)) (cs : List Cell) (xs : List V) (v7 : Option V), σ = [some (.ref d), some (.ref l), some (.ref d1), some (.ref d2), some sv, some (.int v), some (.ref wl), v7] ∧
        Sm (tG K) H H5 ∧ H5 d1 = some (.dK (enc kO os)) ∧ H5 d2 = some (.dT (enc kR rs)) ∧ H5 p = some (.lst ys) ∧ H5 wl = some (.lst xs) ∧ CVs H5 cs xs ∧ Dfs fs c v os0 rs0 os rs cs ∧ m = 9 * (fs.length - os.length) + cs.length := ⟨_, rfl⟩
      refine ⟨W, ⟨_, by rw [hW]; exact ⟨os0, rs0, [c], [sv], v7, rfl, G.sm.trans (Sm.new hwl), by rw [upd_ne nw1]; exact G.h1, by rw [upd_ne nw2]; exact G.h2, by rw [upd_ne nwp]; exact G.hp, upd_same, .cons ((hcv.tl (fun b xs h => G.sm _ _ h)).tl (TL.new hwl)) .nil, Dfs.start cn G.t1.nd G.t2.nd, rfl⟩⟩, ?_⟩
      rintro m σ H5 hw
      rw [hW] at hw
      obtain ⟨os, rs, cs, xs, v7, rfl, sm5, g1, g2, gp, gw, cv, D, rfl⟩ := hw
      refine ⟨_, rfl, _, .inl ⟨_, SqL.of gw, rfl⟩, ?_⟩
      rcases List.eq_nil_or_concat xs with rfl | ⟨xs', y, rfl⟩
      · cases cv
        refine iteF ?_
        obtain ⟨T1, T2⟩ := D.end_ G.t1 G.t2 hSi hv
        exact ⟨os, rs, _, _, _, _, rfl, sm5, g1, g2, gp, T1, T2⟩
      rw [List.concat_eq_append] at gw cv ⊢
      obtain ⟨cs', x, rfl, cv', hx⟩ := pr_last cv
      have lo := D.len K0
      have lr := D.rlen G.t2 hSi F.w
      have lc := D.wl
      have lxs : xs'.length = cs'.length := (pr_len cv').symm
      rw [List.length_append] at lc
      have lc : cs'.length + 1 + 8 * os0.length ≤ 8 * os.length + 1 := lc
      rw [show (!(xs' ++ [y]).isEmpty) = true by simp]
      refine iteT ?_
      refine ⟨fun σ' H' => ∃ m', m' < 9 * (fs.length - os.length) + (cs' ++ [x]).length ∧ W m' σ' H', fun σ' H' h => h, ?_⟩
      refine ⟨_, rfl, .inl ⟨rfl, _, SqL.of gw⟩, wl, _, y, rfl, rfl, gw, (by simp), ?_⟩
      rw [List.dropLast_concat]
      have sm6 : Sm (tG K) H (upd H5 wl (.lst xs')) := sm5.put w0 gw
      have g1' : (upd H5 wl (.lst xs')) d1 = some (.dK (enc kO os)) := by rw [upd_ne nw1]; exact g1
      have g2' : (upd H5 wl (.lst xs')) d2 = some (.dT (enc kR rs)) := by rw [upd_ne nw2]; exact g2
      have gp' : (upd H5 wl (.lst xs')) p = some (.lst ys) := by rw [upd_ne nwp]; exact gp
      have gw' : (upd H5 wl (.lst xs')) wl = some (.lst xs') := upd_same
      have tl6 : TL H5 (upd H5 wl (.lst xs')) := TL.put gw fun xs q => nomatch q
      replace cv' := CVs.tl tl6 cv'
      replace hx := hx.tl tl6
      revert sm6 g1' g2' gp' gw' cv' hx
      generalize upd H5 wl (.lst xs') = H6
      intro sm6 g1' g2' gp' gw' cv' hx
      have llen : (cs' ++ [x]).length = cs'.length + 1 := by rw [List.length_append]; rfl
      -- what is no news
      have pass : Found fs os rs x → ∃ m', m' < 9 * (fs.length - os.length) + (cs' ++ [x]).length ∧ W m' [some (.ref d), some (.ref l), some (.ref d1), some (.ref d2), some sv, some (.int v), some (.ref wl), some y] H6 := fun h => by
        refine ⟨9 * (fs.length - os.length) + cs'.length, by omega, ?_⟩
        rw [hW]
        exact ⟨os, rs, cs', xs', _, rfl, sm6, g1', g2', gp', gw', cv', D.pass h, rfl⟩
      obtain ⟨kvs0, hk0, hp0⟩ := F.fa
      have hd6 : H6 d = some (.dK kvs0) := sm6 _ _ hk0
      cases x with
      | non =>
        cases (show y = .non from hx)
        refine ⟨_, rfl, _, _, _, _, false, rfl, .ty _, .base .non, kit_ty (by decide +kernel), _, rfl, iteF ?_⟩
        refine ⟨_, rfl, _, rfl, .inr ⟨d, kvs0, rfl, rfl, .inl hd6, _, rfl, iteF ?_⟩⟩
        exact pass trivial
      | far a b =>
        obtain ⟨t2, rfl, ht2⟩ := hx
        refine ⟨_, rfl, _, _, _, _, true, rfl, .ty _, .base (.tup ht2), kit_ty (by decide +kernel), _, rfl, iteT ?_⟩
        have ev : valV (enc kR rs) (kR (a, b)) = (getL rs (a, b)).map V.int := enc_val kR_inj (a, b) rs
        refine ⟨_, rfl, d2, rfl, .inr ⟨_, .inl g2'⟩, _, rfl, _, rfl, enc kR rs, kR (a, b), t2, g2', rfl, ht2, sz _ (by unfold enc; rw [List.length_map]; omega), fun v' hv' => ?_, fun hn => ?_⟩
        · refine pass ?_
          rw [ev] at hv'
          obtain ⟨z, hz, _⟩ := Option.map_eq_some_iff.mp hv'
          exact key_mem (getL_some hz)
        · rw [ev] at hn
          have hno : (a, b) ∉ keysL rs := fun z => by
            obtain ⟨w, hw⟩ := mem_key z
            exact getL_none (Option.map_eq_none_iff.mp hn) w hw
          refine ⟨9 * (fs.length - os.length) + cs'.length, by omega, ?_⟩
          rw [hW, enc_put kR_inj]
          have n2w : wl ≠ d2 := nw2.symm
          exact ⟨os, _, cs', xs', _, rfl, sm6.put hd2' g2', by rw [upd_ne n12]; exact g1', upd_same, by rw [upd_ne np2.symm]; exact gp', by rw [upd_ne n2w]; exact gw', CVs.tl (TL.put g2' fun xs q => nomatch q) cv', D.far hno, rfl⟩
      | obj n =>
        cases (show y = .int n from hx)
        refine ⟨_, rfl, _, _, _, _, false, rfl, .ty _, .base (.int _), kit_ty (by decide +kernel), _, rfl, iteF ?_⟩
        refine ⟨_, rfl, _, rfl, .inl ⟨d, _, rfl, DGet.k (k := Sum.inl n) hd6, _, rfl, ?_⟩⟩
        rcases FA.val hp0 n with ⟨e1, e2⟩ | ⟨cs2, t2, us2, e1, e2, e3, e4, e5⟩
        · rw [e2]
          exact iteF (pass (.inr (cellsOf_none e1)))
        · rw [e3]
          have ev : valV (enc kO os) (Sum.inl n) = (getL os n).map V.int := enc_val kO_inj n os
          refine iteT ⟨_, rfl, _, rfl, .inl ⟨d1, _, rfl, DGet.k (k := Sum.inl n) g1', _, rfl, ?_⟩⟩
          rw [ev]
          cases hg : getL os n with
          | some z => exact iteF (pass (.inl (key_mem (getL_some hg))))
          | none =>
            have hno : n ∉ keysL os := fun z => by
              obtain ⟨w, hw⟩ := mem_key z
              exact getL_none hg w hw
            have l8 : cs2.length ≤ 8 := F.w _ e2
            have D' := D.obj F.nd hno e2 l8
            have lo' := D'.len K0
            have llo : (putL os n v).length = os.length + 1 := by
              have := D'.wl
              have h2 : (putL os n v).length ≤ os.length + 1 := putL_len _ _ _
              have h3 : os.length < (putL os n v).length := by
                have q := nd_len (l := n :: keysL os) (m := keysL (putL os n v)) (List.nodup_cons.mpr ⟨hno, D.on⟩) fun m hm => by
                  rcases List.mem_cons.mp hm with rfl | hm
                  · exact key_mem (v := v) ((putL_mem D.on).mpr (.inl ⟨rfl, rfl⟩))
                  · obtain ⟨w, hw⟩ := mem_key hm
                    exact key_mem ((putL_mem D.on).mpr (.inr ⟨fun z => hno (z ▸ hm), hw⟩))
                rw [List.length_cons, List.length_map, List.length_map] at q
                omega
              omega
            have n1w : wl ≠ d1 := nw1.symm
            have n1p : p ≠ d1 := np1.symm
            have d1d : d ≠ d1 := ne_of_none hk0 hd1
            refine iteT ⟨_, rfl, _, rfl, _, rfl, d1, _, rfl, DPut.k (k := Sum.inl n) g1' (sz _ (by unfold enc; rw [List.length_map]; omega)), ?_⟩
            have e4' : H6 t2 = some (.tup us2) := sm6 _ _ e4
            have t2d : t2 ≠ d1 := ne_of e4' g1' fun q => nomatch q
            have g := DGet.k (k := Sum.inl n) (show (upd H6 d1 (.dK (putK (enc kO os) (Sum.inl n) (.int v)))) d = some (.dK kvs0) by rw [upd_ne d1d]; exact hd6)
            rw [e3] at g
            have lus : us2.length = cs2.length := (pr_len e5).symm
            refine ⟨_, rfl, .inl ⟨rfl, _, SqL.of (xs := xs') (by rw [upd_ne n1w]; exact gw')⟩, _, rfl, _, rfl, d, _, rfl, g, wl, t2, xs', us2, rfl, rfl, by rw [upd_ne n1w]; exact gw', SqT.of (by rw [upd_ne t2d]; exact e4'), by have := sz 49999 (by omega); omega, ?_⟩
            refine ⟨9 * (fs.length - (putL os n v).length) + (cs' ++ cs2).length, by rw [List.length_append, llo]; omega, ?_⟩
            rw [hW]
            have tlA : TL H6 (upd H6 d1 (.dK (putK (enc kO os) (Sum.inl n) (.int v)))) := TL.put g1' fun xs q => nomatch q
            have gw7 : (upd H6 d1 (.dK (putK (enc kO os) (Sum.inl n) (.int v)))) wl = some (.lst xs') := by rw [upd_ne n1w]; exact gw'
            have tlB := TL.put (o := .lst (xs' ++ us2)) gw7 fun xs q => nomatch q
            refine ⟨putL os n v, rs, cs' ++ cs2, xs' ++ us2, _, rfl, (sm6.put hd1 g1').put w0 gw7, ?_, by rw [upd_ne nw2, upd_ne n12.symm]; exact g2', by rw [upd_ne nwp, upd_ne n1p]; exact gp', upd_same, ?_, D', rfl⟩
            · rw [upd_ne nw1, upd_same]
              exact congrArg (fun z => some (HO.dK z)) (enc_put kO_inj os n v)
            · exact pr_app (CVs.tl tlB (CVs.tl tlA cv')) (CVs.tl tlB (CVs.tl tlA (CVs.tl (fun b xs h => sm6 _ _ h) e5)))
    · rintro σ H4 ⟨os, rs, v4, v5, v6, v7, rfl, G⟩
      refine ⟨_, rfl, _, rfl, (by show 2 ≤ sizeLine; decide), fun q hq => ?_⟩
      have hS2 : S.take ys.length = S := List.take_of_length_le (by omega)
      have t1 := G.t1
      have t2 := G.t2
      rw [hS2] at t1 t2
      exact k _ q d1 d2 os rs (G.sm.trans (Sm.new hq)) ⟨upd_same, by rw [upd_ne (ne_of_none G.h1 hq)]; exact G.h1, by rw [upd_ne (ne_of_none G.h2 hq)]; exact G.h2, G.sm.free hq, hd1, hd2', n12, t1.congr fun k v => offO_perm pS k v, t2.congr fun k v => offR_perm pS k v⟩

theorem ok_reach (T : Txt K mg base) : FnOk P w K mg base CX0 4 (He.ga K "reach") T.fd_reach ["fields", "start"] (spReach K) := by
  refine T.F_reach.ok sc_reach (fun vs H Q E h => ?_) (fun cdv A outer s H vs Q E hr h => ?_)
  · obtain ⟨d, sv, fs, s0, rfl, F, hs, hn, tab, k⟩ := h
    rfl
  · obtain ⟨d, sv, fs, s0, rfl, F, hs, hn, tab, k⟩ := h
    refine ⟨_, PSs.nox (pss_cons (ps_asg (pe_call (ok_greatest T) (hr.mono (by decide)) (by rfl) T.g_greatest T.F_greatest.kp T.b_greatest .nil pass0 (pa_cons (pv 0) (pa_cons (pe_lst (pa_cons (pe_tup (pa_cons (pv 1) (pa_cons pe_int pa_nil))) pa_nil)) pa_nil))) (pg_tup (by rfl) (pgs_cons (pg_name (i := 2) sc_reach.nd rfl (Or.inl rfl)) (pgs_cons (pg_name (i := 3) sc_reach.nd rfl (Or.inl rfl)) pgs_nil))))
    (pss_one (ps_ret (pe_tup (pa_cons (pe_callB (SrtDi.call_sortedDK rfl) (by rfl) T.z_sorted (by decide +kernel) (pa_cons (pv 2) pa_nil)) (pa_cons (pe_callB (SrtDi.call_sortedDT rfl) (by rfl) T.z_sorted (by decide +kernel) (pa_cons (pv 3) pa_nil)) pa_nil)))))), ?_⟩
    refine ⟨_, rfl, _, rfl, (by show 2 ≤ sizeLine; decide), fun t ht => ?_⟩
    refine ⟨(by show 1 ≤ sizeLine; decide), fun l hl => ?_⟩
    have u1 := sm_new (o := .tup [sv, .int 0]) ht
    have u2 := u1.trans (sm_new (o := .lst [.ref t]) hl)
    have et : (upd (upd H t (.tup [sv, .int 0])) l (.lst [.ref t])) t = some (.tup [sv, .int 0]) := sm_new hl _ _ upd_same
    refine ⟨d, l, fs, [.ref t], [(s0, 0)], rfl, ⟨F.fa.sm u2, F.nd, F.w, F.len⟩, upd_same, .cons ⟨hn, t, sv, rfl, et, hs.tl (TL.same u2)⟩ .nil, (by show 1 ≤ 100; decide), tab.ext fun b o h => u2 b o h, fun H1 p d1 d2 os rs sm A => ?_⟩
    refine ⟨p, _, rfl, SqT.of A.pt, rfl, _, _, rfl, _, _, rfl, rfl, ?_⟩
    have ek : (enc kO os).map (·.1) = (os.map (·.1)).map Sum.inl := by
      unfold enc
      rw [List.map_map, List.map_map]
      rfl
    refine ⟨_, rfl, d1, enc kO os, os.map (·.1), rfl, A.h1, ek, fun ns p1 pm1 so1 hp1 => ?_⟩
    have v1 := sm_new (o := .lst (ns.map V.int)) hp1
    refine ⟨_, rfl, d2, enc kR rs, rfl, v1 _ _ A.h2, fun q hq => ?_, fun bs ys p2 ik so2 st2 hp2 => ?_⟩
    · unfold enc at hq
      obtain ⟨r, _, rfl⟩ := List.mem_map.mp hq
      exact ⟨r.1.1, r.1.2, rfl⟩
    refine ⟨(by show 2 ≤ sizeLine; decide), fun q hq => ?_⟩
    have v2 := sm_new (o := .lst ys) hp2
    have v3 := sm_new (o := .tup [.ref p1, .ref p2]) hq
    have smA : Sm (tG K) H _ := (Sm.of u2).trans sm
    have rv := rvs_keys ik
    have np1 := smA.free hp1
    have np2 := (smA.trans (.of v1)).free hp2
    have npq := ((smA.trans (.of v1)).trans (.of v2)).free hq
    have nd1 : (os.map (·.1)).Nodup := A.t1.nd
    have nd2 : (rs.map (·.1)).Nodup := A.t2.nd
    have eys : (ys.map (pairAt (upd H1 p1 (.lst (ns.map V.int))))).Perm (rs.map (·.1)) := by
      have := st2.perm.map (pairAt (upd H1 p1 (.lst (ns.map V.int))))
      rw [rv.pair] at this
      exact this
    refine k _ q p1 p2 ns (ys.map (pairAt (upd H1 p1 (.lst (ns.map V.int))))) ys (((smA.trans (.of v1)).trans (.of v2)).trans (.of v3)) ⟨upd_same, v3 _ _ (v2 _ _ upd_same), v3 _ _ upd_same, ?_, npq, np1, np2, ?_, rise_of so1 (perm_nd pm1 nd1), riseP_of ?_ (perm_nd eys nd2), fun n => ?_, fun r => ?_⟩
    · exact RVs.tl ((TL.new hp2).trans (TL.new hq)) (RVs.of fun v hv => rv.at_ v (st2.perm.mem_iff.mp hv))
    · exact ne_of_none (o := .lst (ns.map V.int)) upd_same hp2
    · exact List.Pairwise.map _ (fun _ _ h => h) so2
    · rw [pm1.mem_iff]
      exact keys_oneO A.t1 n
    · rw [eys.mem_iff]
      exact keys_oneR A.t2 r

theorem ok_law_value (T : Txt K mg base) : FnOk P w K mg base CX0 1 (He.ga K "_law_value") T.fd_law_value ["answer", "item"] spValue := by
  refine T.F_law_value.ok sc_law_value (fun vs H Q E h => ?_) (fun cdv A outer s H vs Q E hr h => ?_)
  · obtain ⟨p, d1, d2, os, rs, v, c, rfl, hp, h1, h2, hv, cn, k⟩ := h
    rfl
  · obtain ⟨p, d1, d2, os, rs, v, c, rfl, hp, h1, h2, hv, cn, k⟩ := h
    refine ⟨_, PSs.nox (pss_cons (ps_if (pt_val (pe_callB call_isi (by rfl) T.z_isinstance (by decide +kernel) (pa_cons (pv 1) (pa_cons (pe_bltn (v := .ty "tuple") (by rfl) T.z_tuple (by decide +kernel) rfl) pa_nil))))
      (pss_one (ps_ret (pe_dget2 (hu2 hr.units) (pe_ix ix_tup (pv 0) pe_int (fun _ _ => rfl)) (pv 1) (pe_un un_neg pe_int) ⟨rfl, rfl, rfl, rfl⟩)))
      pss_nil)
    (pss_one (ps_ret (pe_dget2 (hu2 hr.units) (pe_ix ix_tup (pv 0) pe_int (fun _ _ => rfl)) (pv 1) (pe_un un_neg pe_int) ⟨rfl, rfl, rfl, rfl⟩)))), ?_⟩
    cases c with
    | non => exact absurd rfl cn
    | obj n =>
      cases (show v = .int n from hv)
      refine ⟨_, rfl, _, _, _, _, false, rfl, .ty _, .base (.int _), kit_ty (by decide +kernel), _, rfl, iteF ?_⟩
      have g := DGet.k (k := kO n) h1
      rw [enc_val kO_inj] at g
      refine ⟨_, rfl, p, _, _, _, rfl, rfl, SqT.of hp, at_of (j := 0) rfl rfl, d1, rfl, .inl ⟨_, .inl h1⟩, _, rfl, _, rfl, _, g, ?_⟩
      rw [valOf_obj] at k
      cases e : getL os n with
      | none => rw [e] at k; exact k
      | some w => rw [e] at k; exact k
    | far a b =>
      obtain ⟨t, rfl, ht⟩ := hv
      refine ⟨_, rfl, _, _, _, _, true, rfl, .ty _, .base (.tup ht), kit_ty (by decide +kernel), _, rfl, iteT ?_⟩
      have g := DGet.t (k := kR (a, b)) h2 ht
      rw [enc_val kR_inj] at g
      refine ⟨_, rfl, p, _, _, _, rfl, rfl, SqT.of hp, at_of (j := 1) rfl rfl, d2, rfl, .inr ⟨_, .inl h2⟩, _, rfl, _, rfl, _, g, ?_⟩
      rw [valOf_far] at k
      cases e : getL rs (a, b) with
      | none => rw [e] at k; exact k
      | some w => rw [e] at k; exact k

theorem ok_law_is_high (T : Txt K mg base) : FnOk P w K mg base CX0 2 (He.ga K "_law_is_high") T.fd_law_is_high ["fields", "sources", "answer"] spPut := by
  refine T.F_law_is_high.ok sc_law_is_high (fun vs H Q E h => ?_) (fun cdv A outer s H vs Q E hr h => ?_)
  · obtain ⟨d, l, p, fs, us, ss, d1, d2, os, rs, rfl, U, k⟩ := h
    rfl
  · obtain ⟨d, l, p, fs, us, ss, d1, d2, os, rs, rfl, U, k⟩ := h
    refine ⟨_, PSs.nox (pss_cons (ps_for PassesOwn.never rfl (pi_list (pv 1)) (pg_tup (by rfl) (pgs_cons (pg_name (i := 3) sc_law_is_high.nd rfl (Or.inl rfl)) (pgs_cons (pg_name (i := 4) sc_law_is_high.nd rfl (Or.inl rfl)) pgs_nil)))
      (pss_one (ps_if (PW.pt (pw_and (PW.pt (pw_or (pt_val (pe_callB call_isi (by rfl) T.z_isinstance (by decide +kernel) (pa_cons (pv 3) (pa_cons (pe_bltn (v := .ty "tuple") (by rfl) T.z_tuple (by decide +kernel) rfl) pa_nil)))) (pw_or1 (pt_cmp (pc_din (hu2 hr.units) (pv 3) (pv 0)))))) (pw_and1 (pt_cmpR op_lt (pe_call (ok_law_value T) (hr.mono (by decide)) (by rfl) T.g_law_value T.F_law_value.kp T.b_law_value .nil pass0 (pa_cons (pv 2) (pa_cons (pv 3) pa_nil))) (pv 4) (nomark _)))))
        (pss_one (ps_ret pe_bl))
        pss_nil)))
    (pss_cons (ps_for PassesOwn.never rfl (pi_list (DKe.pe_listKeys rfl (pv 0) (by rfl) T.z_list (by rfl))) (pg_name (i := 5) sc_law_is_high.nd rfl (Or.inl rfl))
      (pss_cons (ps_set (i := 4) sc_law_is_high.nd rfl (Or.inl rfl) (pe_call (ok_law_value T) (hr.mono (by decide)) (by rfl) T.g_law_value T.F_law_value.kp T.b_law_value .nil pass0 (pa_cons (pv 2) (pa_cons (pv 5) pa_nil))))
      (pss_one (ps_for PassesOwn.never rfl (pi_tup (pe_dget (hu2 hr.units) (pv 0) (pv 5) (fun _ _ => rfl))) (pg_name (i := 6) sc_law_is_high.nd rfl (Or.inl rfl))
        (pss_one (ps_if (PW.pt (pw_or (pt_val (pe_callB call_isi (by rfl) T.z_isinstance (by decide +kernel) (pa_cons (pv 6) (pa_cons (pe_bltn (v := .ty "tuple") (by rfl) T.z_tuple (by decide +kernel) rfl) pa_nil)))) (pw_or1 (pt_cmp (pc_dinN (hu2 hr.units) (pv 6) (pv 0))))))
          (pss_one (ps_if (pt_cmpR op_lt (pe_call (ok_law_value T) (hr.mono (by decide)) (by rfl) T.g_law_value T.F_law_value.kp T.b_law_value .nil pass0 (pa_cons (pv 2) (pa_cons (pv 6) pa_nil))) (pv 4) (nomark _))
            (pss_one (ps_ret pe_bl))
            pss_nil))
          pss_nil))))))
    (pss_one (ps_ret pe_bl)))), ?_⟩
    obtain ⟨kvs, hk, hp0⟩ := U.f.fa
    refine ⟨_, rfl, l, rfl, ⟨_, SqL.of U.l⟩, ?_⟩
    refine for_list (K := K) (a := l) (xs := us) (fun i σ H2 => ∃ v3 v4 : Option V, σ = [some (.ref d), some (.ref l), some (.ref p), v3, v4, none, none] ∧ H2 = H)
      ⟨none, none, rfl, rfl⟩ (fun i σ H2 _ ⟨_, _, _, e⟩ => by rw [e]; exact SqL.of U.l) ?_ ?_
    · rintro i x σ H2 hi ⟨v3, v4, rfl, rfl⟩
      obtain ⟨⟨c, val⟩, hc, hq⟩ := pr_r U.s hi
      obtain ⟨cn, t, sv, rfl, ht, hsv⟩ := hq
      have hm := List.mem_of_getElem? hc
      refine ⟨t, _, rfl, SqT.of ht, rfl, _, _, rfl, _, _, rfl, rfl, ?_⟩
      have last : (∀ n, c = .obj n → IsKey fs n) → ¬ valOf os rs c < val := fun hk' h => by
        have := high_start U.t1 U.t2 U.pos hm cn hk'
        omega
      cases c with
      | non => exact absurd rfl cn
      | far a b =>
        obtain ⟨t', rfl, ht'⟩ := hsv
        refine ⟨_, rfl, _, _, _, _, true, rfl, .ty _, .base (.tup ht'), kit_ty (by decide +kernel), _, rfl, iteT (iteT ?_)⟩
        refine ⟨_, rfl, _, rfl, p, d1, d2, os, rs, _, .far a b, rfl, U.pt, U.h1, U.h2, ⟨t', rfl, ht'⟩, cn, _, rfl, _, _, rfl, rfl, _, rfl, ite2 (fun h => absurd (of_decide_eq_true h) (last fun n e => nomatch e)) (fun _ => ?_)⟩
        exact ⟨_, _, rfl, rfl⟩
      | obj n =>
        cases (show sv = .int n from hsv)
        refine ⟨_, rfl, _, _, _, _, false, rfl, .ty _, .base (.int _), kit_ty (by decide +kernel), _, rfl, iteF ?_⟩
        refine ⟨_, rfl, _, rfl, d, _, rfl, DGet.k (k := Sum.inl n) hk, _, rfl, ?_⟩
        rcases FA.val hp0 n with ⟨e1, e2⟩ | ⟨cs, t', ws, e1, e2, e3, e4, e5⟩
        · rw [e2]
          exact iteF ⟨_, _, rfl, rfl⟩
        · rw [e3]
          refine iteT ⟨_, rfl, _, rfl, p, d1, d2, os, rs, _, .obj n, rfl, U.pt, U.h1, U.h2, rfl, cn, _, rfl, _, _, rfl, rfl, _, rfl, ite2 (fun h => absurd (of_decide_eq_true h) (last fun m e => by cases e; exact ⟨_, e2⟩)) (fun _ => ?_)⟩
          exact ⟨_, _, rfl, rfl⟩
    rintro σ H2 ⟨v3, v4, rfl, rfl⟩
    refine ⟨_, rfl, d, kvs, rfl, hk, fun q hq => ⟨q, rfl, ⟨_, SqL.of upd_same⟩, ?_⟩⟩
    have U' := U.sm (sm_new (o := .lst (kvs.map fun kv => kV kv.1)) hq)
    have u := sm_new (o := .lst (kvs.map fun kv => kV kv.1)) hq
    refine for_list (K := K) (a := q) (xs := kvs.map fun kv => kV kv.1) (fun i σ H3 => ∃ v4 v5 v6 : Option V, σ = [some (.ref d), some (.ref l), some (.ref p), v3, v4, v5, v6] ∧ H3 = upd H2 q (.lst (kvs.map fun kv => kV kv.1)))
      ⟨_, _, _, rfl, rfl⟩ (fun i σ H3 _ ⟨_, _, _, _, e⟩ => by rw [e]; exact SqL.of upd_same) ?_ ?_
    · rintro i x σ H3 hi ⟨v4, v5, v6, rfl, rfl⟩
      rw [List.getElem?_map] at hi
      obtain ⟨kv, hkv, rfl⟩ := Option.map_eq_some_iff.mp hi
      obtain ⟨⟨n, cs⟩, hn, he⟩ := pr_r hp0 hkv
      obtain ⟨ek, t, ws, et, ht, hcs⟩ := he
      have hnm := List.mem_of_getElem? hn
      rw [ek]
      have gd : DGet (upd H2 q (.lst (kvs.map fun kv => kV kv.1))) d (.int n) (some (.ref t)) := by
        have g := DGet.k (k := Sum.inl n) (u _ _ hk)
        have hv := valV_nd (ev_nd hp0 U.f.nd) (List.mem_of_getElem? hkv)
        rw [ek, et] at hv
        rw [hv] at g
        exact g
      refine ⟨_, rfl, _, rfl, p, d1, d2, os, rs, .int n, .obj n, rfl, U'.pt, U'.h1, U'.h2, rfl, (fun z => nomatch z), ?_⟩
      refine ⟨_, rfl, _, rfl, d, _, rfl, gd, t, rfl, ⟨_, SqT.of (u _ _ ht)⟩, ?_⟩
      refine for_tup (K := K) (a := t) (xs := ws) (fun j σ H4 => ∃ v6 : Option V, σ = [some (.ref d), some (.ref l), some (.ref p), v3, some (.int (valOf os rs (.obj n))), some (.int n), v6] ∧ H4 = upd H2 q (.lst (kvs.map fun kv => kV kv.1)))
        ⟨_, rfl, rfl⟩ (fun j σ H4 _ ⟨_, _, e⟩ => by rw [e]; exact SqT.of (u _ _ ht)) ?_ ?_
      · rintro j y σ H4 hj ⟨v6, rfl, rfl⟩
        obtain ⟨c, hc, hcy⟩ := pr_r hcs hj
        have hcy := hcy.tl (TL.same u)
        have hcm := List.mem_of_getElem? hc
        have last : c ≠ .non → (∀ m, c = .obj m → IsKey fs m) → ¬ valOf os rs c < valOf os rs (.obj n) := fun cn hk' h => by
          have := high_field U.t1 U.t2 U.pos hnm hcm cn hk'
          omega
        cases c with
        | non =>
          cases (show y = .non from hcy)
          refine ⟨_, rfl, _, _, _, _, false, rfl, .ty _, .base .non, kit_ty (by decide +kernel), _, rfl, iteF ?_⟩
          exact ⟨_, rfl, _, rfl, .inr ⟨d, _, rfl, rfl, .inl (u _ _ hk), _, rfl, iteF ⟨_, rfl, rfl⟩⟩⟩
        | far a b =>
          obtain ⟨t', rfl, ht'⟩ := hcy
          refine ⟨_, rfl, _, _, _, _, true, rfl, .ty _, .base (.tup ht'), kit_ty (by decide +kernel), _, rfl, iteT ?_⟩
          refine ⟨_, rfl, _, rfl, p, d1, d2, os, rs, _, .far a b, rfl, U'.pt, U'.h1, U'.h2, ⟨t', rfl, ht'⟩, (fun z => nomatch z), _, rfl, _, _, rfl, rfl, _, rfl, ite2 (fun h => absurd (of_decide_eq_true h) (last (fun z => nomatch z) fun n e => nomatch e)) (fun _ => ?_)⟩
          exact ⟨_, rfl, rfl⟩
        | obj m =>
          cases (show y = .int m from hcy)
          refine ⟨_, rfl, _, _, _, _, false, rfl, .ty _, .base (.int _), kit_ty (by decide +kernel), _, rfl, iteF ?_⟩
          refine ⟨_, rfl, _, rfl, .inl ⟨d, _, rfl, DGet.k (k := Sum.inl m) (u _ _ hk), _, rfl, ?_⟩⟩
          rcases FA.val hp0 m with ⟨e1, e2⟩ | ⟨cs', t', ws', e1, e2, e3, e4, e5⟩
          · rw [e2]
            exact iteF ⟨_, rfl, rfl⟩
          · rw [e3]
            refine iteT ⟨_, rfl, _, rfl, p, d1, d2, os, rs, _, .obj m, rfl, U'.pt, U'.h1, U'.h2, rfl, (fun z => nomatch z), _, rfl, _, _, rfl, rfl, _, rfl, ite2 (fun h => absurd (of_decide_eq_true h) (last (fun z => nomatch z) fun m e => by cases e; exact ⟨_, e2⟩)) (fun _ => ?_)⟩
            exact ⟨_, rfl, rfl⟩
      · rintro σ H4 ⟨v6, rfl, rfl⟩
        exact ⟨_, _, _, rfl, rfl⟩
    · rintro σ H3 ⟨v4, v5, v6, rfl, rfl⟩
      exact k _ u

theorem ok_law_is_explained (T : Txt K mg base) : FnOk P w K mg base CX0 2 (He.ga K "_law_is_explained") T.fd_law_is_explained ["fields", "sources", "answer"] spPut := by
  refine T.F_law_is_explained.ok sc_law_is_explained (fun vs H Q E h => ?_) (fun cdv A outer s H vs Q E hr h => ?_)
  · obtain ⟨d, l, p, fs, us, ss, d1, d2, os, rs, rfl, U, k⟩ := h
    rfl
  · obtain ⟨d, l, p, fs, us, ss, d1, d2, os, rs, rfl, U, k⟩ := h
    refine ⟨_, PSs.nox (pss_cons (ps_set (i := 3) sc_law_is_explained.nd rfl (Or.inl rfl) (pe_lst pa_nil))
    (pss_cons (ps_set (i := 4) sc_law_is_explained.nd rfl (Or.inl rfl) (Mix.pe_mnewK (P := P) (w := w) rfl rfl))
    (pss_cons (ps_for PassesOwn.never rfl (pi_list (pv 1)) (pg_tup (by rfl) (pgs_cons (pg_name (i := 5) sc_law_is_explained.nd rfl (Or.inl rfl)) (pgs_cons (pg_name (i := 6) sc_law_is_explained.nd rfl (Or.inl rfl)) pgs_nil)))
      (pss_one (ps_if (PW.pt (pw_and (pt_cmp (Mix.pc_mnotinK (P := P) (w := w) rfl rfl (hu2 hr.units) (pv 5) (pv 4))) (pw_and1 (pt_cmpR op_eq (pe_call (ok_law_value T) (hr.mono (by decide)) (by rfl) T.g_law_value T.F_law_value.kp T.b_law_value .nil pass0 (pa_cons (pv 2) (pa_cons (pv 5) pa_nil))) (pv 6) (nomark _)))))
        (pss_cons (Mix.ps_mputK (P := P) (w := w) rfl rfl (hu2 hr.units) (pv 4) (pv 5) pe_bl rfl)
        (pss_one (ps_expr (pe_bm PySem.F.plainAttrs_list PySem.F.slot_list_append PySem.F.type_list_append mt_append (pv 3) (pa_cons (pv 5) pa_nil)))))
        pss_nil)))
    (C8.pss_cut (ps_for PassesOwn.never rfl (pi_range1 (by rfl) T.z_range (pa_cons (pe_op op_add (pe_op op_add (pe_op op_mul pe_int (pe_callB call_lenD (by rfl) T.z_len (by decide +kernel) (pa_cons (pv 0) pa_nil))) (pe_callB call_len_seq (by rfl) T.z_len (by decide +kernel) (pa_cons (pv 1) pa_nil))) pe_int) pa_nil)) (pg_name (i := 7) sc_law_is_explained.nd rfl (Or.inl rfl))
      (pss_cons (ps_if (pt_cmpR op_ge (pv 7) (pe_callB call_len_seq (by rfl) T.z_len (by decide +kernel) (pa_cons (pv 3) pa_nil)) (nomark _))
        (pss_one ps_break)
        pss_nil)
      (pss_cons (ps_set (i := 8) sc_law_is_explained.nd rfl (Or.inl rfl) (pe_ix ix_list (pv 3) (pv 7) (fun _ _ => rfl)))
      (pss_one (ps_if (PW.pt (pw_and (pt_not (pt_val (pe_callB call_isi (by rfl) T.z_isinstance (by decide +kernel) (pa_cons (pv 8) (pa_cons (pe_bltn (v := .ty "tuple") (by rfl) T.z_tuple (by decide +kernel) rfl) pa_nil))))) (pw_and1 (pt_cmp (pc_din (hu2 hr.units) (pv 8) (pv 0))))))
        (pss_cons (ps_set (i := 6) sc_law_is_explained.nd rfl (Or.inl rfl) (pe_call (ok_law_value T) (hr.mono (by decide)) (by rfl) T.g_law_value T.F_law_value.kp T.b_law_value .nil pass0 (pa_cons (pv 2) (pa_cons (pv 8) pa_nil))))
        (pss_one (ps_for PassesOwn.never rfl (pi_tup (pe_dget (hu2 hr.units) (pv 0) (pv 8) (fun _ _ => rfl))) (pg_name (i := 9) sc_law_is_explained.nd rfl (Or.inl rfl))
          (pss_one (ps_if (PW.pt (pw_and (pt_cmpR op_notN (pv 9) pe_non (nomark _)) (pw_and (pt_cmp (Mix.pc_mnotinK (P := P) (w := w) rfl rfl (hu2 hr.units) (pv 9) (pv 4))) (pw_and1 (pt_cmpR op_eq (pe_call (ok_law_value T) (hr.mono (by decide)) (by rfl) T.g_law_value T.F_law_value.kp T.b_law_value .nil pass0 (pa_cons (pv 2) (pa_cons (pv 9) pa_nil))) (pv 6) (nomark _))))))
            (pss_cons (Mix.ps_mputK (P := P) (w := w) rfl rfl (hu2 hr.units) (pv 4) (pv 9) pe_bl rfl)
            (pss_one (ps_expr (pe_bm PySem.F.plainAttrs_list PySem.F.slot_list_append PySem.F.type_list_append mt_append (pv 3) (pa_cons (pv 9) pa_nil)))))
            pss_nil)))))
        pss_nil)))))
    (pss_one (ps_ret (pe_cmpR op_eq (pe_callB call_len_seq (by rfl) T.z_len (by decide +kernel) (pa_cons (pv 3) pa_nil)) (pe_op op_add (pe_callB DKe.call_lenB (by rfl) T.z_len (by decide +kernel) (pa_cons (pe_ix ix_tup (pv 2) pe_int (fun _ _ => rfl)) pa_nil)) (pe_callB DKe.call_lenB (by rfl) T.z_len (by decide +kernel) (pa_cons (pe_ix ix_tup (pv 2) pe_int (fun _ _ => rfl)) pa_nil))) (nomark _)))))))), ?_⟩
    have sz : ∀ n : Nat, n < 60000 → n < sizeLine := fun n h => Nat.lt_trans h (by decide)
    obtain ⟨kvs0, hk0, hp0⟩ := U.f.fa
    have lk : kvs0.length = fs.length := (pr_len hp0).symm
    have F5 := U.f.len
    have lss : ss.length = us.length := pr_len U.s
    have l100 := U.len
    refine ⟨(by show 0 ≤ sizeLine; decide), fun lw hlw => ?_⟩
    refine fun as has => ?_
    have u1 := sm_new (o := .lst []) hlw
    have u2 := sm_new (o := Mix.mixO P w as []) has
    have nla : lw ≠ as := ne_of_none (o := .lst []) upd_same has
    have R0 : RI P w H (upd (upd H lw (.lst [])) as (Mix.mixO P w as [])) lw as [] [] [] :=
      ⟨u1.trans u2, by rw [upd_ne nla, upd_same], .nil, upd_same, Mix.MOk.nil, rfl, fun c hc => (nomatch hc), hlw, u1.free has, nla⟩
    revert R0
    generalize (upd (upd H lw (.lst [])) as (Mix.mixO P w as [])) = H1
    intro R0
    refine ⟨_, rfl, l, rfl, ⟨_, SqL.of (R0.sm _ _ U.l)⟩, ?_⟩
    refine for_list (K := K) (a := l) (xs := us) (fun i σ H2 => ∃ (ws : List Cell) (vs : List V) (kvs : List (Mix.MKA × V)) (v5 v6 : Option V), σ = [some (.ref d), some (.ref l), some (.ref p), some (.ref lw), some (.ref as), v5, v6, none, none, none] ∧ RI P w H H2 lw as ws vs kvs ∧ WE fs ss (valOf os rs) ws 0 ∧
        ∀ q ∈ ss.take i, valOf os rs q.1 = q.2 → q.1 ∈ ws)
      ⟨[], [], [], none, none, rfl, R0, WE.nil, fun q hq => (nomatch hq)⟩ (fun i σ H2 _ ⟨_, _, _, _, _, _, R, _⟩ => SqL.of (R.sm _ _ U.l)) ?_ ?_
    · rintro i x σ H2 hi ⟨ws, vs, kvs, v5, v6, rfl, R, W, st⟩
      obtain ⟨⟨c, val⟩, hc, hq⟩ := pr_r U.s hi
      have hm := List.mem_of_getElem? hc
      have vp : 0 ≤ val := U.pos _ hm
      obtain ⟨cn, t, sv, rfl, ht, hsv⟩ := hq.tl (TL.same R.sm)
      have U2 := U.sm R.sm
      refine ⟨t, _, rfl, SqT.of ht, rfl, _, _, rfl, _, _, rfl, rfl, ?_⟩
      obtain ⟨ka, hka, eka⟩ := mkey_of hsv cn
      refine ⟨_, rfl, _, rfl, as, kvs, ka, rfl, R.dic, R.mo, hka, _, rfl, ?_⟩
      by_cases hin : c ∈ ws
      · rw [(R.has eka).mpr hin]
        refine iteF ⟨ws, vs, kvs, _, _, rfl, R, W, fun q hq e => ?_⟩
        rcases (mem_take1 hc).mp hq with h | h
        · exact st q h e
        · rw [h]
          exact hin
      · have hno : Mix.hasK kvs ka = false := by
          cases e : Mix.hasK kvs ka with
          | false => rfl
          | true => exact absurd ((R.has eka).mp e) hin
        rw [hno]
        refine iteT ⟨_, rfl, _, rfl, p, d1, d2, os, rs, sv, c, rfl, U2.pt, U2.h1, U2.h2, hsv, cn, _, rfl, rfl, _, rfl, ite2 (fun h => ?_) (fun h => ?_)⟩
        · have h : valOf os rs c = val := by have := of_decide_eq_true h; injection this
          have lw8 := W.len U.f.w
          have lv : vs.length = ws.length := (pr_len R.cv).symm
          have lk2 := R.len
          obtain ⟨h1, R'⟩ := R.add hsv cn hka eka
          refine ⟨_, rfl, _, rfl, as, kvs, ka, rfl, R.dic, R.mo, hka, (fun z => by rw [Mix.hasK_iff.mpr z] at hno; cases hno), sz _ (by omega), ?_⟩
          refine ⟨_, rfl, .inl ⟨rfl, _, SqL.of h1⟩, _, rfl, lw, _, _, rfl, rfl, h1, sz _ (by omega), ?_⟩
          refine ⟨_, _, _, _, _, rfl, R', W.snoc (List.mem_map.mpr ⟨_, hm, rfl⟩) hin (by rw [h]; exact vp), fun q hq e => ?_⟩
          rcases (mem_take1 hc).mp hq with h | h
          · exact List.mem_append_left _ (st q h e)
          · rw [h]
            exact List.mem_append_right _ List.mem_cons_self
        · have h : ¬ valOf os rs c = val := fun z => h (decide_eq_true (congrArg V.int z))
          refine ⟨ws, vs, kvs, _, _, rfl, R, W, fun q hq e => ?_⟩
          rcases (mem_take1 hc).mp hq with h' | h'
          · exact st q h' e
          · rw [h'] at e
            exact absurd e h
    rintro σ H2 ⟨ws, vs, kvs, v5, v6, rfl, R, W, st⟩
    rw [← lss, List.take_length] at st
    refine ⟨fun σ H3 => ∃ (ws : List Cell) (vs : List V) (kvs : List (Mix.MKA × V)) (i : Nat) (v5 v6 v7 v8 v9 : Option V), σ = [some (.ref d), some (.ref l), some (.ref p), some (.ref lw), some (.ref as), v5, v6, v7, v8, v9] ∧ RI P w H H3 lw as ws vs kvs ∧ WE fs ss (valOf os rs) ws i ∧ ws.length ≤ i ∧ ∀ q ∈ ss, valOf os rs q.1 = q.2 → q.1 ∈ ws, ?_, ?_⟩
    · refine ⟨_, rfl, d, kvs0, rfl, R.sm _ _ hk0, _, _, rfl, rfl, .inl ⟨by decide, by decide⟩, _, rfl, l, _, rfl, .inl (SqL.of (R.sm _ _ U.l)), _, _, rfl, rfl, _, _, rfl, rfl, _, rfl, by omega, by omega, ?_⟩
      refine for_range (lo := 0) (n := (9 * (kvs0.length : Int) + (us.length : Int) + 1).toNat) (fun i σ H3 => ∃ (ws : List Cell) (vs : List V) (kvs : List (Mix.MKA × V)) (v5 v6 v7 v8 v9 : Option V), σ = [some (.ref d), some (.ref l), some (.ref p), some (.ref lw), some (.ref as), v5, v6, v7, v8, v9] ∧ RI P w H H3 lw as ws vs kvs ∧ WE fs ss (valOf os rs) ws i ∧ ∀ q ∈ ss, valOf os rs q.1 = q.2 → q.1 ∈ ws)
        ⟨ws, vs, kvs, _, _, _, _, _, rfl, R, W, st⟩ ?_ ?_
      · clear st W R
        rintro i σ H3 hi ⟨ws, vs, kvs, v5, v6, v7, v8, v9, rfl, R, W, st⟩
        have lv : vs.length = ws.length := (pr_len R.cv).symm
        refine ⟨_, rfl, _, rfl, lw, _, rfl, .inl (SqL.of R.lst), _, _, rfl, rfl, _, rfl, ite2 (fun hc => ?_) (fun hc => ?_)⟩
        · have hc := of_decide_eq_true hc
          exact ⟨ws, vs, kvs, i, _, _, _, _, _, rfl, R, W, by omega, st⟩
        have hlt : i < ws.length := by
          rcases Nat.lt_or_ge i ws.length with h | h
          · exact h
          · exact absurd (decide_eq_true (show ((vs.length : Int) ≤ 0 + (i : Int)) by omega)) hc
        obtain ⟨c, hc1⟩ : ∃ c, ws[i]? = some c := ⟨_, List.getElem?_eq_getElem hlt⟩
        obtain ⟨v, hv, hcv⟩ := pr_l R.cv hc1
        refine ⟨_, rfl, _, rfl, lw, _, _, _, rfl, rfl, SqL.of R.lst, at_of (j := i) (by omega) hv, ?_⟩
        cases c with
        | non => exact absurd rfl (R.nn _ (List.mem_of_getElem? hc1))
        | far a b =>
          obtain ⟨t, rfl, ht⟩ := hcv
          refine ⟨_, rfl, _, _, _, _, true, rfl, .ty _, .base (.tup ht), kit_ty (by decide +kernel), _, rfl, iteF ?_⟩
          exact ⟨ws, vs, kvs, _, _, _, _, _, rfl, R, W.pass hc1 fun m e => (nomatch e), st⟩
        | obj n =>
          cases (show v = .int n from hcv)
          refine ⟨_, rfl, _, _, _, _, false, rfl, .ty _, .base (.int _), kit_ty (by decide +kernel), _, rfl, iteT ?_⟩
          have hd := R.sm _ _ hk0
          refine ⟨_, rfl, _, rfl, d, _, rfl, DGet.k (k := Sum.inl n) hd, _, rfl, ?_⟩
          rcases FA.val hp0 n with ⟨e1, e2⟩ | ⟨cs, t, xs, e1, e2, e3, e4, e5⟩
          · rw [e2]
            exact iteF ⟨ws, vs, kvs, _, _, _, _, _, rfl, R, W.pass hc1 fun m e => by cases e; exact cellsOf_none e1, st⟩
          · rw [e3]
            have U3 := U.sm R.sm
            refine iteT ⟨_, rfl, _, rfl, p, d1, d2, os, rs, .int n, .obj n, rfl, U3.pt, U3.h1, U3.h2, rfl, (fun z => nomatch z), ?_⟩
            have g := DGet.k (k := Sum.inl n) hd
            rw [e3] at g
            have ht := R.sm _ _ e4
            refine ⟨_, rfl, _, rfl, d, _, rfl, g, t, rfl, ⟨_, SqT.of ht⟩, ?_⟩
            refine for_tup (K := K) (a := t) (xs := xs) (fun j σ H4 => ∃ (ws : List Cell) (vs : List V) (kvs : List (Mix.MKA × V)) (v9 : Option V), σ = [some (.ref d), some (.ref l), some (.ref p), some (.ref lw), some (.ref as), v5, some (.int (valOf os rs (.obj n))), some (.int (0 + (i : Int))), some (.int n), v9] ∧ RI P w H H4 lw as ws vs kvs ∧ TE fs ss (valOf os rs) ws i n cs j ∧ ∀ q ∈ ss, valOf os rs q.1 = q.2 → q.1 ∈ ws)
              ⟨ws, vs, kvs, _, rfl, R, ⟨W, hc1, e2, fun j _ h => absurd h (Nat.not_lt_zero _)⟩, st⟩ (fun j σ H4 _ ⟨_, _, _, _, _, R, _⟩ => SqT.of (R.sm _ _ e4)) ?_ ?_
            · clear st W U3 ht g hd hcv hv hc1 hlt hc lv R
              rintro j x σ H4 hj ⟨ws, vs, kvs, v9, rfl, R, E, st⟩
              obtain ⟨c, hc, hcx⟩ := pr_r e5 hj
              have hcx := hcx.tl (TL.same R.sm)
              refine ⟨_, rfl, rfl, _, rfl, ?_⟩
              by_cases cn : c = .non
              · subst cn
                cases (show x = .non from hcx)
                exact iteF ⟨ws, vs, kvs, _, rfl, R, E.skip hc (.inl rfl), st⟩
              · have xn : (!decide (x = V.non)) = true := by
                  cases c with
                  | non => exact absurd rfl cn
                  | obj m => cases (show x = .int m from hcx); rfl
                  | far a b => obtain ⟨q, e, _⟩ := hcx; subst e; rfl
                rw [xn]
                obtain ⟨kb, hkb, ekb⟩ := mkey_of hcx cn
                refine iteT ⟨_, rfl, _, rfl, as, kvs, kb, rfl, R.dic, R.mo, hkb, _, rfl, ?_⟩
                by_cases hin : c ∈ ws
                · rw [(R.has ekb).mpr hin]
                  exact iteF ⟨ws, vs, kvs, _, rfl, R, E.skip hc (.inr (.inl hin)), st⟩
                · have hno : Mix.hasK kvs kb = false := by
                    cases e : Mix.hasK kvs kb with
                    | false => rfl
                    | true => exact absurd ((R.has ekb).mp e) hin
                  rw [hno]
                  have U4 := U.sm R.sm
                  refine iteT ⟨_, rfl, _, rfl, p, d1, d2, os, rs, x, c, rfl, U4.pt, U4.h1, U4.h2, hcx, cn, _, rfl, rfl, _, rfl, ite2 (fun h => ?_) (fun h => ?_)⟩
                  · have h : valOf os rs c = valOf os rs (.obj n) := by have := of_decide_eq_true h; injection this
                    have lw8 := E.walk.len U.f.w
                    have lv : vs.length = ws.length := (pr_len R.cv).symm
                    have lk2 := R.len
                    obtain ⟨h1, R'⟩ := R.add hcx cn hkb ekb
                    refine ⟨_, rfl, _, rfl, as, kvs, kb, rfl, R.dic, R.mo, hkb, (fun z => by rw [Mix.hasK_iff.mpr z] at hno; cases hno), sz _ (by omega), ?_⟩
                    refine ⟨_, rfl, .inl ⟨rfl, _, SqL.of h1⟩, _, rfl, lw, _, _, rfl, rfl, h1, sz _ (by omega), ?_⟩
                    exact ⟨_, _, _, _, rfl, R', E.add hc cn hin h, fun q hq e => List.mem_append_left _ (st q hq e)⟩
                  · have h : ¬ valOf os rs c = valOf os rs (.obj n) := fun z => h (decide_eq_true (congrArg V.int z))
                    exact ⟨ws, vs, kvs, _, rfl, R, E.skip hc (.inr (.inr h)), st⟩
            · rintro σ H4 ⟨ws, vs, kvs, v9, rfl, R, E, st⟩
              exact ⟨ws, vs, kvs, _, _, _, _, _, rfl, R, E.end_ U.f.nd (by rw [pr_len e5]; exact Nat.le_refl _), st⟩
      · clear st W R
        rintro σ H3 ⟨ws, vs, kvs, v5, v6, v7, v8, v9, rfl, R, W, st⟩
        have := W.len U.f.w
        exact ⟨ws, vs, kvs, _, _, _, _, _, _, rfl, R, W, by omega, st⟩
    clear st W R
    rintro σ H3 ⟨ws, vs, kvs, i0, v5, v6, v7, v8, v9, rfl, R, W, hend, st⟩
    have U3 := U.sm R.sm
    have eq := explained U.t1 U.t2 U.pos (fun q hq => by
      obtain ⟨y, _, h, _⟩ := pr_mem U.s hq
      exact h) W hend st
    have lv : vs.length = ws.length := (pr_len R.cv).symm
    refine ⟨_, rfl, lw, _, rfl, .inl (SqL.of R.lst), _, rfl, p, _, _, _, rfl, rfl, SqT.of U3.pt, at_of (j := 0) rfl rfl, .inl ⟨d1, _, rfl, U3.h1, _, rfl, p, _, _, _, rfl, rfl, SqT.of U3.pt, at_of (j := 1) rfl rfl, .inr ⟨d2, _, rfl, U3.h2, _, _, rfl, rfl, rfl, ?_⟩⟩⟩
    have e1 : V.int ((vs.length : Nat) : Int) = V.int ((((enc kO os).length : Nat) : Int) + (((enc kR rs).length : Nat) : Int)) := by
      unfold enc
      rw [List.length_map, List.length_map]
      congr 1
      omega
    rw [decide_eq_true e1]
    exact k _ R.sm

theorem ok_law_is_answer (T : Txt K mg base) : FnOk P w K mg base CX0 3 (He.ga K "_law_is_answer") T.fd_law_is_answer ["fields", "sources", "answer"] spPut := by
  refine T.F_law_is_answer.ok sc_law_is_answer (fun vs H Q E h => ?_) (fun cdv A outer s H vs Q E hr h => ?_)
  · obtain ⟨d, l, p, fs, us, ss, d1, d2, os, rs, rfl, U, k⟩ := h
    rfl
  · obtain ⟨d, l, p, fs, us, ss, d1, d2, os, rs, rfl, U, k⟩ := h
    refine ⟨_, PSs.nox (pss_cons (ps_if (PW.pt (pw_or (pt_not (pt_val (pe_callB call_isi (by rfl) T.z_isinstance (by decide +kernel) (pa_cons (pv 2) (pa_cons (pe_bltn (v := .ty "tuple") (by rfl) T.z_tuple (by decide +kernel) rfl) pa_nil))))) (pw_or1 (pt_cmpR op_ne (pe_callB call_len_seq (by rfl) T.z_len (by decide +kernel) (pa_cons (pv 2) pa_nil)) pe_int (nomark _)))))
      (pss_one (ps_ret pe_bl))
      pss_nil)
    (pss_cons (ps_if (PW.pt (pw_or (pt_not (pt_val (pe_callB call_isi (by rfl) T.z_isinstance (by decide +kernel) (pa_cons (pe_ix ix_tup (pv 2) pe_int (fun _ _ => rfl)) (pa_cons (pe_bltn (v := .ty "dict") (by rfl) T.z_dict (by decide +kernel) rfl) pa_nil))))) (pw_or1 (pt_not (pt_val (pe_callB call_isi (by rfl) T.z_isinstance (by decide +kernel) (pa_cons (pe_ix ix_tup (pv 2) pe_int (fun _ _ => rfl)) (pa_cons (pe_bltn (v := .ty "dict") (by rfl) T.z_dict (by decide +kernel) rfl) pa_nil))))))))
      (pss_one (ps_ret pe_bl))
      pss_nil)
    (pss_cons (ps_for PassesOwn.never rfl (pi_list (DKe.pe_listKeysB rfl (pe_ix ix_tup (pv 2) pe_int (fun _ _ => rfl)) (by rfl) T.z_list (by rfl))) (pg_name (i := 3) sc_law_is_answer.nd rfl (Or.inl rfl))
      (pss_one (ps_if (PW.pt (pw_or (pt_cmp (pc_dnotin (hu2 hr.units) (pv 3) (pv 0))) (pw_or1 (pt_not (pt_val (pe_call (ok_law_is_integer T) (hr.mono (by decide)) (by rfl) T.g_law_is_integer T.F_law_is_integer.kp T.b_law_is_integer .nil pass0 (pa_cons (pe_dget (hu2 hr.units) (pe_ix ix_tup (pv 2) pe_int (fun _ _ => rfl)) (pv 3) (fun _ _ => rfl)) pa_nil)))))))
        (pss_one (ps_ret pe_bl))
        pss_nil)))
    (pss_cons (ps_for PassesOwn.never rfl (pi_list (DKe.pe_listKeysB rfl (pe_ix ix_tup (pv 2) pe_int (fun _ _ => rfl)) (by rfl) T.z_list (by rfl))) (pg_name (i := 4) sc_law_is_answer.nd rfl (Or.inl rfl))
      (pss_one (ps_if (PW.pt (pw_or (pt_not (pt_val (pe_callB call_isi (by rfl) T.z_isinstance (by decide +kernel) (pa_cons (pv 4) (pa_cons (pe_bltn (v := .ty "tuple") (by rfl) T.z_tuple (by decide +kernel) rfl) pa_nil))))) (pw_or1 (pt_not (pt_val (pe_call (ok_law_is_integer T) (hr.mono (by decide)) (by rfl) T.g_law_is_integer T.F_law_is_integer.kp T.b_law_is_integer .nil pass0 (pa_cons (pe_dget (hu2 hr.units) (pe_ix ix_tup (pv 2) pe_int (fun _ _ => rfl)) (pv 4) (fun _ _ => rfl)) pa_nil)))))))
        (pss_one (ps_ret pe_bl))
        pss_nil)))
    (pss_one (ps_ret (pe_and (pe_call (ok_law_is_high T) (hr.mono (by decide)) (by rfl) T.g_law_is_high T.F_law_is_high.kp T.b_law_is_high .nil pass0 (pa_cons (pv 0) (pa_cons (pv 1) (pa_cons (pv 2) pa_nil)))) (pe_one (pe_call (ok_law_is_explained T) (hr.mono (by decide)) (by rfl) T.g_law_is_explained T.F_law_is_explained.kp T.b_law_is_explained .nil pass0 (pa_cons (pv 0) (pa_cons (pv 1) (pa_cons (pv 2) pa_nil)))))))))))), ?_⟩
    obtain ⟨kvs0, hk0, hp0⟩ := U.f.fa
    refine ⟨_, rfl, _, _, _, _, true, rfl, .ty _, .base (.tup U.pt), kit_ty (by decide +kernel), _, rfl, iteF ?_⟩
    refine ⟨_, rfl, p, _, rfl, .inr (SqT.of U.pt), rfl, _, rfl, iteNS rfl ?_⟩
    refine ⟨_, rfl, p, _, _, _, rfl, rfl, SqT.of U.pt, at_of (j := 0) rfl rfl, _, _, _, _, true, rfl, .ty _, .base (.dK U.h1), kit_ty (by decide +kernel), _, rfl, iteF ?_⟩
    refine ⟨_, rfl, p, _, _, _, rfl, rfl, SqT.of U.pt, at_of (j := 1) rfl rfl, _, _, _, _, true, rfl, .ty _, .base (.dT U.h2), kit_ty (by decide +kernel), _, rfl, iteF ?_⟩
    refine ⟨_, rfl, p, _, _, _, rfl, rfl, SqT.of U.pt, at_of (j := 0) rfl rfl, .inl ⟨d1, _, rfl, U.h1, fun q hq => ⟨q, rfl, ⟨_, SqL.of upd_same⟩, ?_⟩⟩⟩
    have u1 := sm_new (o := .lst ((enc kO os).map fun kv => kV kv.1)) hq
    have U1 := U.sm u1
    refine for_list (K := K) (a := q) (xs := (enc kO os).map fun kv => kV kv.1) (fun i σ H2 => ∃ v3 : Option V, σ = [some (.ref d), some (.ref l), some (.ref p), v3, none] ∧ H2 = upd H q (.lst ((enc kO os).map fun kv => kV kv.1)))
      ⟨none, rfl, rfl⟩ (fun i σ H2 _ ⟨_, _, e⟩ => by rw [e]; exact SqL.of upd_same) ?_ ?_
    · rintro i x σ H2 hi ⟨v3, rfl, rfl⟩
      unfold enc at hi
      rw [List.map_map, List.getElem?_map] at hi
      obtain ⟨⟨n, v⟩, hn, rfl⟩ := Option.map_eq_some_iff.mp hi
      have hm := List.mem_of_getElem? hn
      have gv : getL os n = some v := getL_nd U.t1.nd hm
      have ga := DGet.k (k := kO n) U1.h1
      rw [enc_val kO_inj, gv] at ga
      obtain ⟨⟨s, hs, hr, hkey⟩, _⟩ := (U.t1.mem n v).mp hm
      refine ⟨_, rfl, _, rfl, d, _, rfl, DGet.k (k := Sum.inl n) (u1 _ _ hk0), _, rfl, ?_⟩
      rcases FA.val hp0 n with ⟨e1, e2⟩ | ⟨cs, t, ws, e1, e2, e3, e4, e5⟩
      · exact absurd hkey (cellsOf_none e1)
      · rw [e3]
        exact iteF ⟨_, rfl, p, _, _, _, rfl, rfl, SqT.of U1.pt, at_of (j := 0) rfl rfl, _, rfl, d1, _, rfl, ga, v, rfl, _, rfl, iteF ⟨_, rfl, rfl⟩⟩
    rintro σ H2 ⟨v3, rfl, rfl⟩
    refine ⟨_, rfl, p, _, _, _, rfl, rfl, SqT.of U1.pt, at_of (j := 1) rfl rfl, .inr ⟨d2, _, rfl, U1.h2, fun q2 bs hq2 ik => ⟨q2, rfl, ⟨_, SqL.of upd_same⟩, ?_⟩⟩⟩
    have u2 := sm_new (o := .lst (bs.map V.ref)) hq2
    have U2 := U1.sm u2
    refine for_list (K := K) (a := q2) (xs := bs.map V.ref) (fun i σ H3 => ∃ v4 : Option V, σ = [some (.ref d), some (.ref l), some (.ref p), v3, v4] ∧ H3 = upd (upd H q (.lst ((enc kO os).map fun kv => kV kv.1))) q2 (.lst (bs.map V.ref)))
      ⟨none, rfl, rfl⟩ (fun i σ H2 _ ⟨_, _, e⟩ => by rw [e]; exact SqL.of upd_same) ?_ ?_
    · rintro i x σ H3 hi ⟨v4, rfl, rfl⟩
      rw [List.getElem?_map] at hi
      obtain ⟨b, hb, rfl⟩ := Option.map_eq_some_iff.mp hi
      obtain ⟨kv, hkv, hbt⟩ := pr_r ik hb
      unfold enc at hkv
      rw [List.getElem?_map] at hkv
      obtain ⟨⟨r, v⟩, hn, rfl⟩ := Option.map_eq_some_iff.mp hkv
      have gv : getL rs r = some v := getL_nd U.t2.nd (List.mem_of_getElem? hn)
      have hb3 := u2 _ _ hbt
      have ga := DGet.t (k := kR r) U2.h2 hb3
      rw [enc_val kR_inj, gv] at ga
      refine ⟨_, rfl, _, _, _, _, true, rfl, .ty _, .base (.tup hb3), kit_ty (by decide +kernel), _, rfl, iteF ?_⟩
      exact ⟨_, rfl, p, _, _, _, rfl, rfl, SqT.of U2.pt, at_of (j := 1) rfl rfl, _, rfl, d2, _, rfl, ga, v, rfl, _, rfl, iteF ⟨_, rfl, rfl⟩⟩
    rintro σ H3 ⟨v4, rfl, rfl⟩
    refine ⟨_, rfl, _, rfl, _, rfl, d, l, p, fs, us, ss, d1, d2, os, rs, rfl, U2, fun H4 s4 => ⟨_, rfl, iteT ?_⟩⟩
    exact ⟨_, rfl, _, rfl, _, rfl, d, l, p, fs, us, ss, d1, d2, os, rs, rfl, U2.sm s4, fun H5 s5 => k H5 (((u1.trans u2).trans s4).trans s5)⟩

theorem ok_law_place (T : Txt K mg base) : FnOk P w K mg base CX0 1 (He.ga K "_law_place") T.fd_law_place ["row", "at"] spPlace := by
  refine T.F_law_place.ok sc_law_place (fun vs H Q E h => ?_) (fun cdv A outer s H vs Q E hr h => ?_)
  · obtain ⟨lr, us, r1, r2, at_, rfl, hl, e1, e2, k⟩ := h
    rfl
  · obtain ⟨lr, us, r1, r2, at_, rfl, hl, e1, e2, k⟩ := h
    refine ⟨_, PSs.nox (pss_cons (ps_set (i := 2) sc_law_place.nd rfl (Or.inl rfl) (pe_op op_add pe_int (pe_op op_mod (pe_ix ix_list (pv 0) pe_int (fun _ _ => rfl)) pe_int)))
    (pss_cons (ps_set (i := 3) sc_law_place.nd rfl (Or.inl rfl) (pe_op op_add pe_int (pe_op op_mod (pe_ix ix_list (pv 0) pe_int (fun _ _ => rfl)) pe_int)))
    (C8.pss_cut (ps_if (PW.pt (pw_and (pt_cmpR op_eq (pe_op op_mod (pe_op op_fdiv (pe_ix ix_list (pv 0) pe_int (fun _ _ => rfl)) pe_int) pe_int) pe_int (nomark _)) (pw_and1 (pt_cmpR op_lt (pv 1) (pv 2) (nomark _)))))
      (pss_one (ps_set (i := 1) sc_law_place.nd rfl (Or.inl rfl) (pe_op op_sub (pe_op op_sub (pv 2) pe_int) (pv 1))))
      pss_nil)
    (pss_one (ps_ret (pe_op op_mul (pv 1) (pv 3))))))), ?_⟩
    have i1 : atI us 1 = some (.int r1) := at_of (j := 1) rfl e1
    have i2 : atI us 2 = some (.int r2) := at_of (j := 2) rfl e2
    refine ⟨_, rfl, lr, _, _, _, rfl, rfl, SqL.of hl, i1, _, _, rfl, rfl, (by show (0 : Int) < 2001; decide), _, _, rfl, rfl, ?_⟩
    refine ⟨_, rfl, lr, _, _, _, rfl, rfl, SqL.of hl, i2, _, _, rfl, rfl, (by show (0 : Int) < 3; decide), _, _, rfl, rfl, ?_⟩
    refine ⟨fun σ H' => ∃ z : Int, z = (if rev r2 ∧ at_ < cnC r1 then cnC r1 - 1 - at_ else at_) ∧ σ = [some (.ref lr), some (.int z), some (.int (cnC r1)), some (.int (stp r2))] ∧ H' = H, ?_, ?_⟩
    · refine ⟨_, rfl, lr, _, _, _, rfl, rfl, SqL.of hl, i2, _, _, rfl, rfl, ⟨by decide, by decide⟩, _, _, rfl, rfl, (by show (0 : Int) < 2; decide), rfl, _, rfl, ?_⟩
      by_cases hr : rev r2
      · have er : (decide (V.int (r2 / 12 % 2) = V.int 1)) = true := decide_eq_true (by rw [show r2 / 12 % 2 = 1 from hr])
        show (if decide (V.int (r2 / 12 % 2) = V.int 1) = true then _ else _)
        rw [if_pos er]
        refine ⟨_, rfl, _, rfl, _, _, rfl, rfl, _, rfl, ite2 (fun hc => ?_) (fun hc => ?_)⟩
        · have hc : at_ < cnC r1 := of_decide_eq_true hc
          refine ⟨_, rfl, _, _, rfl, rfl, _, rfl, _, _, rfl, rfl, ?_⟩
          exact ⟨cnC r1 - 1 - at_, by rw [if_pos ⟨hr, hc⟩], rfl, rfl⟩
        · have hc : ¬ at_ < cnC r1 := fun z => hc (decide_eq_true z)
          exact ⟨at_, by rw [if_neg fun z => hc z.2], rfl, rfl⟩
      · have er : (decide (V.int (r2 / 12 % 2) = V.int 1)) = false := decide_eq_false fun z => hr (by injection z)
        show (if decide (V.int (r2 / 12 % 2) = V.int 1) = true then _ else _)
        rw [if_neg (by rw [er]; exact Bool.false_ne_true)]
        exact ⟨at_, by rw [if_neg fun z => hr z.1], rfl, rfl⟩
    rintro σ H' ⟨z, ez, rfl, rfl⟩
    have s0 := stp_lo (r2 := r2)
    have s1 := stp_hi (r2 := r2)
    refine ⟨_, rfl, _, rfl, _, _, rfl, rfl, .inr ⟨by omega, by omega⟩, ?_⟩
    rw [ez]
    exact k

theorem ok_law_long_heap (T : Txt K mg base) : FnOk P w K mg base CX0 2 (He.ga K "_law_long_heap") T.fd_law_long_heap ["row"] spLongHeap := by
  refine T.F_law_long_heap.ok sc_law_long_heap (fun vs H Q E h => ?_) (fun cdv A outer s H vs Q E hr h => ?_)
  · obtain ⟨lr, us, r0, r1, r2, r3, r4, rfl, R, k⟩ := h
    rfl
  · obtain ⟨lr, us, r0, r1, r2, r3, r4, rfl, R, k⟩ := h
    refine ⟨_, PSs.nox (pss_cons (ps_set (i := 1) sc_law_long_heap.nd rfl (Or.inl rfl) (pe_op op_add pe_int (pe_op op_mod (pe_ix ix_list (pv 0) pe_int (fun _ _ => rfl)) pe_int)))
    (pss_cons (ps_set (i := 2) sc_law_long_heap.nd rfl (Or.inl rfl) (pe_op op_add pe_int (pe_op op_mod (pe_ix ix_list (pv 0) pe_int (fun _ _ => rfl)) pe_int)))
    (pss_cons (ps_set (i := 3) sc_law_long_heap.nd rfl (Or.inl rfl) pe_dnewK)
    (pss_cons (ps_for PassesOwn.never rfl (pi_range1 (by rfl) T.z_range (pa_cons (pv 1) pa_nil)) (pg_name (i := 4) sc_law_long_heap.nd rfl (Or.inl rfl))
      (pss_cons (ps_set (i := 5) sc_law_long_heap.nd rfl (Or.inl rfl) (pv 4))
      (C8.pss_cut (ps_if (pt_cmpR op_eq (pe_op op_mod (pe_op op_fdiv (pe_ix ix_list (pv 0) pe_int (fun _ _ => rfl)) pe_int) pe_int) pe_int (nomark _))
        (pss_one (ps_set (i := 5) sc_law_long_heap.nd rfl (Or.inl rfl) (pe_op op_sub (pe_op op_sub (pv 1) pe_int) (pv 4))))
        pss_nil)
      (pss_cons (ps_set (i := 6) sc_law_long_heap.nd rfl (Or.inl rfl) (pe_lst (pa_cons (pe_call (ok_law_place T) (hr.mono (by decide)) (by rfl) T.g_law_place T.F_law_place.kp T.b_law_place .nil pass0 (pa_cons (pv 0) (pa_cons (pe_op op_add (pv 5) pe_int) pa_nil))) pa_nil)))
      (C8.pss_cut (ps_if (PW.pt (pw_and (pt_cmpR op_eq (pv 5) (pe_op op_sub (pv 1) pe_int) (nomark _)) (pw_and1 (pt_cmpR op_eq (pe_op op_mod (pe_op op_fdiv (pe_ix ix_list (pv 0) pe_int (fun _ _ => rfl)) pe_int) pe_int) pe_int (nomark _)))))
        (pss_one (ps_set (i := 6) sc_law_long_heap.nd rfl (Or.inl rfl) (pe_lst (pa_cons (pe_call (ok_law_place T) (hr.mono (by decide)) (by rfl) T.g_law_place T.F_law_place.kp T.b_law_place .nil pass0 (pa_cons (pv 0) (pa_cons pe_int pa_nil))) pa_nil))))
        pss_nil)
      (C8.pss_cut (ps_if (pt_cmpR op_eq (pv 5) (pe_op op_mod (pe_ix ix_list (pv 0) pe_int (fun _ _ => rfl)) (pv 1)) (nomark _))
        (pss_one (ps_set (i := 6) sc_law_long_heap.nd rfl (Or.inl rfl) (pe_op op_cat (pe_lst (pa_cons pe_non (pa_cons (pe_tup (pa_cons (pe_op op_mod (pv 5) pe_int) (pa_cons (pv 2) pa_nil))) pa_nil))) (pv 6))))
        pss_nil)
      (pss_one (ps_dput (hu2 hr.units) (pv 3) (pe_call (ok_law_place T) (hr.mono (by decide)) (by rfl) T.g_law_place T.F_law_place.kp T.b_law_place .nil pass0 (pa_cons (pv 0) (pa_cons (pv 5) pa_nil))) (pe_callTy call_tuple_of (by rfl) T.z_tuple (by decide +kernel) (pa_cons (pv 6) pa_nil)) rfl))))))))
    (pss_one (ps_ret (pv 3))))))), ?_⟩
    have sz : ∀ n : Nat, n < 4000 → n < sizeLine := fun n h => Nat.lt_trans h (by decide)
    have i1 : atI us 1 = some (.int r1) := at_of (j := 1) rfl R.e1
    have i2 : atI us 2 = some (.int r2) := at_of (j := 2) rfl R.e2
    have i3 : atI us 3 = some (.int r3) := at_of (j := 3) rfl R.e3
    have c0 := cnC_lo (r1 := r1)
    have c1 := cnC_hi (r1 := r1)
    have hl := R.lst
    refine ⟨_, rfl, lr, _, _, _, rfl, rfl, SqL.of hl, i1, _, _, rfl, rfl, (by show (0 : Int) < 2001; decide), _, _, rfl, rfl, ?_⟩
    refine ⟨_, rfl, lr, _, _, _, rfl, rfl, SqL.of hl, i2, _, _, rfl, rfl, (by show (0 : Int) < 3; decide), _, _, rfl, rfl, ?_⟩
    refine fun d hd => ?_
    obtain ⟨mid, em⟩ : ∃ mid, mid = r3 % cnC r1 := ⟨_, rfl⟩
    have m0 : 0 ≤ mid := by rw [em]; exact Int.emod_nonneg _ (by omega)
    have m1 : mid < cnC r1 := by rw [em]; exact Int.emod_lt_of_pos _ (by omega)
    refine ⟨_, rfl, cnC r1, rfl, by show -(2 ^ 62) ≤ cnC r1; omega, by show cnC r1 < 2 ^ 62; omega, ?_⟩
    refine for_range (lo := 0) (n := (cnC r1).toNat) (fun i σ H3 => ∃ (fs : Fields) (v4 v5 v6 : Option V), σ = [some (.ref lr), some (.int (cnC r1)), some (.int (stp r2)), some (.ref d), v4, v5, v6] ∧ Same H H3 ∧ Fs H3 d fs i ∧
        (∀ p, p ∈ fs ↔ ∃ j : Nat, j < i ∧ p = ent r1 r2 mid (if r2 / 3 % 2 = 1 then cnC r1 - 1 - j else j)) ∧ fs.length = i)
      ⟨[], none, none, none, rfl, sm_new hd, ⟨⟨[], upd_same, .nil⟩, List.nodup_nil, fun _ h => (nomatch h), Nat.le_refl _⟩, fun p => ⟨fun h => (nomatch h), fun ⟨j, h, _⟩ => absurd h (Nat.not_lt_zero _)⟩, rfl⟩ ?_ ?_
    · rintro i σ H3 hi ⟨fs, v4, v5, v6, rfl, sm, F, hm, hlen⟩
      refine ⟨_, rfl, ?_⟩
      obtain ⟨at_, eat⟩ : ∃ at_ : Int, at_ = if r2 / 3 % 2 = 1 then cnC r1 - 1 - (i : Int) else (i : Int) := ⟨_, rfl⟩
      have a0 : 0 ≤ at_ := by rw [eat]; split <;> omega
      have a1 : at_ < cnC r1 := by rw [eat]; split <;> omega
      refine ⟨fun σ H' => σ = [some (.ref lr), some (.int (cnC r1)), some (.int (stp r2)), some (.ref d), some (.int (0 + (i : Int))), some (.int at_), v6] ∧ H' = H3, ?_, ?_⟩
      · refine ⟨_, rfl, lr, _, _, _, rfl, rfl, SqL.of (sm _ _ hl), i2, _, _, rfl, rfl, ⟨by decide, by decide⟩, _, _, rfl, rfl, (by show (0 : Int) < 2; decide), rfl, _, rfl, ite2 (fun hc => ?_) (fun hc => ?_)⟩
        · have hc : r2 / 3 % 2 = 1 := by have := of_decide_eq_true hc; injection this
          refine ⟨_, rfl, _, _, rfl, rfl, _, rfl, _, _, rfl, rfl, ?_⟩
          refine ⟨?_, rfl⟩
          show [some (V.ref lr), some (.int (cnC r1)), some (.int (stp r2)), some (.ref d), some (.int (0 + (i : Int))), some (.int (cnC r1 - 1 - (0 + (i : Int)))), v6] = _
          rw [eat, if_pos hc, Int.zero_add]
        · have hc : ¬ r2 / 3 % 2 = 1 := fun z => hc (decide_eq_true (congrArg V.int z))
          refine ⟨?_, rfl⟩
          show [some (V.ref lr), some (.int (cnC r1)), some (.int (stp r2)), some (.ref d), some (.int (0 + (i : Int))), some (.int (0 + (i : Int))), v6] = _
          rw [eat, if_neg hc, Int.zero_add]
      rintro σ H' ⟨rfl, rfl⟩
      refine ⟨_, rfl, _, rfl, _, _, rfl, rfl, lr, us, r1, r2, at_ + 1, rfl, sm _ _ hl, R.e1, R.e2, (by show 1 ≤ sizeLine; decide), fun p1 h1 => ?_⟩
      have u1 := sm_new (o := .lst [.int (plc r1 r2 (at_ + 1))]) h1
      refine ⟨fun σ H2 => ∃ p : Addr, σ = [some (.ref lr), some (.int (cnC r1)), some (.int (stp r2)), some (.ref d), some (.int (0 + (i : Int))), some (.int at_), some (.ref p)] ∧ Same H' H2 ∧ H2 p = some (.lst [.int (nxt r1 r2 at_)]), ?_, ?_⟩
      · refine ⟨_, rfl, _, rfl, _, _, rfl, rfl, rfl, _, rfl, ?_⟩
        by_cases h2 : at_ = cnC r1 - 1
        · show (if decide (V.int at_ = V.int (cnC r1 - 1)) = true then _ else _)
          rw [if_pos (decide_eq_true (by rw [h2]))]
          refine ⟨_, rfl, lr, _, _, _, rfl, rfl, SqL.of (u1 _ _ (sm _ _ hl)), i2, _, _, rfl, rfl, ⟨by decide, by decide⟩, _, _, rfl, rfl, (by show (0 : Int) < 2; decide), rfl, _, rfl, ite2 (fun hc => ?_) (fun hc => ?_)⟩
          · have hc : ring r2 := by have := of_decide_eq_true hc; injection this
            refine ⟨_, rfl, lr, us, r1, r2, 0, rfl, u1 _ _ (sm _ _ hl), R.e1, R.e2, (by show 1 ≤ sizeLine; decide), fun p2 h3 => ?_⟩
            refine ⟨p2, rfl, u1.trans (sm_new h3), ?_⟩
            unfold nxt
            rw [if_pos ⟨h2, hc⟩]
            exact upd_same
          · have hc : ¬ ring r2 := fun z => hc (decide_eq_true (congrArg V.int (show r2 / 6 % 2 = 1 from z)))
            refine ⟨p1, rfl, u1, ?_⟩
            unfold nxt
            rw [if_neg fun z => hc z.2]
            exact upd_same
        · show (if decide (V.int at_ = V.int (cnC r1 - 1)) = true then _ else _)
          rw [if_neg (by rw [decide_eq_false fun z => h2 (by injection z)]; exact Bool.false_ne_true)]
          refine ⟨p1, rfl, u1, ?_⟩
          unfold nxt
          rw [if_neg fun z => h2 z.1]
          exact upd_same
      rintro σ H2 ⟨p, rfl, s2, hp⟩
      refine ⟨fun σ H4 => ∃ (q : Addr) (ws : List V), σ = [some (.ref lr), some (.int (cnC r1)), some (.int (stp r2)), some (.ref d), some (.int (0 + (i : Int))), some (.int at_), some (.ref q)] ∧ Same H' H4 ∧ H4 q = some (.lst ws) ∧ CVs H4 (ent r1 r2 mid at_).2 ws, ?_, ?_⟩
      · refine ⟨_, rfl, _, rfl, lr, _, _, _, rfl, rfl, SqL.of (s2 _ _ (sm _ _ hl)), i3, _, rfl, _, _, rfl, rfl, (by show (0 : Int) < cnC r1; omega), rfl, _, rfl, ite2 (fun hc => ?_) (fun hc => ?_)⟩
        · have hc : at_ = mid := by have := of_decide_eq_true hc; injection this with this; rw [em]; exact this
          refine ⟨_, rfl, _, _, rfl, rfl, (by show (0 : Int) < 8; decide), _, rfl, (by show 2 ≤ sizeLine; decide), fun t ht => ?_⟩
          have u2 := sm_new (o := .tup [.int (at_ % 8), .int (stp r2)]) ht
          refine ⟨(by show 2 ≤ sizeLine; decide), fun q1 hq1 => ?_⟩
          have u3 := sm_new (o := .lst [.non, .ref t]) hq1
          refine ⟨_, rfl, q1, p, _, _, rfl, rfl, upd_same, u3 _ _ (u2 _ _ hp), (by show 3 ≤ sizeLine; decide), fun q2 hq2 => ?_⟩
          have u4 := sm_new (o := .lst ([.non, .ref t] ++ [.int (nxt r1 r2 at_)])) hq2
          refine ⟨q2, _, rfl, ((s2.trans u2).trans u3).trans u4, upd_same, ?_⟩
          unfold ent
          rw [if_pos hc]
          exact .cons rfl (.cons ⟨t, rfl, u4 _ _ (u3 _ _ upd_same)⟩ (.cons rfl .nil))
        · have hc : ¬ at_ = mid := fun z => hc (decide_eq_true (congrArg V.int (z.trans em)))
          refine ⟨p, _, rfl, s2, hp, ?_⟩
          unfold ent
          rw [if_neg hc]
          exact .cons rfl .nil
      rintro σ H4 ⟨q, ws, rfl, s4, hq, hc⟩
      refine ⟨_, rfl, q, _, rfl, .inl ⟨SqL.of hq, fun t ht => ?_⟩⟩
      have u5 := sm_new (o := .tup ws) ht
      have s5 := s4.trans u5
      obtain ⟨kvs, hk, hp0⟩ := F.fa.sm s5
      have lk : kvs.length = i := by rw [← pr_len hp0]; exact hlen
      refine ⟨_, rfl, _, rfl, _, rfl, lr, us, r1, r2, at_, rfl, s5 _ _ (sm _ _ hl), R.e1, R.e2, d, _, rfl, DPut.k (k := Sum.inl (plc r1 r2 at_)) hk (sz _ (by omega)), ?_⟩
      have tl : TL (upd H4 t (.tup ws)) (upd (upd H4 t (.tup ws)) d (.dK (putK kvs (Sum.inl (plc r1 r2 at_)) (.ref t)))) := TL.put hk fun xs z => nomatch z
      have w8 : (ent r1 r2 mid at_).2.length ≤ 8 := by
        unfold ent
        dsimp only
        split <;> simp
      have nk : ¬ (fs.any fun p => p.1 == plc r1 r2 at_) = true := by
        rw [List.any_eq_true]
        rintro ⟨p, hp, e⟩
        obtain ⟨j, hj, rfl⟩ := (hm p).mp hp
        have e : plc r1 r2 (if r2 / 3 % 2 = 1 then cnC r1 - 1 - (j : Int) else (j : Int)) = plc r1 r2 at_ := beq_iff_eq.mp e
        have := plc_inj (by split <;> omega) (by split <;> omega) a0 (by omega) e
        rw [eat] at this
        split at this <;> omega
      have enew : putC fs (plc r1 r2 at_) (ent r1 r2 mid at_).2 = fs ++ [ent r1 r2 mid at_] := by
        unfold putC
        rw [if_neg nk]
        rfl
      refine ⟨putC fs (plc r1 r2 at_) (ent r1 r2 mid at_).2, _, _, _, rfl, sm_put (sm.trans s5) hd, ⟨⟨_, upd_same, ?_⟩, putC_nd F.nd _ _, putC_all (Pr := fun c => c.length ≤ 8) F.w w8, Nat.le_trans (putC_len fs _ _) (Nat.succ_le_succ F.len)⟩, fun p => ?_, ?_⟩
      · exact Paired.mapP (put_pr hp0 upd_same (hc.tl (TL.same u5))) fun _ _ q => q.tl tl
      · rw [enew, List.mem_append, hm, List.mem_singleton]
        constructor
        · rintro (⟨j, hj, e⟩ | e)
          · exact ⟨j, by omega, e⟩
          · exact ⟨i, by omega, by rw [e, eat]⟩
        · rintro ⟨j, hj, e⟩
          rcases Nat.lt_or_eq_of_le (Nat.le_of_lt_succ hj) with h | h
          · exact .inl ⟨j, h, e⟩
          · refine .inr ?_
            rw [e, eat, h]
      · rw [enew, List.length_append, hlen]
        rfl
    · rintro σ H3 ⟨fs, v4, v5, v6, rfl, sm, F, hm, hlen⟩
      refine ⟨_, rfl, k H3 d fs sm hd ⟨F.fa, F.nd, F.w, by omega⟩ ⟨fun p => ?_, by omega⟩⟩
      rw [hm, ← em]
      constructor
      · rintro ⟨j, hj, e⟩
        exact ⟨_, by split <;> omega, by split <;> omega, e⟩
      · rintro ⟨a, a0, a1, e⟩
        by_cases hr : r2 / 3 % 2 = 1
        · refine ⟨(cnC r1 - 1 - a).toNat, by omega, ?_⟩
          rw [if_pos hr, e]
          congr 1
          omega
        · refine ⟨a.toNat, by omega, ?_⟩
          rw [if_neg hr, e]
          congr 1
          omega

theorem ok_law_long_rows (T : Txt K mg base) : FnOk P w K mg base CX0 8 (He.ga K "_law_long_rows") T.fd_law_long_rows ["row"] (spLongRows K) := by
  refine T.F_law_long_rows.ok sc_law_long_rows (fun vs H Q E h => ?_) (fun cdv A outer s H vs Q E hr h => ?_)
  · obtain ⟨lr, us, r0, r1, r2, r3, r4, rfl, R, tab, k⟩ := h
    rfl
  · obtain ⟨lr, us, r0, r1, r2, r3, r4, rfl, R, tab, k⟩ := h
    refine ⟨_, PSs.nox (pss_cons (ps_set (i := 1) sc_law_long_rows.nd rfl (Or.inl rfl) (pe_call (ok_law_long_heap T) (hr.mono (by decide)) (by rfl) T.g_law_long_heap T.F_law_long_heap.kp T.b_law_long_heap .nil pass0 (pa_cons (pv 0) pa_nil)))
    (pss_cons (ps_set (i := 2) sc_law_long_rows.nd rfl (Or.inr rfl) (pe_callB call_lenD (by rfl) T.z_len (by decide +kernel) (pa_cons (pv 1) pa_nil)))
    (pss_cons (ps_setLc (i := 3) (own := [("k", 4)]) (g := gName 4) (tt := tYes) (by rfl) sc_law_long_rows.nd rfl rfl (sw_true rfl rfl rfl (by decide +kernel)) (pi_range1 (by rfl) T.z_range (pa_cons pe_int pa_nil)) (blkOk_by (own := [("k", 4)]) (N := ["row", "fields", "count", "sources", "k"]) (sc := defScope s_law_long_rows) (by decide +kernel)) (fun _ _ _ _ _ => pg_name (i := 4) sc_law_long_rows.nd rfl (Or.inl rfl)) (fun _ _ _ _ _ => pts_nil) (fun _ _ _ _ _ => (pe_tup (pa_cons (pe_call (ok_law_place T) (hr.mono (by decide)) (by rfl) T.g_law_place T.F_law_place.kp T.b_law_place .nil pass0 (pa_cons (pv 0) (pa_cons (pe_op op_mod (pe_ix (Hl.ix_listK (K := K) rfl) (pv 0) (pe_op op_mod (pe_op op_add (pv 4) pe_int) pe_int) (fun _ _ => rfl)) (pv 2)) pa_nil))) (pa_cons (pe_op op_mod (pe_ix (Hl.ix_listK (K := K) rfl) (pv 0) (pv 4) (fun _ _ => rfl)) pe_int) pa_nil)))))
    (pss_one (ps_ret (pe_call (ok_law_is_answer T) (hr.mono (by decide)) (by rfl) T.g_law_is_answer T.F_law_is_answer.kp T.b_law_is_answer .nil pass0 (pa_cons (pv 1) (pa_cons (pv 3) (pa_cons (pe_call (ok_greatest T) (hr.mono (by decide)) (by rfl) T.g_greatest T.F_greatest.kp T.b_greatest .nil pass0 (pa_cons (pe_call (ok_law_copy T) (hr.mono (by decide)) (by rfl) T.g_law_copy T.F_law_copy.kp T.b_law_copy .nil pass0 (pa_cons (pv 1) pa_nil)) (pa_cons (pe_callTy call_list_of (by rfl) T.z_list (by decide +kernel) (pa_cons (pv 3) pa_nil)) pa_nil))) pa_nil))))))))), ?_⟩
    have sz : ∀ n : Nat, n < 60000 → n < sizeLine := fun n h => Nat.lt_trans h (by decide)
    have c0 := cnC_lo (r1 := r1)
    have c1 := cnC_hi (r1 := r1)
    refine ⟨_, rfl, lr, us, r0, r1, r2, r3, r4, rfl, R, fun H1 d fs s1 n1 F C => ?_⟩
    obtain ⟨kvs, hk, hp0⟩ := F.fa
    have lk : kvs.length = fs.length := (pr_len hp0).symm
    have hlen := C.len
    have ek : (kvs.length : Int) = cnC r1 := by rw [lk]; exact hlen
    refine ⟨_, rfl, d, kvs, rfl, hk, ?_⟩
    rw [ek]
    have hr1 := s1 _ _ R.lst
    have F5 : Fs H1 d fs 5000 := ⟨⟨kvs, hk, hp0⟩, F.nd, F.w, Nat.le_trans F.len (by decide)⟩
    refine ⟨5, rfl, by decide, by decide, fun D hD => ?_⟩
    refine lc_range (lo := 0) (n := 5) (fun j H2 => ∃ (vs : List V) (ss : Srcs), Same H1 H2 ∧ H2 D = some (.lst vs) ∧ SrcVs H2 ss vs ∧ (∀ q ∈ ss, 0 ≤ q.2) ∧ vs.length = j)
      ⟨[], [], sm_new hD, upd_same, .nil, fun q hq => (nomatch hq), rfl⟩ ?_ ?_
    · rintro j H2 hj ⟨vs, ss, sm, h2, hs, hp, hx⟩
      obtain ⟨z, hz⟩ := R.at_ (i := (0 + (j : Int) + 2) % 5) (Int.emod_nonneg _ (by decide)) (Int.emod_lt_of_pos _ (by decide))
      obtain ⟨y, hy⟩ := R.at_ (i := 0 + (j : Int)) (by omega) (by omega)
      have hr2 := sm _ _ hr1
      refine ⟨rfl, _, rfl, _, rfl, _, rfl, _, _, rfl, rfl, _, _, rfl, rfl, (by show (0 : Int) < 5; decide), lr, _, _, _, rfl, rfl, SqL.of hr2, hz, _, rfl, _, _, rfl, rfl, (by show (0 : Int) < cnC r1; omega), lr, us, r1, r2, _, rfl, hr2, R.e1, R.e2, ?_⟩
      refine ⟨_, rfl, _, rfl, lr, _, _, _, rfl, rfl, SqL.of hr2, hy, _, _, rfl, rfl, (by show (0 : Int) < 9; decide), (by show 2 ≤ sizeLine; decide), fun t ht => ?_⟩
      have u := sm_new (o := .tup [.int (plc r1 r2 (z % cnC r1)), .int (y % 9)]) ht
      have h3 := u _ _ h2
      have tl := TL.put (o := .lst (vs ++ [.ref t])) h3 fun xs z => nomatch z
      refine ⟨_, h3, sz _ (by omega), vs ++ [.ref t], ss ++ [(.obj (plc r1 r2 (z % cnC r1)), y % 9)], sm_put (sm.trans u) hD, upd_same, pr_app ((hs.tl (TL.same u)).tl tl) (.cons ⟨fun z => (nomatch z), t, _, rfl, tl _ _ upd_same, rfl⟩ .nil), fun q hq => ?_, by simp [hx]⟩
      rcases List.mem_append.mp hq with h | h
      · exact hp q h
      · rw [List.mem_singleton.mp h]
        exact Int.emod_nonneg _ (by decide)
    rintro H2 ⟨vs, ss, s2, h2, hs, hpos, hx⟩
    have s12 := s1.trans s2
    refine ⟨_, rfl, _, rfl, _, rfl, d, kvs, rfl, s2 _ _ hk, ev_nd hp0 F.nd, ev_int hp0, by omega, fun H3 e s3 n3 he => ?_⟩
    refine ⟨_, rfl, D, vs, rfl, .inl (SqL.of (s3 _ _ h2)), fun lt hlt => ?_⟩
    have u4 := sm_new (o := .lst vs) hlt
    have s14 := (s2.trans s3).trans u4
    have Fe : Fs (upd H3 lt (.lst vs)) e fs 5000 := ⟨⟨kvs, u4 _ _ he, Paired.mapP hp0 fun _ _ z => z.tl (TL.same s14)⟩, F.nd, F.w, Nat.le_trans F.len (by decide)⟩
    refine ⟨e, lt, fs, vs, ss, rfl, Fe, upd_same, hs.tl (TL.same (s3.trans u4)), by omega, (Sm.of (s1.trans s14)).tb tab, fun H5 p d1 d2 os rs s5 A => ?_⟩
    have s15 := (Sm.of (T := tG K) s14).trans s5
    refine ⟨d, D, p, fs, vs, ss, d1, d2, os, rs, rfl, ⟨⟨⟨kvs, s15 _ _ hk, Paired.mapP hp0 fun _ _ z => z.tl (TLs s15)⟩, F.nd, F.w, Nat.le_trans F.len (by decide)⟩, ((Sm.of (T := tG K) (s3.trans u4)).trans s5) _ _ h2, hs.tl (TLs ((Sm.of (T := tG K) (s3.trans u4)).trans s5)), hpos, by omega, A.pt, A.h1, A.h2, A.t1, A.t2⟩, fun H6 s6 => ?_⟩
    exact k H6 (((Sm.of s1).trans s15).tr s6)

theorem ok_law (T : Txt K mg base) : FnOk P w K mg base CX0 9 (He.ga K "law") T.fd_law ["script"] (spLaw K) := by
  refine T.F_law.ok sc_law (fun vs H Q E h => ?_) (fun cdv A outer s H vs Q E hr h => ?_)
  · obtain ⟨a, sc, rfl, hS, hl, tab, k⟩ := h
    rfl
  · obtain ⟨a, sc, rfl, hS, hl, tab, k⟩ := h
    refine ⟨_, PSs.nox (pss_cons (ps_set (i := 1) sc_law.nd rfl (Or.inl rfl) (pe_call (ok_law_heap T) (hr.mono (by decide)) (by rfl) T.g_law_heap T.F_law_heap.kp T.b_law_heap .nil pass0 (pa_cons (pv 0) (pa_cons pe_int pa_nil))))
    (pss_cons (ps_set (i := 2) sc_law.nd rfl (Or.inl rfl) (pe_callB cr_sortedI (by rfl) T.z_sorted (by decide +kernel) (pa_cons (DKe.pe_listKeys rfl (pv 1) (by rfl) T.z_list (by rfl)) pa_nil)))
    (pss_cons (ps_set (i := 3) sc_law.nd rfl (Or.inl rfl) (pe_op op_mod (pe_callTy call_int1 (by rfl) T.z_int (by decide +kernel) (pa_cons (pe_call (ok_law_cell T) (hr.mono (by decide)) (by rfl) T.g_law_cell T.F_law_cell.kp T.b_law_cell .nil pass0 (pa_cons (pv 0) (pa_cons pe_int pa_nil))) pa_nil)) pe_int))
    (C8.pss_cut (ps_if (pt_cmpR op_eq (pe_op op_mod (pe_op op_fdiv (pe_callTy call_int1 (by rfl) T.z_int (by decide +kernel) (pa_cons (pe_call (ok_law_cell T) (hr.mono (by decide)) (by rfl) T.g_law_cell T.F_law_cell.kp T.b_law_cell .nil pass0 (pa_cons (pv 0) (pa_cons pe_int pa_nil))) pa_nil)) pe_int) pe_int) pe_int (nomark _))
      (pss_one (ps_set (i := 3) sc_law.nd rfl (Or.inl rfl) (pe_op op_mod (pe_op op_fdiv (pe_callTy call_int1 (by rfl) T.z_int (by decide +kernel) (pa_cons (pe_call (ok_law_cell T) (hr.mono (by decide)) (by rfl) T.g_law_cell T.F_law_cell.kp T.b_law_cell .nil pass0 (pa_cons (pv 0) (pa_cons pe_int pa_nil))) pa_nil)) pe_int) pe_int)))
      pss_nil)
    (pss_cons (ps_set (i := 4) sc_law.nd rfl (Or.inl rfl) (pe_call (ok_law_sources T) (hr.mono (by decide)) (by rfl) T.g_law_sources T.F_law_sources.kp T.b_law_sources .nil pass0 (pa_cons (pv 0) (pa_cons (pv 2) (pa_cons (pv 3) pa_nil)))))
    (pss_cons (ps_if (pt_not (pt_val (pe_call (ok_law_is_answer T) (hr.mono (by decide)) (by rfl) T.g_law_is_answer T.F_law_is_answer.kp T.b_law_is_answer .nil pass0 (pa_cons (pv 1) (pa_cons (pv 4) (pa_cons (pe_call (ok_greatest T) (hr.mono (by decide)) (by rfl) T.g_greatest T.F_greatest.kp T.b_greatest .nil pass0 (pa_cons (pe_call (ok_law_copy T) (hr.mono (by decide)) (by rfl) T.g_law_copy T.F_law_copy.kp T.b_law_copy .nil pass0 (pa_cons (pv 1) pa_nil)) (pa_cons (pe_callTy call_list_of (by rfl) T.z_list (by decide +kernel) (pa_cons (pv 4) pa_nil)) pa_nil))) pa_nil))))))
      (pss_one (ps_ret pe_bl))
      pss_nil)
    (pss_cons (ps_for PassesOwn.never rfl (pi_list (pe_slice sl_list (pv 4) po_none (po_some pe_int))) (pg_name (i := 5) sc_law.nd rfl (Or.inl rfl))
      (pss_cons (ps_set (i := 6) sc_law.nd rfl (Or.inl rfl) (pe_call (ok_greatest T) (hr.mono (by decide)) (by rfl) T.g_greatest T.F_greatest.kp T.b_greatest .nil pass0 (pa_cons (pe_call (ok_law_copy T) (hr.mono (by decide)) (by rfl) T.g_law_copy T.F_law_copy.kp T.b_law_copy .nil pass0 (pa_cons (pv 1) pa_nil)) (pa_cons (pe_lst (pa_cons (pv 5) pa_nil)) pa_nil))))
      (pss_cons (ps_if (pt_not (pt_val (pe_call (ok_law_is_answer T) (hr.mono (by decide)) (by rfl) T.g_law_is_answer T.F_law_is_answer.kp T.b_law_is_answer .nil pass0 (pa_cons (pv 1) (pa_cons (pe_lst (pa_cons (pv 5) pa_nil)) (pa_cons (pv 6) pa_nil))))))
        (pss_one (ps_ret pe_bl))
        pss_nil)
      (pss_cons (ps_set (i := 7) sc_law.nd rfl (Or.inl rfl) (pe_tup (pa_cons (pe_callB cr_sortedI (by rfl) T.z_sorted (by decide +kernel) (pa_cons (DKe.pe_listKeysB rfl (pe_ix ix_tup (pv 6) pe_int (fun _ _ => rfl)) (by rfl) T.z_list (by rfl)) pa_nil)) (pa_cons (pe_callB cr_sortedPO (by rfl) T.z_sorted (by decide +kernel) (pa_cons (DKe.pe_listKeysB rfl (pe_ix ix_tup (pv 6) pe_int (fun _ _ => rfl)) (by rfl) T.z_list (by rfl)) pa_nil)) pa_nil))))
      (pss_cons (ps_set (i := 8) sc_law.nd rfl (Or.inl rfl) (pe_call (ok_reach T) (hr.mono (by decide)) (by rfl) T.g_reach T.F_reach.kp T.b_reach .nil pass0 (pa_cons (pe_call (ok_law_copy T) (hr.mono (by decide)) (by rfl) T.g_law_copy T.F_law_copy.kp T.b_law_copy .nil pass0 (pa_cons (pv 1) pa_nil)) (pa_cons (pe_ix ix_tup (pv 5) pe_int (fun _ _ => rfl)) pa_nil))))
      (pss_one (ps_if (PW.pt (pw_or (pt_not (pt_val (pe_callB call_isi (by rfl) T.z_isinstance (by decide +kernel) (pa_cons (pv 8) (pa_cons (pe_bltn (v := .ty "tuple") (by rfl) T.z_tuple (by decide +kernel) rfl) pa_nil))))) (pw_or (pt_cmpR op_ne (pe_callB call_len_seq (by rfl) T.z_len (by decide +kernel) (pa_cons (pv 8) pa_nil)) pe_int (nomark _)) (pw_or1 (pt_cmpR (op_neD hr.units) (pv 8) (pv 7) (nomark _))))))
        (pss_one (ps_ret pe_bl))
        pss_nil)))))))
    (pss_cons (ps_set (i := 9) sc_law.nd rfl (Or.inl rfl) (pe_call (ok_law_row T) (hr.mono (by decide)) (by rfl) T.g_law_row T.F_law_row.kp T.b_law_row .nil pass0 (pa_cons (pe_call (ok_law_cell T) (hr.mono (by decide)) (by rfl) T.g_law_cell T.F_law_cell.kp T.b_law_cell .nil pass0 (pa_cons (pv 0) (pa_cons pe_int pa_nil))) (pa_cons pe_int (pa_cons pe_int (pa_cons (pe_op op_pow pe_int pe_int) pa_nil))))))
    (pss_one (ps_ret (pe_or (pe_cmpR op_ne (pe_op op_mod (pe_ix ix_list (pv 9) pe_int (fun _ _ => rfl)) pe_int) pe_int (nomark _)) (pe_one (pe_call (ok_law_long_rows T) (hr.mono (by decide)) (by rfl) T.g_law_long_rows T.F_law_long_rows.kp T.b_law_long_rows .nil pass0 (pa_cons (pv 9) pa_nil)))))))))))))), ?_⟩
    have sz : ∀ n : Nat, n < 4000 → n < sizeLine := fun n h => Nat.lt_trans h (by decide)
    refine ⟨_, rfl, a, sc, 90, rfl, ⟨hS, hl⟩, by decide, by decide, fun H1 d fs s1 n1 F => ?_⟩
    obtain ⟨kvs, hk, hp0⟩ := F.fa
    have lk : kvs.length = fs.length := (pr_len hp0).symm
    have F0 := F.len
    have tab1 := (Sm.of (T := tG K) s1).tb tab
    have cp : ∀ {H' : Hp}, Sm (tG K) H1 H' → H' d = some (.dK kvs) ∧ (kvs.map (·.1)).Nodup ∧ (∀ p ∈ kvs, ∃ n, p.1 = Sum.inl n) ∧ kvs.length ≤ 5000 := fun sm => ⟨sm _ _ hk, ev_nd hp0 F.nd, ev_int hp0, by omega⟩
    have hF : ∀ {H' : Hp} {e : Addr}, Sm (tG K) H1 H' → H' e = some (.dK kvs) → Fs H' e fs 5000 := fun sm he => ⟨⟨kvs, he, Paired.mapP hp0 fun _ _ z => z.tl (TLs sm)⟩, F.nd, F.w, by omega⟩
    refine ⟨_, rfl, d, kvs, rfl, hk, fun q hq => ?_⟩
    have u1 := sm_new (o := .lst (kvs.map fun kv => kV kv.1)) hq
    have ekeys : (kvs.map fun kv => kV kv.1) = (fs.map (·.1)).map V.int := by
      have e1 : (kvs.map fun kv => kV kv.1) = (kvs.map (·.1)).map kV := by rw [List.map_map]; rfl
      rw [e1, ev_keys hp0, List.map_map, List.map_map]
      rfl
    refine ⟨q, fs.map (·.1), rfl, SqL.of (by rw [upd_same, ekeys]), fun ns ln pm so hln => ?_⟩
    have s3 := u1.trans (sm_new (o := .lst (ns.map V.int)) hln)
    have hln3 : (upd (upd H1 q (.lst (kvs.map fun kv => kV kv.1))) ln (.lst (ns.map V.int))) ln = some (.lst (ns.map V.int)) := upd_same
    have s13 := s1.trans s3
    revert s3 hln3 s13
    generalize (upd (upd H1 q (.lst (kvs.map fun kv => kV kv.1))) ln (.lst (ns.map V.int))) = H3
    intro s3 hln3 s13
    have nlen : ns.length ≤ 200 := by
      have := pm.length_eq
      rw [List.length_map] at this
      omega
    have hS3 : Scr K H3 a sc := ⟨s13.seq hS, hl⟩
    refine ⟨_, rfl, a, sc, 2, rfl, hS3, by decide, fun r => .inl ⟨_, rfl, _, _, rfl, rfl, (by show (0 : Int) < 13; decide), ?_⟩⟩
    refine ⟨fun σ H' => ∃ many : Int, 0 ≤ many ∧ many ≤ 40 ∧ σ = [some (.ref a), some (.ref d), some (.ref ln), some (.int many), none, none, none, none, none, none] ∧ H' = H3, ?_, ?_⟩
    · have g0 : 0 ≤ r % 13 := Int.emod_nonneg _ (by decide)
      have g1 : r % 13 < 13 := Int.emod_lt_of_pos _ (by decide)
      refine ⟨_, rfl, a, sc, 2, rfl, hS3, by decide, fun r2 => .inl ⟨_, rfl, _, _, rfl, rfl, ⟨by decide, by decide⟩, _, _, rfl, rfl, (by show (0 : Int) < 8; decide), rfl, _, rfl, ite2 (fun _ => ?_) (fun _ => ?_)⟩⟩
      · refine ⟨_, rfl, a, sc, 2, rfl, hS3, by decide, fun r3 => .inl ⟨_, rfl, _, _, rfl, rfl, ⟨by decide, by decide⟩, _, _, rfl, rfl, (by show (0 : Int) < 41; decide), ?_⟩⟩
        have g2 : 0 ≤ r3 / 104 % 41 := Int.emod_nonneg _ (by decide)
        have g3 : r3 / 104 % 41 < 41 := Int.emod_lt_of_pos _ (by decide)
        exact ⟨_, g2, by omega, rfl, rfl⟩
      · exact ⟨_, g0, by omega, rfl, rfl⟩
    rintro σ H' ⟨many, m0, m1, rfl, rfl⟩
    refine ⟨_, rfl, _, rfl, _, rfl, a, sc, ln, ns, many, rfl, hS3, hln3, nlen, m0, by omega, fun H4 p us ss s4 n4 h4 hs hpos lus => ?_⟩
    have s14 := Sm.of (T := tG K) (s3.trans s4)
    -- the whole answer
    refine ⟨_, rfl, _, rfl, _, rfl, d, kvs, rfl, (cp s14).1, (cp s14).2.1, (cp s14).2.2.1, (cp s14).2.2.2, fun H5 e s5 n5 he => ?_⟩
    refine ⟨_, rfl, p, us, rfl, .inl (SqL.of (s5 _ _ h4)), fun lt hlt => ?_⟩
    have u6 := sm_new (o := .lst us) hlt
    have s16 := (s14.tr s5).tr u6
    refine ⟨e, lt, fs, us, ss, rfl, hF s16 (u6 _ _ he), upd_same, hs.tl (TL.same (s5.trans u6)), by omega, s16.tb tab1, fun H7 pa d1 d2 os rs s7 A => ?_⟩
    have s17 := s16.trans s7
    have s47 := (Sm.of (T := tG K) (s5.trans u6)).trans s7
    refine ⟨d, p, pa, fs, us, ss, d1, d2, os, rs, rfl, ⟨hF s17 (cp s17).1, s47 _ _ h4, hs.tl (TLs s47), hpos, by omega, A.pt, A.h1, A.h2, A.t1, A.t2⟩, fun H8 s8 => ?_⟩
    refine ⟨_, rfl, iteF ?_⟩
    have s18 := s17.tr s8
    have s48 := s47.tr s8
    have h8p := s48 _ _ h4
    have hs8 := hs.tl (TLs s48)
    refine ⟨_, rfl, _, rfl, p, _, rfl, SqL.of h8p, fun q3 hq3 => ⟨q3, rfl, ⟨_, SqL.of upd_same⟩, ?_⟩⟩
    obtain ⟨ss3, hs3, hss3⟩ : ∃ S : Srcs, SrcVs H8 S (cutV us none (some 3)) ∧ ∀ q ∈ S, q ∈ ss := by
      unfold cutV
      exact ⟨_, pr_take _ (pr_drop _ hs8), fun q hq => List.mem_of_mem_drop (List.mem_of_mem_take hq)⟩
    revert hs3
    generalize cutV us none (some 3) = us3
    intro hs3
    have u9 := sm_new (o := .lst us3) hq3
    refine for_list (K := K) (a := q3) (xs := us3) (fun i σ H9 => ∃ v5 v6 v7 v8 : Option V, σ = [some (.ref a), some (.ref d), some (.ref ln), some (.int many), some (.ref p), v5, v6, v7, v8, none] ∧ Sm (tG K) H8 H9 ∧ H9 q3 = some (.lst us3))
      ⟨none, none, none, none, rfl, Sm.of u9, upd_same⟩ (fun i σ H9 _ ⟨_, _, _, _, _, _, h⟩ => SqL.of h) ?_ ?_
    · rintro i x σ H9 hi ⟨v5, v6, v7, v8, rfl, s9, h9⟩
      obtain ⟨⟨c, val⟩, hc, hsq⟩ := pr_r hs3 hi
      have hsq9 := hsq.tl (TLs s9)
      have vp : 0 ≤ val := hpos _ (hss3 _ (List.mem_of_getElem? hc))
      obtain ⟨cn, t, sv, rfl, ht, hsv⟩ := hsq9
      have s19 := s18.trans s9
      refine ⟨_, rfl, d, kvs, rfl, (cp s19).1, (cp s19).2.1, (cp s19).2.2.1, (cp s19).2.2.2, fun H10 e' s10 n10 he' => ?_⟩
      refine ⟨_, rfl, (by show 1 ≤ sizeLine; decide), fun pl hpl => ?_⟩
      have u11 := sm_new (o := .lst [.ref t]) hpl
      have s111 := (s19.tr s10).tr u11
      have one : ∀ {H' : Hp}, Sm (tG K) H9 H' → SrcVs H' [(c, val)] [.ref t] := fun sm => .cons ⟨cn, t, sv, rfl, sm _ _ ht, hsv.tl (TLs sm)⟩ .nil
      refine ⟨e', pl, fs, [.ref t], [(c, val)], rfl, hF s111 (u11 _ _ he'), upd_same, one (.of (s10.trans u11)), by simp, s111.tb tab1, fun H12 pb g1 g2 os1 rs1 s12 B => ?_⟩
      have s912 := (Sm.of (T := tG K) (s10.trans u11)).trans s12
      have s112 := s19.trans s912
      refine ⟨_, rfl, _, rfl, (by show 1 ≤ sizeLine; decide), fun pl2 hpl2 => ?_⟩
      have u13 := sm_new (o := .lst [.ref t]) hpl2
      refine ⟨_, rfl, d, pl2, pb, fs, [.ref t], [(c, val)], g1, g2, os1, rs1, rfl, ⟨hF (s112.tr u13) (cp (s112.tr u13)).1, upd_same, one (s912.tr u13), fun q hq => ?_, by simp, u13 _ _ B.pt, u13 _ _ B.h1, u13 _ _ B.h2, B.t1, B.t2⟩, fun H14 s14' => ?_⟩
      · rw [List.mem_singleton.mp hq]
        exact vp
      refine ⟨_, rfl, iteF ?_⟩
      have s1214 := u13.trans s14'
      have B1 := s1214 _ _ B.pt
      have B2 := s1214 _ _ B.h1
      have B3 := s1214 _ _ B.h2
      refine ⟨_, rfl, pb, _, _, _, rfl, rfl, SqT.of B1, at_of (j := 0) rfl rfl, .inl ⟨g1, _, rfl, B2, fun k1 hk1 => ?_⟩⟩
      have w1 := sm_new (o := .lst ((enc kO os1).map fun kv => kV kv.1)) hk1
      have ek1 : ((enc kO os1).map fun kv => kV kv.1) = (os1.map (·.1)).map V.int := by
        unfold enc
        rw [List.map_map, List.map_map]
        rfl
      refine ⟨k1, os1.map (·.1), rfl, SqL.of (by rw [upd_same, ek1]), fun ns1 k2 pm1 so1 hk2 => ?_⟩
      have w2 := sm_new (o := .lst (ns1.map V.int)) hk2
      have w12 := w1.trans w2
      refine ⟨_, rfl, pb, _, _, _, rfl, rfl, SqT.of (w12 _ _ B1), at_of (j := 1) rfl rfl, .inr ⟨g2, _, rfl, w12 _ _ B3, fun k3 bs1 hk3 ik => ?_⟩⟩
      have w3 := sm_new (o := .lst (bs1.map V.ref)) hk3
      have rvk := (rvs_keys ik).tl (TL.same w3)
      refine ⟨k3, bs1.map V.ref, pairAt _, rfl, SqL.of upd_same, rvk.at_, fun ys k4 so2 st2 hk4 => ?_⟩
      have w4 := sm_new (o := .lst ys) hk4
      refine ⟨(by show 2 ≤ sizeLine; decide), fun k5 hk5 => ?_⟩
      have w5 := sm_new (o := .tup [.ref k2, .ref k4]) hk5
      have hk2e := (((w3.trans w4).trans w5)) k2 _ (show (upd (upd H14 k1 (.lst ((enc kO os1).map fun kv => kV kv.1))) k2 (.lst (ns1.map V.int))) k2 = some (.lst (ns1.map V.int)) from upd_same)
      have hk4e := w5 k4 _ (show (upd (upd (upd (upd H14 k1 (.lst ((enc kO os1).map fun kv => kV kv.1))) k2 (.lst (ns1.map V.int))) k3 (.lst (bs1.map V.ref))) k4 (.lst ys)) k4 = some (.lst ys) from upd_same)
      have rv5 : RVs (upd (upd (upd (upd (upd H14 k1 (.lst ((enc kO os1).map fun kv => kV kv.1))) k2 (.lst (ns1.map V.int))) k3 (.lst (bs1.map V.ref))) k4 (.lst ys)) k5 (.tup [.ref k2, .ref k4])) (ys.map (pairAt (upd (upd (upd H14 k1 (.lst ((enc kO os1).map fun kv => kV kv.1))) k2 (.lst (ns1.map V.int))) k3 (.lst (bs1.map V.ref))))) ys :=
        (RVs.of fun v hv => rvk.at_ v (st2.perm.mem_iff.mp hv)).tl (TL.same (w4.trans w5))
      have eys : (ys.map (pairAt (upd (upd (upd H14 k1 (.lst ((enc kO os1).map fun kv => kV kv.1))) k2 (.lst (ns1.map V.int))) k3 (.lst (bs1.map V.ref))))).Perm (rs1.map (·.1)) := by
        have := st2.perm.map (pairAt (upd (upd (upd H14 k1 (.lst ((enc kO os1).map fun kv => kV kv.1))) k2 (.lst (ns1.map V.int))) k3 (.lst (bs1.map V.ref))))
        rw [rvk.pair] at this
        exact this
      have or5 : (ys.map (pairAt (upd (upd (upd H14 k1 (.lst ((enc kO os1).map fun kv => kV kv.1))) k2 (.lst (ns1.map V.int))) k3 (.lst (bs1.map V.ref))))).Pairwise lx := riseP_of (List.Pairwise.map _ (fun _ _ h => h) so2) (perm_nd eys B.t2.nd)
      have wall := ((w12.trans w3).trans w4).trans w5
      have hk5e : (upd (upd (upd (upd (upd H14 k1 (.lst ((enc kO os1).map fun kv => kV kv.1))) k2 (.lst (ns1.map V.int))) k3 (.lst (bs1.map V.ref))) k4 (.lst ys)) k5 (.tup [.ref k2, .ref k4])) k5 = some (.tup [.ref k2, .ref k4]) := upd_same
      revert hk2e hk4e rv5 eys or5 wall hk5e
      generalize (ys.map (pairAt (upd (upd (upd H14 k1 (.lst ((enc kO os1).map fun kv => kV kv.1))) k2 (.lst (ns1.map V.int))) k3 (.lst (bs1.map V.ref))))) = qs5
      generalize (upd (upd (upd (upd (upd H14 k1 (.lst ((enc kO os1).map fun kv => kV kv.1))) k2 (.lst (ns1.map V.int))) k3 (.lst (bs1.map V.ref))) k4 (.lst ys)) k5 (.tup [.ref k2, .ref k4])) = H15
      intro hk2e hk4e rv5 eys or5 wall hk5e
      have s915 := (s912.tr s1214).tr wall
      have s115 := s19.trans s915
      refine ⟨_, rfl, d, kvs, rfl, (cp s115).1, (cp s115).2.1, (cp s115).2.2.1, (cp s115).2.2.2, fun H16 e2 s16' n16 he2 => ?_⟩
      have s916 := s915.tr s16'
      refine ⟨_, rfl, t, _, _, _, rfl, rfl, SqT.of (s916 _ _ ht), at_of (j := 0) rfl rfl, e2, sv, fs, c, rfl, hF (s115.tr s16') he2, hsv.tl (TLs s916), cn, (s115.tr s16').tb tab1, fun H17 pc l1 l2 ns2 rs2 bs2 s17' C => ?_⟩
      have sx := (Sm.of (T := tG K) s16').trans s17'
      have en : ns2 = ns1 := strict_eq (fun x h => by omega) (fun x y h h' => by omega) C.o1 (rise_of so1 (perm_nd pm1 B.t1.nd)) fun n => by
        rw [C.m1, pm1.mem_iff, keys_oneO B.t1]
      have er : rs2 = qs5 := strict_eq lx_irr lx_asy C.o2 or5 fun r => by
        rw [C.m2, eys.mem_iff, keys_oneR B.t2]
      subst en er
      refine ⟨_, rfl, _, _, _, _, true, rfl, .ty _, .base (.tup C.pt), kit_ty (by decide +kernel), _, rfl, iteF ?_⟩
      refine ⟨_, rfl, pc, _, rfl, .inr (SqT.of C.pt), rfl, _, rfl, iteNS rfl ?_⟩
      refine ⟨_, rfl, _, rfl, dP ns2 rs2, dP ns2 rs2, dp_P C.pt C.h1 C.h2 C.rv, dp_P (sx _ _ hk5e) (sx _ _ hk2e) (sx _ _ hk4e) (rv5.tl (TLs sx)), shaped_P, shaped_P, ?_⟩
      rw [eqv_P]
      have sfin := s9.trans (s916.trans s17')
      exact ⟨_, rfl, iteF ⟨_, _, _, _, rfl, sfin, (s916.trans s17') _ _ h9⟩⟩
    rintro σ H9 ⟨v5, v6, v7, v8, rfl, s9, h9⟩
    have s19 := (Sm.of (T := tG K) s1).trans (s18.trans s9)
    refine ⟨_, rfl, a, sc, 1, rfl, ⟨s19.seq hS, hl⟩, by decide, fun r => ?_⟩
    refine ⟨_, _, rfl, rfl, ⟨by decide, by decide, by decide⟩, r, 91, 5, _, rfl, by decide, by decide, by decide +kernel, by decide +kernel, fun H10 lq qs s10 n10 e10 l10 b10 => ?_⟩
    obtain ⟨y0, y1, y2, y3, y4, rfl⟩ : ∃ y0 y1 y2 y3 y4 : Int, qs = [y0, y1, y2, y3, y4] := by
      match qs, l10 with
      | [a, b, c, d, e], _ => exact ⟨a, b, c, d, e, rfl⟩
    refine ⟨_, rfl, lq, _, _, _, rfl, rfl, SqL.of e10, at_of (j := 0) rfl rfl, _, _, rfl, rfl, (by show (0 : Int) < 16; decide), rfl, _, rfl, ?_⟩
    refine ite2 (fun _ => ?_) (fun _ => ?_)
    · exact k _
    · exact ⟨_, rfl, lq, _, y0, y1, y2, y3, y4, rfl, ⟨e10, rfl, rfl, rfl, rfl, rfl⟩, (s19.tr s10).tb tab, fun H10 _ => k H10⟩

end
/-! ### the head -/
def d_reach : Fh.Dx := ⟨fun K => (He.ga K "reach"), "reach", "reach", defArgs s_reach, defBody s_reach, defScope s_reach, [], []⟩
def d_greatest : Fh.Dx := ⟨fun K => (He.ga K "greatest"), "greatest", "greatest", defArgs s_greatest, defBody s_greatest, defScope s_greatest, [], []⟩
def d_law_is_integer : Fh.Dx := ⟨fun K => (He.ga K "_law_is_integer"), "_law_is_integer", "_law_is_integer", defArgs s_law_is_integer, defBody s_law_is_integer, defScope s_law_is_integer, [], []⟩
def d_law_cell : Fh.Dx := ⟨fun K => (He.ga K "_law_cell"), "_law_cell", "_law_cell", defArgs s_law_cell, defBody s_law_cell, defScope s_law_cell, [], []⟩
def d_law_row : Fh.Dx := ⟨fun K => (He.ga K "_law_row"), "_law_row", "_law_row", defArgs s_law_row, defBody s_law_row, defScope s_law_row, [], []⟩
def d_law_numbers : Fh.Dx := ⟨fun K => (He.ga K "_law_numbers"), "_law_numbers", "_law_numbers", defArgs s_law_numbers, defBody s_law_numbers, defScope s_law_numbers, [], []⟩
def d_law_content : Fh.Dx := ⟨fun K => (He.ga K "_law_content"), "_law_content", "_law_content", defArgs s_law_content, defBody s_law_content, defScope s_law_content, [], []⟩
def d_law_contents : Fh.Dx := ⟨fun K => (He.ga K "_law_contents"), "_law_contents", "_law_contents", defArgs s_law_contents, defBody s_law_contents, defScope s_law_contents, [], []⟩
def d_law_heap : Fh.Dx := ⟨fun K => (He.ga K "_law_heap"), "_law_heap", "_law_heap", defArgs s_law_heap, defBody s_law_heap, defScope s_law_heap, [], []⟩
def d_law_copy : Fh.Dx := ⟨fun K => (He.ga K "_law_copy"), "_law_copy", "_law_copy", defArgs s_law_copy, defBody s_law_copy, defScope s_law_copy, [], []⟩
def d_law_sources : Fh.Dx := ⟨fun K => (He.ga K "_law_sources"), "_law_sources", "_law_sources", defArgs s_law_sources, defBody s_law_sources, defScope s_law_sources, [], []⟩
def d_law_value : Fh.Dx := ⟨fun K => (He.ga K "_law_value"), "_law_value", "_law_value", defArgs s_law_value, defBody s_law_value, defScope s_law_value, [], []⟩
def d_law_is_high : Fh.Dx := ⟨fun K => (He.ga K "_law_is_high"), "_law_is_high", "_law_is_high", defArgs s_law_is_high, defBody s_law_is_high, defScope s_law_is_high, [], []⟩
def d_law_is_explained : Fh.Dx := ⟨fun K => (He.ga K "_law_is_explained"), "_law_is_explained", "_law_is_explained", defArgs s_law_is_explained, defBody s_law_is_explained, defScope s_law_is_explained, [], []⟩
def d_law_is_answer : Fh.Dx := ⟨fun K => (He.ga K "_law_is_answer"), "_law_is_answer", "_law_is_answer", defArgs s_law_is_answer, defBody s_law_is_answer, defScope s_law_is_answer, [], []⟩
def d_law_long_heap : Fh.Dx := ⟨fun K => (He.ga K "_law_long_heap"), "_law_long_heap", "_law_long_heap", defArgs s_law_long_heap, defBody s_law_long_heap, defScope s_law_long_heap, [], []⟩
def d_law_place : Fh.Dx := ⟨fun K => (He.ga K "_law_place"), "_law_place", "_law_place", defArgs s_law_place, defBody s_law_place, defScope s_law_place, [], []⟩
def d_law_long_rows : Fh.Dx := ⟨fun K => (He.ga K "_law_long_rows"), "_law_long_rows", "_law_long_rows", defArgs s_law_long_rows, defBody s_law_long_rows, defScope s_law_long_rows, [], []⟩
def d_law : Fh.Dx := ⟨fun K => (He.ga K "law"), "law", "law", defArgs s_law, defBody s_law, defScope s_law, [], []⟩
def fn : List Fh.Dx := [d_reach, d_greatest, d_law_is_integer, d_law_cell, d_law_row, d_law_numbers, d_law_content, d_law_contents, d_law_heap, d_law_copy, d_law_sources, d_law_value, d_law_is_high, d_law_is_explained, d_law_is_answer, d_law_long_heap, d_law_place, d_law_long_rows, d_law]
def ex : List (PySem.W.Frag → Bool) := []
def fa : List He.Fa := [.glo "reach", .glo "greatest", .glo "_law_is_integer", .glo "_law_cell", .glo "_law_row", .glo "_law_numbers", .glo "_law_content", .glo "_law_contents", .glo "_law_heap", .glo "_law_copy", .glo "_law_sources", .glo "_law_value", .glo "_law_is_high", .glo "_law_is_explained", .glo "_law_is_answer", .glo "_law_long_heap", .glo "_law_place", .glo "_law_long_rows", .glo "law", .free "sorted", .free "isinstance", .free "tuple", .free "int", .free "bool", .free "len", .free "range", .free "list", .free "dict"]
abbrev R : PySem.W.OpenRow := PySem.W.OpenLaw.row PySem.Challenge.rw_farheap_k07_whole_greatest_is_least
def tf : List He.Defn := [("greatest", none)]
abbrev hk : PySem.W.Hook := Fh.hookY 7 fa ex fn tf
def ob (s : PySem.W.SharedT) : He.AlD × Bool := Fh.obsY fa ex fn tf 7 (HandSHeadRun.getT s)
theorem ob_eq (s : PySem.W.SharedT) : ob s = hk.obs s.abs := Fh.obsY_eq (HandSHeadRun.getT_eq s)
theorem run (w : World) : HandSHeadRun.RunEq R (PySem.W.view R.prog [20]) hk ob 3000 ["reach", "greatest", "_law_is_integer", "_law_cell", "_law_row", "_law_numbers", "_law_content", "_law_contents", "_law_heap", "_law_copy", "_law_sources", "_law_value", "_law_is_high", "_law_is_explained", "_law_is_answer", "_law_long_heap", "_law_place", "_law_long_rows"] w := by
  intro os
  kernel_rfl
theorem mkTxt {K : PySem.W.Frag} {h base : Heap} {mg : Str → Option Value} (X : K.In h) (G : h.Ns mainGlobals mg) (c : Fh.SaysX fa ex fn K) (tb : LamX.TabB base mg (He.cT K ("greatest", none)).1 (He.cT K ("greatest", none)).2) : Nonempty (Txt K mg base) := by
  obtain ⟨fd_reach, F_reach⟩ := c.def_ 0 (d := d_reach) rfl
  obtain ⟨fd_greatest, F_greatest⟩ := c.def_ 1 (d := d_greatest) rfl
  obtain ⟨fd_law_is_integer, F_law_is_integer⟩ := c.def_ 2 (d := d_law_is_integer) rfl
  obtain ⟨fd_law_cell, F_law_cell⟩ := c.def_ 3 (d := d_law_cell) rfl
  obtain ⟨fd_law_row, F_law_row⟩ := c.def_ 4 (d := d_law_row) rfl
  obtain ⟨fd_law_numbers, F_law_numbers⟩ := c.def_ 5 (d := d_law_numbers) rfl
  obtain ⟨fd_law_content, F_law_content⟩ := c.def_ 6 (d := d_law_content) rfl
  obtain ⟨fd_law_contents, F_law_contents⟩ := c.def_ 7 (d := d_law_contents) rfl
  obtain ⟨fd_law_heap, F_law_heap⟩ := c.def_ 8 (d := d_law_heap) rfl
  obtain ⟨fd_law_copy, F_law_copy⟩ := c.def_ 9 (d := d_law_copy) rfl
  obtain ⟨fd_law_sources, F_law_sources⟩ := c.def_ 10 (d := d_law_sources) rfl
  obtain ⟨fd_law_value, F_law_value⟩ := c.def_ 11 (d := d_law_value) rfl
  obtain ⟨fd_law_is_high, F_law_is_high⟩ := c.def_ 12 (d := d_law_is_high) rfl
  obtain ⟨fd_law_is_explained, F_law_is_explained⟩ := c.def_ 13 (d := d_law_is_explained) rfl
  obtain ⟨fd_law_is_answer, F_law_is_answer⟩ := c.def_ 14 (d := d_law_is_answer) rfl
  obtain ⟨fd_law_long_heap, F_law_long_heap⟩ := c.def_ 15 (d := d_law_long_heap) rfl
  obtain ⟨fd_law_place, F_law_place⟩ := c.def_ 16 (d := d_law_place) rfl
  obtain ⟨fd_law_long_rows, F_law_long_rows⟩ := c.def_ 17 (d := d_law_long_rows) rfl
  obtain ⟨fd_law, F_law⟩ := c.def_ 18 (d := d_law) rfl
  exact ⟨⟨tb, He.glo_ok X G (c.fact 0 (f := .glo "reach") rfl), He.glo_ok X G (c.fact 1 (f := .glo "greatest") rfl), He.glo_ok X G (c.fact 2 (f := .glo "_law_is_integer") rfl), He.glo_ok X G (c.fact 3 (f := .glo "_law_cell") rfl), He.glo_ok X G (c.fact 4 (f := .glo "_law_row") rfl), He.glo_ok X G (c.fact 5 (f := .glo "_law_numbers") rfl), He.glo_ok X G (c.fact 6 (f := .glo "_law_content") rfl), He.glo_ok X G (c.fact 7 (f := .glo "_law_contents") rfl), He.glo_ok X G (c.fact 8 (f := .glo "_law_heap") rfl), He.glo_ok X G (c.fact 9 (f := .glo "_law_copy") rfl), He.glo_ok X G (c.fact 10 (f := .glo "_law_sources") rfl), He.glo_ok X G (c.fact 11 (f := .glo "_law_value") rfl), He.glo_ok X G (c.fact 12 (f := .glo "_law_is_high") rfl), He.glo_ok X G (c.fact 13 (f := .glo "_law_is_explained") rfl), He.glo_ok X G (c.fact 14 (f := .glo "_law_is_answer") rfl), He.glo_ok X G (c.fact 15 (f := .glo "_law_long_heap") rfl), He.glo_ok X G (c.fact 16 (f := .glo "_law_place") rfl), He.glo_ok X G (c.fact 17 (f := .glo "_law_long_rows") rfl), He.glo_ok X G (c.fact 18 (f := .glo "law") rfl), He.free_ok X G (c.fact 19 (f := .free "sorted") rfl), He.free_ok X G (c.fact 20 (f := .free "isinstance") rfl), He.free_ok X G (c.fact 21 (f := .free "tuple") rfl), He.free_ok X G (c.fact 22 (f := .free "int") rfl), He.free_ok X G (c.fact 23 (f := .free "bool") rfl), He.free_ok X G (c.fact 24 (f := .free "len") rfl), He.free_ok X G (c.fact 25 (f := .free "range") rfl), He.free_ok X G (c.fact 26 (f := .free "list") rfl), He.free_ok X G (c.fact 27 (f := .free "dict") rfl), fd_reach, F_reach, fd_greatest, F_greatest, fd_law_is_integer, F_law_is_integer, fd_law_cell, F_law_cell, fd_law_row, F_law_row, fd_law_numbers, F_law_numbers, fd_law_content, F_law_content, fd_law_contents, F_law_contents, fd_law_heap, F_law_heap, fd_law_copy, F_law_copy, fd_law_sources, F_law_sources, fd_law_value, F_law_value, fd_law_is_high, F_law_is_high, fd_law_is_explained, F_law_is_explained, fd_law_is_answer, F_law_is_answer, fd_law_long_heap, F_law_long_heap, fd_law_place, F_law_place, fd_law_long_rows, F_law_long_rows, fd_law, F_law⟩⟩
theorem facts {l : PySem.W.OpenLaw} (hl : l = PySem.Challenge.rw_farheap_k07_whole_greatest_is_least) {w : World} {K : PySem.W.Frag} {h : Heap} {mg : Str → Option Value} {f : Addr} (X : K.In h) (G : h.Ns mainGlobals mg) (hfa : mg ("law" : Str) = some (.ref f)) (c : Fh.SaysY fa ex fn tf h K) : LamX.LawAtS l w K CX0 9 63 "script" mg f h := by
  have e : f = He.ga K "law" := by
    have g := He.glo_ok X G (c.x.fact 18 (f := .glo "law") rfl)
    exact Value.ref.inj (Option.some.inj (hfa.symm.trans g))
  subst e
  obtain ⟨fd, F⟩ := c.x.def_ 18 (d := d_law) rfl
  have b := FunD.bindsA (ps := ["script"]) F fun _ _ _ _ _ _ us hl => match us, hl with | [_], _ => rfl
  refine ⟨fd, [He.cT K ("greatest", none)], spLaw K, fun p hp => ?_, fun p hp => ?_, fun p hp => ?_, fun s v => b s [v] rfl, fun H a ns h1 _ hT hS => ⟨a, ns, rfl, hS, h1, LamX.TabS.nil (hT _ (List.mem_singleton.mpr rfl)), fun _ => rfl⟩, fun base hK hG hB => ?_⟩
  · rw [List.mem_singleton.mp hp]
    exact c.nil _ (List.mem_singleton.mpr rfl)
  · rw [List.mem_singleton.mp hp]
    exact c.out _ (List.mem_singleton.mpr rfl)
  · rw [List.mem_singleton.mp hp]
    exact PySem.W.codeHd_of_K X (c.hd _ (List.mem_singleton.mpr rfl))
  · subst hl
    obtain ⟨T⟩ := mkTxt X G c.x (hB _ (List.mem_singleton.mpr rfl))
    have e2 : fd = T.fd_law := by
      obtain ⟨_, _, _, _, _, _, _, _, _, _, _, l1, _⟩ := F.ex
      obtain ⟨_, _, _, _, _, _, _, _, _, _, _, l2, _⟩ := T.F_law.ex
      have q := l1.symm.trans l2
      injection q with q
      injection q with _ _ q
      injection q
    rw [e2]
    exact ok_law T
end K07
open PySem PySem.W PySem.Calls PyProof.Rows
set_option maxRecDepth 100000 in
set_option maxHeartbeats 0 in
theorem PySem.Challenge.cw_farheap_k07_whole_greatest_is_least_holds : PySem.Challenge.rw_farheap_k07_whole_greatest_is_least.Holds := by
  w_on; o_law
  refine HandSHeadRun.head_any (r := OpenLaw.row PySem.Challenge.rw_farheap_k07_whole_greatest_is_least) (q := view (OpenLaw.row PySem.Challenge.rw_farheap_k07_whole_greatest_is_least).prog [20]) (H := K07.hk) (ob := K07.ob) (M := 3000) (loose := ["reach", "greatest", "_law_is_integer", "_law_cell", "_law_row", "_law_numbers", "_law_content", "_law_contents", "_law_heap", "_law_copy", "_law_sources", "_law_value", "_law_is_high", "_law_is_explained", "_law_is_answer", "_law_long_heap", "_law_place", "_law_long_rows"]) (d := HandSHeadRun.topDef (OpenLaw.row PySem.Challenge.rw_farheap_k07_whole_greatest_is_least).prog 20) (kwd := []) K07.ob_eq
    (by kernel_rfl) (fun s => by kernel_rfl) K07.run (by kernel_rfl) (by kernel_rfl) (by kernel_rfl) (by rfl) (by first | assumption | decide +kernel) (by decide +kernel) ⟨rfl, rfl, rfl, rfl, rfl, by decide +kernel⟩ ?hw ?hc
  case hw => w_witness2
  case hc =>
    refine LamX.walk_ofTsE (l := PySem.Challenge.rw_farheap_k07_whole_greatest_is_least) (n := 63) (k := 9) (x := "script") (CX := fun _ => L2.CX0) rfl (by decide) (by kernel_rfl) ⟨rfl, by decide, by decide⟩ ?F (fun _ _ _ _ _ z => z)
    intro w mg fa h Y G hmg0
    obtain ⟨K, KX, c⟩ := Y
    have hmg : mg ("law" : PySem.Str) = some (.ref fa) := by
      have e : (HandSHeadRun.topDef (OpenLaw.row PySem.Challenge.rw_farheap_k07_whole_greatest_is_least).prog 20).name = ("law" : PySem.Str) := by kernel_rfl
      rw [← e]
      exact hmg0
    exact ⟨K, KX, K07.facts rfl KX G hmg c⟩
#print axioms PySem.Challenge.cw_farheap_k07_whole_greatest_is_least_holds
