import PyProof.Rows.All
import Wide.All
import OpenK.AllK
import Wide.FinOn
import KE.KStateDown
import HandS.Base
import HandS.Call
import HandS.Exc
import HandS.Property
import HandS.Defaults
import HandS.Head0
import HandS.Head1
import HandS.Head2
import HandS.HeadEnd
import HandS.HeadHook1
import HandS.HeadHook2
import HandS.List
import HandS.Words
import KE.KOwnIter
import HandS.More
import HandS.IterNext
import HandS.IterVal
import HandS.Flow
import KE.GoesEnumKw
import KE.KDictItemsList
import HandS.Iter
import HandS.ExcOwn
import HandS.ExcIs
import HandS.IsInst
import HandS.WordsExc
import HandS.ForMost
import HandS.Codes
import HandS.Comp
import HandS.Dict
import HandS.FStr
import HandS.Small
import PySem.Challenge.RW_farheap_k04_whole_letters_once_in_order
set_option Elab.async false
set_option linter.all false
set_option maxRecDepth 100000
set_option maxHeartbeats 4000000
/-! The head's facts, with facts of one's own (a Bool of the written part) and defs found by a way of one's own (a property's getter). -/
namespace Fh
open PySem PySem.Spec PyProof.Rows L2 He
/-- one def: where it stands, its text, its defaults -/
structure Dx where
  ad : PySem.W.Frag → Addr
  name : Str
  qual : Str
  params : Arguments
  body : List Stmt
  scope : Scope
  dfl : List Dv := []
  kwd : List (Str × Dv) := []
def fnX (K : PySem.W.Frag) (a : Addr) : FnW := match K.lookup a with
  | some ⟨_, _, .func fd, _⟩ => some (fd.name, fd.qualname, fd.params, fd.body, fd.scope, fd.globals, fd.closure, fd.builtins)
  | _ => none
def Dx.val (d : Dx) : FnW := some (d.name, d.qual, d.params, .stmts d.body, d.scope, mainGlobals, [], builtinsNs)
def Dx.dvs (K : PySem.W.Frag) (d : Dx) : List V := d.dfl.map (Dv.v K)
def Dx.kws (K : PySem.W.Frag) (d : Dx) : List (Str × V) := d.kwd.map fun q => (q.1, q.2.v K)
def Dx.ok (K : PySem.W.Frag) (d : Dx) : Bool := PySem.W.keepIn K (.ref (d.ad K)) && (match K.lookup (d.ad K) with
  | some ⟨_, _, .func fd, _⟩ => PySem.W.codeIn K fd.code d.qual && (dflB K fd.defaults (d.dvs K) && kwdB K fd.kwdefaults (d.kws K))
  | _ => false)
theorem Dx.funD {K : PySem.W.Frag} {d : Dx} (e : fnX K (d.ad K) = d.val) (c : d.ok K = true) : ∃ fd, FunD K d.name d.qual d.params d.body d.scope (d.dvs K) (d.kws K) (d.ad K) fd := by
  obtain ⟨kp, c2⟩ := ba c
  unfold fnX at e
  cases q : K.lookup (d.ad K) with
  | none =>
    rw [q] at c2
    cases c2
  | some o =>
    obtain ⟨oc, od, dt, osl⟩ := o
    rw [q] at c2 e
    cases dt with
    | func fd =>
      obtain ⟨n1, n2, n3, n4, n5, n6, n7, n8, n9, n10, n11, n12, n13, n14, n15⟩ := fd
      have e2 : (some (n1, n2, n3, n4, n5, n6, n7, n15) : FnW) = some (d.name, d.qual, d.params, .stmts d.body, d.scope, mainGlobals, [], builtinsNs) := e
      simp only [Option.some.injEq, Prod.mk.injEq] at e2
      obtain ⟨h1, h2, h3, h4, h5, h6, h7, h8⟩ := e2
      subst h1 h2 h3 h4 h5 h6 h7 h8
      have c3 : (PySem.W.codeIn K n13 d.qual && (dflB K n8 (d.dvs K) && kwdB K n9 (d.kws K))) = true := c2
      obtain ⟨k1, k2⟩ := ba c3
      obtain ⟨k3, k4⟩ := ba k2
      exact ⟨_, ⟨oc, od, n8, n9, n10, n11, n12, n13, n14, osl, rfl, q, k1, dflB_ok k3, kwdB_ok k4⟩, kp⟩
    | _ => cases c2
def obsX (fa : List Fa) (ex : List (PySem.W.Frag → Bool)) (fn : List Dx) (K : PySem.W.Frag) : AlD := ((fa.all fun f => f.ok K) && ((ex.all fun f => f K) && fn.all fun d => d.ok K), fn.map fun d => fnX K (d.ad K))
def valX (fn : List Dx) : AlD := (true, fn.map Dx.val)
def SaysX (fa : List Fa) (ex : List (PySem.W.Frag → Bool)) (fn : List Dx) (K : PySem.W.Frag) : Prop := obsX fa ex fn K = valX fn
def obsXG (n : Nat) (fa : List Fa) (ex : List (PySem.W.Frag → Bool)) (fn : List Dx) (g : Addr → Option Obj) : AlD := obsX fa ex fn (frG g (asD g n))
def hookX (n : Nat) (fa : List Fa) (ex : List (PySem.W.Frag → Bool)) (fn : List Dx) : PySem.W.Hook where
  α := AlD
  obs := fun s => obsXG n fa ex fn s.heap.get?
  val := fun _ => valX fn
  says := fun _ h => ∃ K : PySem.W.Frag, K.In h ∧ SaysX fa ex fn K
  of := fun _ _ e => ⟨_, frG_in, e⟩
  keeps := fun _ _ _ ⟨K, hK, c⟩ k => ⟨K, PySem.W.Frag.In.keeps hK k, c⟩
theorem obsXG_eq {n : Nat} {fa : List Fa} {ex : List (PySem.W.Frag → Bool)} {fn : List Dx} {g : Addr → Option Obj} {s : Shared} (h : ∀ a, g a = s.heap.get? a) : obsXG n fa ex fn g = (hookX n fa ex fn).obs s := by
  have e : g = s.heap.get? := funext h
  rw [e] <;> rfl
section
variable {fa : List Fa} {ex : List (PySem.W.Frag → Bool)} {fn : List Dx} {K : PySem.W.Frag}
theorem SaysX.all (c : SaysX fa ex fn K) : ((fa.all fun f => f.ok K) && ((ex.all fun f => f K) && fn.all fun d => d.ok K)) = true := congrArg (fun z : AlD => z.1) c
theorem SaysX.fact (c : SaysX fa ex fn K) (i : Nat) {f : Fa} (h : fa[i]? = some f := by rfl) : f.ok K = true := List.all_eq_true.mp (ba c.all).1 f (List.mem_of_getElem? h)
theorem SaysX.ext (c : SaysX fa ex fn K) (i : Nat) {f : PySem.W.Frag → Bool} (h : ex[i]? = some f := by rfl) : f K = true := List.all_eq_true.mp (ba (ba c.all).2).1 f (List.mem_of_getElem? h)
theorem SaysX.def_ (c : SaysX fa ex fn K) (i : Nat) {d : Dx} (h : fn[i]? = some d := by rfl) : ∃ fd, FunD K d.name d.qual d.params d.body d.scope (d.dvs K) (d.kws K) (d.ad K) fd := by
  have e : fn.map (fun d => fnX K (d.ad K)) = fn.map Dx.val := congrArg (fun z : AlD => z.2) c
  have e2 : (fn.map fun d => fnX K (d.ad K))[i]? = (fn.map Dx.val)[i]? := by rw [e]
  rw [List.getElem?_map, List.getElem?_map, h] at e2
  exact Dx.funD (Option.some.inj e2) (List.all_eq_true.mp (ba (ba c.all).2).2 d (List.mem_of_getElem? h))
end
/-! ### a property of an own class -/
/-- its getter -/
def pgA (K : PySem.W.Frag) (C : Addr) (f : Str) : Addr := match PySem.W.recIn K (ma K C f) "property" with
  | some (.ref g :: _) => g
  | _ => 0
def propB (C f : Str) (K : PySem.W.Frag) : Bool := eqO (PySem.W.findIn K (.ref (ga K C)) f) (some (some (.ref (ma K (ga K C) f)))) &&
  (eqO (PySem.W.specialIn K (.ref (ma K (ga K C) f)) "__get__") (some (some (.builtin "property.__get__"))) && (decide (PySem.W.takesIn K (.ref (ma K (ga K C) f)) = some true) && (match PySem.W.recIn K (ma K (ga K C) f) "property" with
  | some (.ref _ :: _) => true
  | _ => false)))
theorem prop_ok {K : PySem.W.Frag} {C f : Str} (h : propB C f K = true) : PropOf K (ga K C) f (ma K (ga K C) f) (pgA K (ga K C) f) := by
  obtain ⟨h1, h⟩ := ba h
  obtain ⟨h2, h⟩ := ba h
  obtain ⟨h3, h4⟩ := ba h
  refine ⟨eqO_ok h1, eqO_ok h2, of_decide_eq_true h3, ?_⟩
  unfold pgA
  cases q : PySem.W.recIn K (ma K (ga K C) f) "property" with
  | none =>
    rw [q] at h4
    cases h4
  | some l =>
    rw [q] at h4
    cases l with
    | nil => cases h4
    | cons v r =>
      cases v with
      | ref g => exact ⟨r, rfl⟩
      | _ => cases h4
end Fh

/-! Data made of tuples: it stays as it is while lists and objects change. -/
namespace Fh
open PySem PySem.Spec PyProof.Rows L2
mutual
inductive TD (H : Hp) : V → PyData → Prop
  | non : TD H .non .none
  | bl (b : Bool) : TD H (.bl b) (.bool b)
  | int (i : Int) : TD H (.int i) (.int i)
  | str (x : Str) (ok : PyData.strOk x = true) : TD H (.str x) (.str x)
  | tup {a : Addr} {xs : List V} {ds : List PyData} : H a = some (.tup xs) → TDs H xs ds → TD H (.ref a) (.tuple ds)
inductive TDs (H : Hp) : List V → List PyData → Prop
  | nil : TDs H [] []
  | cons {v : V} {vs : List V} {d : PyData} {ds : List PyData} : TD H v d → TDs H vs ds → TDs H (v :: vs) (d :: ds)
end
/-- the tuples stand as they stood -/
def TSame (H H' : Hp) : Prop := ∀ b xs, H b = some (.tup xs) → H' b = some (.tup xs)
theorem TSame.refl (H : Hp) : TSame H H := fun _ _ h => h
theorem TSame.trans {H H1 H2 : Hp} (a : TSame H H1) (b : TSame H1 H2) : TSame H H2 := fun c o h => b c o (a c o h)
theorem TSame.of {H H' : Hp} (s : Same H H') : TSame H H' := fun b xs h => s b _ h
mutual
theorem TD.mono {H H' : Hp} (s : TSame H H') : ∀ {v : V} {d : PyData}, TD H v d → TD H' v d
  | _, _, .non => .non
  | _, _, .bl b => .bl b
  | _, _, .int i => .int i
  | _, _, .str x ok => .str x ok
  | _, _, .tup h hs => .tup (s _ _ h) (TDs.mono s hs)
theorem TDs.mono {H H' : Hp} (s : TSame H H') : ∀ {vs : List V} {ds : List PyData}, TDs H vs ds → TDs H' vs ds
  | _, _, .nil => .nil
  | _, _, .cons h hs => .cons (TD.mono s h) (TDs.mono s hs)
end
mutual
theorem TD.dp {K : PySem.W.Frag} {H : Hp} : ∀ {v : V} {d : PyData}, TD H v d → Dp K H v d
  | _, _, .non => .non
  | _, _, .bl b => .bl b
  | _, _, .int i => .int i
  | _, _, .str x _ => .str x
  | _, _, .tup h hs => .tup (SqT.of h) (TDs.dp hs)
theorem TDs.dp {K : PySem.W.Frag} {H : Hp} : ∀ {vs : List V} {ds : List PyData}, TDs H vs ds → DpAll K H vs ds
  | _, _, .nil => .nil
  | _, _, .cons h hs => .cons (TD.dp h) (TDs.dp hs)
end
mutual
theorem TD.lay {H : Hp} : ∀ {v : V} {d : PyData}, TD H v d → d.canLay0 = true
  | _, _, .non => rfl
  | _, _, .bl b => rfl
  | _, _, .int i => rfl
  | _, _, .str x ok => by simp only [PyData.canLay0]; exact ok
  | _, _, .tup _ hs => by rw [PyData.canLay0]; exact TDs.lay hs
theorem TDs.lay {H : Hp} : ∀ {vs : List V} {ds : List PyData}, TDs H vs ds → PyData.canLayAll0 ds = true
  | _, _, .nil => rfl
  | _, _, .cons h hs => by rw [PyData.canLayAll0, TD.lay h, TDs.lay hs]; rfl
end
/-- a tuple of data, at most n deep -/
def TupD (H : Hp) (n : Nat) (v : V) : Prop := ∃ (a : Addr) (xs : List V) (ds : List PyData), v = .ref a ∧ H a = some (.tup xs) ∧ TDs H xs ds ∧ (PyData.tuple ds).depth ≤ n
theorem TupD.mono {H H' : Hp} (s : TSame H H') {n : Nat} {v : V} (h : TupD H n v) : TupD H' n v := by
  obtain ⟨a, xs, ds, e, h1, h2, h3⟩ := h
  exact ⟨a, xs, ds, e, s _ _ h1, TDs.mono s h2, h3⟩
theorem shaped_of {d : PyData} (h1 : d.canLay0 = true) (h2 : d.depth ≤ 64) : SeqAt.shaped d = true := by
  unfold SeqAt.shaped
  rw [h1, decide_eq_true h2]
  rfl
theorem TupD.dat {K : PySem.W.Frag} {H : Hp} {n : Nat} {v : V} (h : TupD H n v) (hn : n ≤ 64) : ∃ d, Dp K H v d ∧ SeqAt.shaped d = true ∧ PyData.eqv d d = true := by
  obtain ⟨a, xs, ds, rfl, h1, h2, h3⟩ := h
  have td : TD H (.ref a) (.tuple ds) := .tup h1 h2
  exact ⟨_, td.dp, shaped_of td.lay (Nat.le_trans h3 hn), SeqAt.eqv_refl _ td.lay⟩
/-- a new tuple of data -/
theorem TupD.new {H : Hp} {n : Nat} {a : Addr} {xs : List V} {ds : List PyData} (ha : H a = none) (hs : TDs H xs ds) (hd : (PyData.tuple ds).depth ≤ n) : TupD (upd H a (.tup xs)) n (.ref a) :=
  ⟨a, xs, ds, rfl, upd_same, TDs.mono (fun b ys e => by rw [upd_ne (ne_of_none e ha)]; exact e) hs, hd⟩
theorem Same.new {H : Hp} {a : Addr} {o : HO} (ha : H a = none) : Same H (upd H a o) := fun b u e => by
  rw [upd_ne (ne_of_none e ha)]
  exact e
theorem Same.none' {H H' : Hp} (s : Same H H') {a : Addr} (h : H' a = none) : H a = none := s.free h
/-- addresses of objects, all different -/
structure Alive (H : Hp) (xs : List Addr) : Prop where
  nd : xs.Nodup
  at_ : ∀ b ∈ xs, ∃ o, H b = some o
theorem Alive.nil {H : Hp} : Alive H [] := ⟨List.nodup_nil, fun b h => by cases h⟩
theorem Alive.same {H H' : Hp} {xs : List Addr} (A : Alive H xs) (s : Same H H') : Alive H' xs := ⟨A.nd, fun b hb => by
  obtain ⟨o, e⟩ := A.at_ b hb
  exact ⟨o, s _ _ e⟩⟩
theorem Alive.cons {H H' : Hp} {xs : List Addr} {c : Addr} {o : HO} (A : Alive H xs) (hc : H c = none) (s : Same H H') (h : H' c = some o) : Alive H' (c :: xs) := by
  refine ⟨List.nodup_cons.mpr ⟨fun hm => ?_, A.nd⟩, fun b hb => ?_⟩
  · obtain ⟨u, e⟩ := A.at_ c hm
    rw [hc] at e
    cases e
  · rcases List.mem_cons.mp hb with e | hb
    · rw [e]
      exact ⟨o, h⟩
    · obtain ⟨u, e⟩ := A.at_ b hb
      exact ⟨u, s _ _ e⟩
theorem Alive.new {H : Hp} {xs : List Addr} {c : Addr} {o : HO} (A : Alive H xs) (hc : H c = none) : Alive (upd H c o) (c :: xs) := A.cons hc (Same.new hc) upd_same
/-- a list of two, by place -/
theorem two_at {α : Type} (f : Nat → α) {j : Nat} (hj : j < 2) : [f 0, f 1][j]? = some (f j) := by
  match j, hj with
  | 0, _ => rfl
  | 1, _ => rfl
end Fh

/-! len(o), for x in o, of an own class whose __len__ gives a number, whose __iter__ gives a list's iterator. -/
namespace Fh
open PySem PySem.Spec PyProof.Rows L2
section
variable {X : Cx} {CX : CXT} {k : Nat} {C f : Addr} {fd : FuncData} {sp : Sp} {E : XK}
/-- len(o) -/
theorem call_lenO (cl : Cls X.K C) (hm : Meth X.K C "__len__" f) (F : FnOk X.prog X.w X.K X.mg X.base CX k f fd ["self"] sp) (hr : Room (k + 1) X.A) (hb : Binds X.K fd ["self"] []) (hx : Passes CX X E) :
    CallR X (.builtin "len") (fun xs H Q => ∃ (a dx : Addr) (fs : List (Str × V)), xs = [.ref a] ∧ H a = some (.ins C dx fs) ∧ sp [.ref a] H (fun v H' => ∃ n : Int, v = .int n ∧ 0 ≤ n ∧ n < 2 ^ 63 ∧ Q (.int n) H') E) := by
  intro pins s σ H xs us Q I r h
  obtain ⟨a, dx, fs, rfl, ha, hq⟩ := h
  obtain ⟨u, rfl, ru⟩ := vals1 r
  cases ru
  obtain ⟨mA, J, _⟩ := ins_get I.hok ha
  obtain ⟨od, J, _⟩ := J.look
  obtain ⟨m0, hF⟩ := I.fr
  refine PySem.W.len_K hF I.ok.mod.kin J hm.at_ hm.fn ?_
  have hl := F.len _ _ _ _ hq
  have b := hb s [.ref a] I.kIn rfl
  refine wpAny_call (codeAny_mono (F.run X.A.in1 X.stack s H ⟨[.ref a], []⟩ [.ref a] [.ref a] _ E hr.in1 I.env0.in1 b (.cons rfl .nil) hq) fun r s' hq' => ?_)
  cases r with
  | error e => exact hx pins σ H s e s' I hq'
  | ok fl =>
    cases fl with
    | next => exact False.elim hq'
    | brk => exact False.elim hq'
    | cont => exact False.elim hq'
    | ret u =>
      obtain ⟨v, H', I', rv, n, rfl, h0, h1, q⟩ := I.after hq'
      obtain ⟨t, rfl⟩ := (show ∃ t, u = Value.int n t from rv)
      exact ⟨⟨h0, h1⟩, .int n, H', I'.tok _, ⟨_, rfl⟩, q⟩
end
/-- the list's iterator at it has ended -/
theorem pyNext_over {prog : Program} {w : World} {A : Around} {E : Value → Shared → Prop} {s : Shared} {it l : Addr} {i : Nat} {items : Array Value} {Q : Option Value → Shared → Prop} (hh : A.handled = none)
    (ho : s.heap.get? it = some (GNX.itObj l i)) (hl : s.heap.IsList l items) (hx : items[i]? = none)
    (hQ : ∀ h1 h', h1.get? it = some (GNX.itEnd i) → Heap.SameBut it s.heap h1 → (∀ b o, h1.get? b = some o → h'.get? b = some o) → Q none { s with heap := h' }) : wpAny (model prog w) A (pyNext (.ref it)) Q E s := by
  have hT : s.TypeIs (.ref it) "list_iterator" := ⟨_, ho, rfl⟩
  unfold pyNext
  refine wpAny_bind (wpAny_attempt (wpAny_callSpecial?_slot (name := Str.ofString "__next__") hT slot_listiter_next
    (wpAny_call_entry slot_listiter_next hT entry_listiter_next ?_ (args_listiter_next _))))
  refine wpAny_mono (Q := fun fin s' => ∃ v, fin = .done (.ret v) ∧ False) (GNX.next_end (A := A) hh ho hl hx fun h1 h' e vs e1 sb k ne he hv => ?_) (fun fin s' h => by obtain ⟨_, _, z⟩ := h; exact z.elim) fun _ _ z => z
  refine wpAny_bind (wpAny_isInstance (T := "StopIteration") (b := true) ⟨_, he, rfl⟩ isSubtype_stop ?_)
  exact wpAny_pure (hQ h1 h' e1 sb k)
theorem pyNext_next {prog : Program} {w : World} {A : Around} {E : Value → Shared → Prop} {s : Shared} {it l : Addr} {i : Nat} {items : Array Value} {x : Value} {Q : Option Value → Shared → Prop}
    (ho : s.heap.get? it = some (GNX.itObj l i)) (hl : s.heap.IsList l items) (hx : items[i]? = some x)
    (hQ : ∀ h', h'.get? it = some (GNX.itObj l (i + 1)) → Heap.SameBut it s.heap h' → Q (some x) { s with heap := h' }) : wpAny (model prog w) A (pyNext (.ref it)) Q E s := by
  have hT : s.TypeIs (.ref it) "list_iterator" := ⟨_, ho, rfl⟩
  unfold pyNext
  refine wpAny_bind (wpAny_attempt (wpAny_callSpecial?_slot (name := Str.ofString "__next__") hT slot_listiter_next
    (wpAny_call_entry slot_listiter_next hT entry_listiter_next ?_ (args_listiter_next _))))
  refine wpAny_mono (GNX.next_item (Q := fun v s' => v = x ∧ Q (some x) s') ho hl hx fun h' e sb => ⟨rfl, hQ h' e sb⟩) (fun fin s' h => ?_) fun _ _ z => z
  obtain ⟨v, e, ev, q⟩ := h
  subst ev
  exact ⟨_, e, wpAny_pure q⟩
/-- for x in o: __iter__'s promise gives an iterator of the list at l; a turn: the iterator moves on, the item, the body -/
def tForO (K : PySem.W.Frag) (C : Addr) (sp : Sp) (E : XK) (te : TE) (g : TG) (tb : TS) : TS := fun D σ H => te σ H fun x H1 => ∃ (a dx : Addr) (fs : List (Str × V)), x = .ref a ∧ H1 a = some (.ins C dx fs) ∧
  sp [.ref a] H1 (fun v H2 => ∃ it l, v = .ref it ∧ H2 it = some (ItO l it 0) ∧ ∃ W : Nat → Nat → L2.St → Hp → Prop, (∃ m, W 0 m σ H2) ∧ ∀ i m σ H, W i m σ H → H it = some (ItO l it i) ∧ ∃ xs, SqL K H l xs ∧
    ((xs.length ≤ i ∧ D.nx σ (upd H it (ItE it i))) ∨ ∃ x, xs[i]? = some x ∧ ∃ N : L2.St → Hp → Prop, (∀ σ' H', N σ' H' → ∃ m', m' < m ∧ W (i + 1) m' σ' H') ∧
      g x σ (upd H it (ItO l it (i + 1))) fun σ2 H3 => tb { D with nx := N, ct := N, bk := D.nx } σ2 H3)) E
section
variable {X : Cx} {CX : CXT} {k : Nat} {C f : Addr} {fd : FuncData} {sp : Sp} {E : XK}
theorem ps_forO {tg iter : Expr} {body : List Stmt} {te : TE} {g : TG} {tb : TS} {pos : Pos} (hp : PassesOwn (model X.prog X.w) X.A X.env X.xe) (hc : X.calm = true) (he : PE X iter te) (cl : Cls X.K C) (hm : Meth X.K C "__iter__" f)
    (F : FnOk X.prog X.w X.K X.mg X.base CX k f fd ["self"] sp) (hr : Room k X.A) (hb : Binds X.K fd ["self"] []) (hx : Passes CX X E) (hg : PG X tg g) (hbd : PSs X body tb)
    (hs : ∀ x, foldedSetIterable iter X.env x = pure x := by intro _; rfl) : PS X (.For tg iter body [] pos) (tForO X.K C sp E te g tb) := by
  refine ⟨fun pins s σ H D I h => ?_⟩
  refine wpAny_For (thn (he.run pins s σ H _ I h) fun v s1 ⟨x, H1, I1, r1, a, dx, fs, ex, ha, hq⟩ => ?_) hs
  subst ex
  obtain rfl : v = Value.ref a := r1
  obtain ⟨mA, J, _⟩ := ins_get I1.hok ha
  obtain ⟨od, J, _⟩ := J.look
  obtain ⟨m0, hF⟩ := I1.fr
  refine PySem.W.owit_iter hF I1.ok.mod.kin J hm.at_ hm.fn ?_
  refine thn (run_fn F hr hb .nil hx I1 (.cons (show L2.RelV (V.ref a) (Value.ref a) from rfl) .nil) hq) fun u s2 ⟨v, H2, I2, r2, it, l, ev, hit, W, ⟨n0, w0⟩, turn⟩ => ?_
  subst ev
  obtain rfl : u = Value.ref it := r2
  have eo := itO_get I2 hit
  have hT : s2.TypeIs (.ref it) "list_iterator" := ⟨_, eo, rfl⟩
  unfold PySem.W.OwitIt
  refine wpAny_specialOf (name := Str.ofString "__next__") hT slot_listiter_next.lookup ?_
  show codeAny (model X.prog X.w) X.A (.forLoop tg (.ref it) body [] X.env) _ s2
  refine codeAny_forLoop_any (fun n s' => ∃ i σ' H', Inv X pins σ' H' s' ∧ W i n σ' H') ?_ n0 ⟨0, σ, H2, I2, w0⟩
  rintro n s3 ⟨i, σ3, H3, I3, w3⟩
  obtain ⟨hit3, xs, hl3, cases3⟩ := turn i n σ3 H3 w3
  have eo3 := itO_get I3 hit3
  obtain ⟨its, rv, pl, hz⟩ := I3.list hl3
  have lz := rv.length
  have mu : Mut (H3 it) := by rw [hit3]; exact True.intro
  have st3 : s3.heap.IsListIter it l i := ⟨_, eo3, rfl, rfl⟩
  rcases cases3 with ⟨stop, qn⟩ | ⟨y, hy, N, hN, step⟩
  · refine wpAny_passesOwn hp (pyNext_over (I3.ok.hd hc) eo3 pl.isList (by rw [List.getElem?_toArray]; exact rv.none_of (List.getElem?_eq_none stop)) fun h1 h' e1 sb kk => ?_)
    have I4 : Inv X pins σ3 (upd H3 it (ItE it i)) { s3 with heap := h1 } := I3.write (x := it) (e := it) (t' := s3.toks) mu (.inl rfl) (fun b o nb z => (sb.2 b nb).trans z) ⟨_, e1⟩ (itE_ok e1)
    exact wpAny_execs_nil ⟨σ3, _, I4.kept (t' := s3.toks) kk, qn⟩
  · obtain ⟨u, hu, ru⟩ := rv.get hy
    refine wpAny_passesOwn hp (pyNext_next eo3 pl.isList (x := u) (by rw [List.getElem?_toArray]; exact hu) fun h' eo4 sb => ?_)
    have I4 : Inv X pins σ3 (upd H3 it (ItO l it (i + 1))) { s3 with heap := h' } := I3.write (x := it) (e := it) (t' := s3.toks) mu (.inl rfl) (fun b o nb z => (sb.2 b nb).trans z) ⟨_, eo4⟩ (itO_ok eo4)
    refine go_of (s := { s3 with heap := h' }) eo4 rfl rfl (by decide) ?_
    refine wpAny_passesOwn hp (thn (hg.run _ { s3 with heap := h' } σ3 _ y u _ I4 ru step) fun _ s6 ⟨σ6, H6, I6, q6⟩ => ?_)
    refine wpAny_passesOwn hp (thn (hbd.run _ s6 σ6 H6 _ I6 q6) fun f s7 q7 => ?_)
    have again : ∀ {σ7 : L2.St} {H7 : Hp}, Inv X pins σ7 H7 s7 → N σ7 H7 → ∃ m, m < n ∧ ∃ i σ' H', Inv X pins σ' H' s7 ∧ W i m σ' H' := fun {σ7 H7} I7 n7 => by
      obtain ⟨m', hm', w7⟩ := hN σ7 H7 n7
      exact ⟨m', hm', i + 1, σ7, H7, I7, w7⟩
    cases f with
    | next => obtain ⟨σ7, H7, I7, n7⟩ := q7; exact again I7 n7
    | cont => obtain ⟨σ7, H7, I7, n7⟩ := q7; exact again I7 n7
    | brk => obtain ⟨σ7, H7, I7, q7⟩ := q7; exact ⟨σ7, H7, I7, q7⟩
    | ret v => obtain ⟨x7, σ7, H7, I7, r7, q7⟩ := q7; exact ⟨x7, σ7, H7, I7, r7, q7⟩
end
end Fh

/-! del xs[:c], the first c items of a list go. -/
namespace Fh
open PySem PySem.Spec PyProof.Rows L2 HT
theorem drop_run {α : Type} (g : α × Nat → Option α) (c : Nat) (hg : ∀ x k, g (x, k) = if k < c then none else some x) : ∀ (l : List α) (i : Nat), (l.zipIdx i).filterMap g = l.drop (c - i)
  | [], i => by simp
  | x :: l, i => by
    have ih := drop_run g c hg l (i + 1)
    rw [List.zipIdx_cons, List.filterMap_cons, hg, ih]
    by_cases h : i < c
    · rw [if_pos h]
      have e : c - i = (c - (i + 1)) + 1 := by omega
      rw [e, List.drop_succ_cons]
    · rw [if_neg h]
      have e1 : c - i = 0 := by omega
      have e2 : c - (i + 1) = 0 := by omega
      rw [e1, e2]
      rfl
section
variable {prog : Program} {w : World} {A : Around} {E : Value → Shared → Prop} {s : Shared}
theorem bounds_to {c n : Nat} (hc : c ≤ n) : sliceBounds none (some (c : Int)) none n = ((0 : Int), (c : Int), 1) := by
  simp only [sliceBounds, Option.getD_none]
  have h2 : ¬ ((c : Int) < 0) := by omega
  simp only [h2, if_false, show (1 : Int) > 0 by decide, if_true]
  congr 1
  congr 1
  omega
/-- list.__delitem__ with a slice [:c] -/
theorem delItem_to {l sl : Addr} {items : Array Value} {n : Nat} {vl vu : Value} {c : Nat} {Q : Unit → Shared → Prop}
    (e : s.heap.get? l = some { cls := .type "list", data := .seq items n })
    (hs : s.heap.IsSliceOf sl vl vu .none) (pl : IsPart vl none) (pu : IsPart vu (some (c : Int))) (hc : c ≤ items.size) (hsz : items.size ≤ sizeLine)
    (h : ∀ F : Array Value → Array Value, F items = (items.toList.drop c).toArray → Q () { s with heap := s.heap.update l (Obj.mapSeq F) }) :
    wpAny (model prog w) A (delItem (.ref l) (.ref sl)) Q E s := by
  have hl : s.heap.IsList l items := PySem.IsL.isList e
  obtain ⟨os, hos, hcs, hds⟩ := id hs
  have hTs : s.TypeIs (.ref sl) "slice" := ⟨os, hos, hcs⟩
  have hstep : ¬ ((rawPart none == rawInt 0) = true) := Bool.false_ne_true
  refine wpAny_delItem_slot hl.typeIs (by decide) PySem.F.slot_list_delitem ?_
  refine wpAny_call_entry PySem.F.slot_list_delitem hl.typeIs PySem.F.entry_list_delitem ?_ (PySem.F.args_list_delitem_2 _ _)
  show wpAny _ _ (Builtin.List.listSubscript? (.ref sl) >>= _) _ _ s
  refine wpAny_bind ?_
  unfold Builtin.List.listSubscript?
  refine wpAny_bind (wpAny_specialOf hTs slice_no_index ?_)
  simp only [Option.isNone_none, if_true]
  refine wpAny_pure ?_
  show wpAny _ _ (typeOf (.ref sl) >>= _) _ _ s
  refine wpAny_bind (wpAny_typeOf hTs ?_)
  first
    | rw [if_neg (by decide)]
    | refine PySem.W.KFB.if_not (by decide) ?_
  rw [listSliceParts_eq]
  refine wpAny_bind (wpAny_bind (wpAny_field hos hds (x := .none) rfl (wpAny_bind (wpAny_listPart .none ?_))))
  rw [if_neg hstep]
  refine wpAny_bind (wpAny_field hos hds (x := vl) rfl (wpAny_bind (wpAny_listPart pl ?_)))
  refine wpAny_bind (wpAny_field hos hds (x := vu) rfl (wpAny_bind (wpAny_listPart pu (wpAny_pure ?_))))
  unfold Builtin.List.listItems
  refine wpAny_bind (wpAny_bind (wpAny_seqItems e rfl (wpAny_pure ?_)))
  refine wpAny_bind (wpAny_of_eq ((sliceIndices_raw none (some (c : Int)) none items.size (by simp)).trans (congrArg (pure : Int × Int × Int → Sem (Int × Int × Int)) (bounds_to hc))) ?_)
  refine wpAny_bind (wpAny_rule ?_)
  have key : ∀ F : Array Value → Array Value, (F = fun xs => (xs.toList.zipIdx.filterMap fun p => if (if (1 : Int) > 0 then (decide ((0 : Int) ≤ (p.2 : Nat)) && decide (((p.2 : Nat) : Int) < (c : Int)) && ((((p.2 : Nat) : Int) - 0) % 1 == 0)) else false) = true then none else some p.1).toArray) → F items = (items.toList.drop c).toArray := by
    intro F hF
    rw [hF]
    refine congrArg List.toArray (drop_run _ c (fun x k => ?_) _ 0)
    have e1 : (((k : Nat) : Int) - 0) % 1 = 0 := by omega
    by_cases hk : k < c
    · rw [if_pos hk]
      have a1 : decide ((0 : Int) ≤ (k : Nat)) = true := decide_eq_true (by omega)
      have a2 : decide (((k : Nat) : Int) < (c : Int)) = true := decide_eq_true (by omega)
      simp [a1, a2, hk]
    · rw [if_neg hk]
      have a2 : decide (((k : Nat) : Int) < (c : Int)) = false := decide_eq_false (by omega)
      simp [a2, hk]
  show wpAny _ _ (updateSeq l _ >>= _) _ _ s
  refine wpAny_bind (wpAny_updateSeq (hz := hsz) (_hz' := ?_) e rfl ?_)
  · refine wpAny_bind (wpAny_letGo ?_)
    exact wpAny_pure ⟨.none, rfl, h _ (key _ rfl)⟩
  · refine Nat.le_trans ?_ (Nat.le_succ_of_le hsz)
    rw [List.size_toArray]
    refine Nat.le_trans (List.length_filterMap_le _ _) ?_
    rw [List.length_zipIdx, Array.length_toList]
    exact Nat.le_refl _
end
/-- del e[:c] -/
def tDelTo (to th : TE) : TS := fun D σ H => to σ H fun x H1 => th σ H1 fun y H2 => ∃ (l : Addr) (xs : List V) (c : Nat), x = .ref l ∧ y = .int (c : Int) ∧ H2 l = some (.lst xs) ∧ c ≤ xs.length ∧ D.nx σ (upd H2 l (.lst (xs.drop c)))
theorem ps_delTo {X : Cx} {o i : Expr} {to ti : TE} {tpos p2 pos : Pos} (ho : PE X o to) (hi : PE X i ti) : PS X (.Delete [.Subscript o (.Slice none (some i) none p2) tpos] pos) (tDelTo to ti) := by
  refine ⟨fun pins s σ H D I h => ?_⟩
  refine wpAny_Delete (wpAny_deleteEach_cons (wpAny_delete_Subscript (thn (ho.run pins s σ H _ I h) fun u s1 ⟨x, H1, I1, rx, q1⟩ => ?_)))
  refine wpAny_Slice ?_
  rw [evalPart_none]
  refine wpAny_pure ?_
  rw [evalPart_some]
  refine thn (hi.run pins s1 σ H1 _ I1 q1) fun vu s3 ⟨y, H2, I3, ry, l, xs, c, ex, ey, hH, hc, q⟩ => ?_
  refine wpAny_pure ?_
  subst ex
  subst ey
  obtain rfl : u = Value.ref l := rx
  obtain ⟨t, rfl⟩ := (show ∃ t, vu = Value.int (c : Int) t from ry)
  have I4 : Inv X pins σ H2 { s3 with heap := s3.heap.push { cls := .type "slice", data := .fields #[.none, .int (c : Int) t, .none] } } := I3.kept (t' := s3.toks) fun b ob q => Heap.get?_push_of_some _ q
  obtain ⟨z, its, n, r, hl, e⟩ := I4.lstM hH
  refine delItem_to e (Heap.IsSliceOf.new ..) .none (.int _ _) (by rw [List.size_toArray]; omega) (by rw [List.size_toArray]; omega) fun F hF => wpAny_deleteEach_nil ⟨σ, _, I4.lset (its' := its.drop c) (t' := s3.toks) hH e (by rw [hF]) (r.drop c) (by rw [List.length_drop]; omega), q⟩
end Fh

/-! list(enumerate(xs, start=k)): the new pairs, in a new list. -/
namespace Fh
open PySem PySem.Spec PyProof.Rows L2
open PySem.W (kdx_alive)
abbrev EnumX (h : Heap) (e it : Addr) (c : Int) (x : Value) (a : Addr) (f : Bool) : Prop :=
  h.get? e = some { cls := .type "enumerate", dict := none, data := .fields #[rawInt a, .bool f, .ref it, rawInt c, .none, x], slots := #[] }
section
variable {prog : Program} {w : World} {A : Around} {E : Value → Shared → Prop} {s : Shared}
/-- the next pair where the last one is still held -/
theorem next_held {e it a : Addr} {fp : List Addr} {n i : Nat} {c : Int} {P : Nat → Value → Prop} {St : Nat → Heap → Prop} {x0 : Value} {f : Bool} {oa : Obj} {Q : Option Value → Shared → Prop}
    (D : Draws prog w A.in1 it fp n P St) (he : EnumX s.heap e it c x0 a f) (ha : s.heap.get? a = some oa) (hae : a ≠ e) (hai : a ≠ it) (hst : St i s.heap) (hlt : i < n) (hne : e ≠ it) (hef : e ∉ fp)
    (hQ : ∀ x h' tk, P i x → EnumX h' e it (c + 1) x0 a true → St (i + 1) h' → h'.get? s.heap.objs.size = some { cls := .type "tuple", data := .seq #[.int c tk, x] } → h'.objs.size = s.heap.objs.size + 1 →
      (∀ b o, b ≠ e → b ≠ it → s.heap.get? b = some o → h'.get? b = some o) → Q (some (.ref s.heap.objs.size)) { s with heap := h', toks := tk + 1 }) :
    wpAny (model prog w) A (pyNext (.ref e)) Q E s := by
  obtain ⟨hp, g, d, tk₀, os⟩ := s
  have hT : Shared.TypeIs ⟨hp, g, d, tk₀, os⟩ (.ref e) "enumerate" := ⟨_, he, rfl⟩
  unfold pyNext
  refine wpAny_bind (wpAny_attempt (wpAny_callSpecial?_slot (name := Str.ofString "__next__") hT PySem.F.slot_enumerate_next
    (wpAny_call_entry PySem.F.slot_enumerate_next hT PySem.F.entry_enumerate_next ?_ (PySem.F.args_enumerate_next_1 _))))
  show wpAny _ _ (field (.ref e) 2 >>= _) _ _ _
  refine wpAny_bind (wpAny_field he rfl (x := .ref it) rfl ?_)
  refine wpAny_bind (D.item i _ _ _ hlt hst fun x h₁ tk hPx hit₁ hs₁ => ?_)
  replace hs₁ : Heap.SameBut it hp h₁ := hs₁
  have he₁ : EnumX h₁ e it c x0 a f := (hs₁.2 e hne).trans he
  show wpAny _ _ (field (.ref e) 3 >>= _) _ _ ⟨h₁, g, d, tk, os⟩
  refine wpAny_bind (wpAny_field he₁ rfl (x := rawInt c) rfl ?_)
  show wpAny _ _ (field (.ref e) 4 >>= _) _ _ ⟨h₁, g, d, tk, os⟩
  refine wpAny_bind (wpAny_field he₁ rfl (x := .none) rfl ?_)
  show wpAny _ _ (mkInt c >>= _) _ _ ⟨h₁, g, d, tk, os⟩
  refine wpAny_bind (wpAny_mkInt ?_)
  show wpAny _ _ (setField (.ref e) 3 (rawInt (c + 1)) >>= _) _ _ ⟨h₁, g, d, tk + 1, os⟩
  refine wpAny_bind (wpAny_setField_rec he₁ (by simp) fun h₂ he₂ hs₂ => ?_)
  replace hs₂ : Heap.SameBut e h₁ h₂ := hs₂
  replace he₂ : EnumX h₂ e it (c + 1) x0 a f := he₂
  show wpAny _ _ (setField (.ref e) 4 .none >>= _) _ _ ⟨h₂, g, d, tk + 1, os⟩
  refine wpAny_bind (wpAny_setField_rec he₂ (by simp) fun h₃ he₃ hs₃ => ?_)
  replace hs₃ : Heap.SameBut e h₂ h₃ := hs₃
  replace he₃ : EnumX h₃ e it (c + 1) x0 a f := he₃
  show wpAny _ _ (newTuple [.int c tk, x] >>= _) _ _ ⟨h₃, g, d, tk + 1, os⟩
  refine wpAny_bind (wpAny_newTuple ?_)
  have he₄ : EnumX (h₃.push { cls := .type "tuple", data := .seq #[.int c tk, x] }) e it (c + 1) x0 a f := Heap.get?_push_of_some _ he₃
  generalize hh₄ : h₃.push { cls := .type "tuple", data := .seq #[.int c tk, x] } = h₄ at he₄
  have hsz : h₃.objs.size = hp.objs.size := by rw [hs₃.1, hs₂.1, hs₁.1]
  have hel : e < hp.objs.size := Heap.lt_size he
  have ht₄ : h₄.get? hp.objs.size = some { cls := .type "tuple", data := .seq #[.int c tk, x] } := by rw [← hh₄, ← hsz]; exact Heap.get?_push_size _ rfl
  have hz₄ : h₄.objs.size = hp.objs.size + 1 := by rw [← hh₄, Heap.size_push, hsz]
  have hk₄ : ∀ b o, b ≠ e → b ≠ it → hp.get? b = some o → h₄.get? b = some o := fun b o hbe hbi hb => by
    rw [← hh₄]; exact Heap.get?_push_of_some _ (hs₃.extBut b o hbe (hs₂.extBut b o hbe (hs₁.extBut b o hbi hb)))
  have hit₄ : St (i + 1) h₄ := D.frame _ _ _ hit₁ fun b hb o y => by
    have hbe : b ≠ e := fun q => hef (q ▸ hb)
    rw [← hh₄]; exact Heap.get?_push_of_some _ (hs₃.extBut b o hbe (hs₂.extBut b o hbe y))
  have ha₄ : h₄.get? a = some oa := hk₄ a oa hae hai ha
  show wpAny _ _ (Builtin.SmallTypes.ownedTupleIsFree (.ref e) >>= _) _ _ ⟨h₄, g, d, tk + 1, os⟩
  rw [hsz]
  clear hh₄ he₃ hs₃ he₂ hs₂ he₁ hs₁ hit₁ hsz h₃ h₂ h₁
  refine wpAny_bind ?_
  unfold Builtin.SmallTypes.ownedTupleIsFree
  refine wpAny_bind (wpAny_field he₄ rfl (x := rawInt a) rfl ?_)
  show wpAny _ _ (loadIfAlive ((a : Int).toNat) >>= _) _ _ _
  rw [Int.toNat_natCast]
  refine wpAny_bind (kdx_alive ha₄ ?_)
  simp only [Option.isNone_some, Bool.false_eq_true, if_false]
  refine wpAny_bind (wpAny_field he₄ rfl (x := .bool f) rfl ?_)
  have fin : ∀ h₅ : Heap, EnumX h₅ e it (c + 1) x0 a true → Heap.SameBut e h₄ h₅ → Q (some (.ref hp.objs.size)) ⟨h₅, g, d, tk + 1, os⟩ := fun h₅ he₅ hs₅ =>
    hQ x h₅ tk hPx he₅ (D.frame _ _ _ hit₄ fun b hb o y => hs₅.extBut b o (fun q => hef (q ▸ hb)) y) (by exact hs₅.extBut _ _ (Nat.ne_of_gt hel) ht₄) (by show h₅.objs.size = hp.objs.size + 1; rw [hs₅.1, hz₄])
      fun b o hbe hbi hb => hs₅.extBut b o hbe (hk₄ b o hbe hbi hb)
  cases f with
  | true =>
    rw [if_neg (show ¬ ((Value.bool true != Value.bool true) = true) from Bool.false_ne_true)]
    refine wpAny_pure ?_
    simp only [Bool.false_eq_true, if_false]
    exact wpAny_pure ⟨_, rfl, wpAny_pure (fin h₄ he₄ (Heap.SameBut.refl _ _))⟩
  | false =>
    rw [if_pos (show (Value.bool false != Value.bool true) = true from rfl)]
    refine wpAny_bind (wpAny_setField_rec he₄ (by simp) fun h₅ he₅ hs₅ => ?_)
    replace hs₅ : Heap.SameBut e h₄ h₅ := hs₅
    replace he₅ : EnumX h₅ e it (c + 1) x0 a true := he₅
    refine wpAny_pure ?_
    simp only [Bool.false_eq_true, if_false]
    exact wpAny_pure ⟨_, rfl, wpAny_pure (fin h₅ he₅ hs₅)⟩
/-- its end -/
theorem next_over {e it : Addr} {fp : List Addr} {n : Nat} {P : Nat → Value → Prop} {St : Nat → Heap → Prop} {o : Obj} {vs : Array Value} {Q : Option Value → Shared → Prop}
    (D : Draws prog w A.in1 it fp n P St) (he : s.heap.get? e = some o) (hc : o.cls = .type "enumerate") (hd : o.data = .fields vs) (h2 : vs[2]? = some (.ref it)) (hst : St n s.heap)
    (hQ : ∀ h', Heap.ExtBut it s.heap h' → Q none { s with heap := h' }) : wpAny (model prog w) A (pyNext (.ref e)) Q E s := by
  have hT : s.TypeIs (.ref e) "enumerate" := ⟨_, he, hc⟩
  unfold pyNext
  refine wpAny_bind (wpAny_attempt (wpAny_callSpecial?_slot (name := Str.ofString "__next__") hT PySem.F.slot_enumerate_next
    (wpAny_call_entry PySem.F.slot_enumerate_next hT PySem.F.entry_enumerate_next ?_ (PySem.F.args_enumerate_next_1 _))))
  show wpAny _ _ (field (.ref e) 2 >>= _) _ _ _
  refine wpAny_bind (wpAny_field he hd (x := .ref it) h2 ?_)
  refine wpAny_bind (D.done _ _ _ hst fun h' x he' hx' => ?_)
  obtain ⟨o, ho, hc⟩ := hx'
  refine wpAny_bind (wpAny_isInstance (T := "StopIteration") (b := true) ⟨o, ho, hc⟩ isSubtype_stop ?_)
  exact wpAny_pure (hQ _ he')
end
/-- the iterator e between two turns -/
def EnSt (h : Heap) (e it S : Addr) (c : Int) : Prop := (∃ old, IsEnum h e it c old) ∨ ∃ x a f oa, EnumX h e it c x a f ∧ h.get? a = some oa ∧ a ≠ e ∧ a ≠ it ∧ a ≠ S
theorem EnSt.at_ {h : Heap} {e it S : Addr} {c : Int} (x : EnSt h e it S c) : ∃ o vs, h.get? e = some o ∧ o.cls = .type "enumerate" ∧ o.data = .fields vs ∧ vs[2]? = some (.ref it) := by
  rcases x with ⟨old, h1⟩ | ⟨x, a, f, oa, h1, _⟩
  · exact ⟨_, _, h1, rfl, rfl, rfl⟩
  · exact ⟨_, _, h1, rfl, rfl, rfl⟩
theorem EnSt.keep {h h' : Heap} {e it S : Addr} {c : Int} (x : EnSt h e it S c) (hS : S ≠ e) (k : ∀ b o, b ≠ S → h.get? b = some o → h'.get? b = some o) : EnSt h' e it S c := by
  rcases x with ⟨old, h1⟩ | ⟨x, a, f, oa, h1, h2, h3, h4, h5⟩
  · exact .inl ⟨old, k e _ hS.symm h1⟩
  · exact .inr ⟨x, a, f, oa, k e _ hS.symm h1, k a _ h5 h2, h3, h4, h5⟩
section
variable {prog : Program} {w : World} {A : Around} {E : Value → Shared → Prop} {s : Shared}
theorem next_any {e it S : Addr} {fp : List Addr} {n i : Nat} {c : Int} {P : Nat → Value → Prop} {St : Nat → Heap → Prop} {Q : Option Value → Shared → Prop}
    (D : Draws prog w A.in1 it fp n P St) (he : EnSt s.heap e it S c) (hS : S < s.heap.objs.size) (hil : it < s.heap.objs.size) (hst : St i s.heap) (hlt : i < n) (hne : e ≠ it) (hef : e ∉ fp)
    (hQ : ∀ x h' tk, P i x → EnSt h' e it S (c + 1) → St (i + 1) h' → h'.get? s.heap.objs.size = some { cls := .type "tuple", data := .seq #[.int c tk, x] } → h'.objs.size = s.heap.objs.size + 1 →
      (∀ b o, b ≠ e → b ≠ it → s.heap.get? b = some o → h'.get? b = some o) → Q (some (.ref s.heap.objs.size)) { s with heap := h', toks := tk + 1 }) :
    wpAny (model prog w) A (pyNext (.ref e)) Q E s := by
  rcases he with ⟨old, h1⟩ | ⟨x, a, f, oa, h1, h2, h3, h4, h5⟩
  · have hel : e < s.heap.objs.size := Heap.lt_size h1
    refine wpAny_pyNext_enum_itemC D h1 hst hlt hne hef fun x h' tk hP ho hs' hT hsz hk => hQ x h' tk hP (.inr ⟨x, _, false, _, ho, hT, Nat.ne_of_gt hel, Nat.ne_of_gt hil, Nat.ne_of_gt hS⟩) hs' hT hsz hk
  · refine next_held D h1 h2 h3 h4 hst hlt hne hef fun x' h' tk hP ho hs' hT hsz hk => hQ x' h' tk hP (.inr ⟨x, a, true, oa, ho, hk a oa h3 h4 h2, h3, h4, h5⟩) hs' hT hsz hk
/-- the pairs stand at as, in order, above lo -/
structure PrG (k0 : Int) (items : Array Value) (lo : Addr) (h : Heap) (as : List Addr) : Prop where
  rise : as.Pairwise (· < ·)
  above : ∀ a ∈ as, lo < a
  pairs : ∀ (j : Nat) (a : Addr), as[j]? = some a → ∃ tk x, items[j]? = some x ∧ h.get? a = some { cls := .type "tuple", data := .seq #[.int (k0 + j) tk, x] }
theorem PrG.there {k0 : Int} {items : Array Value} {lo : Addr} {h : Heap} {as : List Addr} (g : PrG k0 items lo h as) {a : Addr} (ha : a ∈ as) : a < h.objs.size := by
  obtain ⟨j, hj⟩ := List.mem_iff_getElem?.mp ha
  obtain ⟨_, _, _, e⟩ := g.pairs j a hj
  exact Heap.lt_size e
theorem loop_pairs {S e it l : Addr} {k0 : Int} {items : Array Value} {R : Result → Shared → Prop} (hh : A.handled = none) (hSe : e < S) (hie : it < e) (hlt0 : l < it) (hn : items.size ≤ sizeLine) (res : Value) {h₁ : Heap}
    (hR : ∀ h' tk acc c as, (∀ b o, b ≠ S → b ≠ e → b ≠ it → h₁.get? b = some o → h'.get? b = some o) → h'.get? S = some { cls := .type "list", dict := none, data := .seq acc c, slots := #[] } → as.length = items.size → PrG k0 items S h' as →
      acc.toList = as.map Value.ref → R (.ok (.ret res)) { s with heap := h', toks := tk }) :
    ∀ (k i : Nat) (h : Heap) (tk c : Nat) (acc : Array Value) (as : List Addr), items.size - i = k → i ≤ items.size → EnSt h e it S (k0 + i) → h.IsListIter it l i → h.IsList l items → (∀ b o, b ≠ S → b ≠ e → b ≠ it → h₁.get? b = some o → h.get? b = some o) →
      h.get? S = some { cls := .type "list", dict := none, data := .seq acc c, slots := #[] } → acc.toList = as.map Value.ref → as.length = i → PrG k0 items S h as → S < h.objs.size →
      codeAny (model prog w) A (.builtin "list.extend.loop" ⟨[.ref S, .ref e, res], []⟩) R { s with heap := h, toks := tk } := by
  have heS : S ≠ e := Nat.ne_of_gt hSe
  have hiS : S ≠ it := Nat.ne_of_gt (Nat.lt_trans hie hSe)
  have hlS : l ≠ S := Nat.ne_of_lt (Nat.lt_trans hlt0 (Nat.lt_trans hie hSe))
  have hle : l ≠ e := Nat.ne_of_lt (Nat.lt_trans hlt0 hie)
  have hli : l ≠ it := Nat.ne_of_lt hlt0
  have hei : e ≠ it := Nat.ne_of_gt hie
  have hef : e ∉ [it, l] := by simp [hei, hle.symm]
  have D := Draws.list (prog := prog) (w := w) (A := A.in1.in1) hh it l hli items
  intro k
  induction k with
  | zero =>
    intro i h tk c acc as hk hi hst hI hL hkeep hS hacc hal hG hIs
    have hin : i = items.size := by omega
    refine codeAny_builtin PySem.F.entry_extend_loop ?_
    rw [Around.under_plainId PySem.F.plain_extend_loop _]
    show wpAny _ A.in1 (pyNext (.ref e) >>= _) _ _ _
    obtain ⟨o, vs, ho, hc, hd, h2⟩ := hst.at_
    refine wpAny_bind (next_over (s := { s with heap := h, toks := tk }) (A := A.in1) D ho hc hd h2 (by rw [← hin]; exact ⟨hI, hL⟩) fun h' he => ?_)
    refine wpAny_pure (hR h' tk acc c as (fun b o h1 h2 h3 e => he b o h3 (hkeep b o h1 h2 h3 e)) (he S _ hiS hS) (by omega) ⟨hG.rise, hG.above, fun j a hj => ?_⟩ hacc)
    obtain ⟨t, x, hx, e3⟩ := hG.pairs j a hj
    have hb := hG.above a (List.mem_of_getElem? hj)
    exact ⟨t, x, hx, he a _ (Nat.ne_of_gt (Nat.lt_trans (Nat.lt_trans hie hSe) hb)) e3⟩
  | succ k ih =>
    intro i h tk c acc as hk hi hst hI hL hkeep hS hacc hal hG hIs
    have hlt : i < items.size := by omega
    have hsz : acc.size = i := by rw [← Array.length_toList, hacc, List.length_map, hal]
    have hil : it < h.objs.size := by
      obtain ⟨o, ho, _⟩ := hI
      exact Heap.lt_size ho
    refine codeAny_builtin PySem.F.entry_extend_loop ?_
    rw [Around.under_plainId PySem.F.plain_extend_loop _]
    show wpAny _ A.in1 (pyNext (.ref e) >>= _) _ _ _
    refine wpAny_bind (next_any (s := { s with heap := h, toks := tk }) (A := A.in1) D hst hIs hil ⟨hI, hL⟩ hlt hei hef fun x h' tk' hPx hst' hs' ht hz hkp => ?_)
    dsimp only at ht hz hkp ⊢
    have hS' := hkp S _ heS hiS hS
    have up : ∀ b o, b ≠ S → h'.get? b = some o → (h'.update S (Obj.mapSeq (·.push (Value.ref h.objs.size)))).get? b = some o := fun b o hb e => (Heap.get?_update_other _ _ (Ne.symm hb)).trans e
    show wpAny _ A.in1 (updateSeq S (·.push (Value.ref h.objs.size)) >>= _) _ _ _
    refine wpAny_bind ?_
    have ec : k0 + (i : Int) + 1 = k0 + ((i + 1 : Nat) : Int) := by omega
    rw [ec] at hst'
    refine wpAny_updateSeq hS' rfl (wpAny_pure ⟨plainId_quiet PySem.F.plain_extend_loop _, ih (i + 1) _ (tk' + 1) _ (acc.push (Value.ref h.objs.size)) (as ++ [h.objs.size]) (by omega) hlt (hst'.keep heS up)
      (hs'.1.at fun o e => up it o hiS.symm e) (hs'.2.at fun o e => up l o hlS e)
      (fun b o h1 h2 h3 e => up b o h1 (hkp b o h2 h3 (hkeep b o h1 h2 h3 e))) (Heap.get?_update_self _ hS' rfl) (by rw [Array.toList_push, hacc, List.map_append]; rfl) (by rw [List.length_append, hal]; rfl) ⟨?_, ?_, ?_⟩ ?_⟩) (by rw [hsz]; omega) (by show (acc.push (Value.ref h.objs.size)).size ≤ sizeLine + 1; rw [Array.size_push, hsz]; omega)
    · refine List.pairwise_append.mpr ⟨hG.rise, List.pairwise_singleton _ _, fun a ha b hb => ?_⟩
      rw [List.mem_singleton.mp hb]
      exact hG.there ha
    · intro a ha
      rcases List.mem_append.mp ha with ha | ha
      · exact hG.above a ha
      · rw [List.mem_singleton.mp ha]; exact hIs
    · intro j b hj
      rcases Nat.lt_trichotomy j as.length with h1 | h1 | h1
      · rw [List.getElem?_append_left h1] at hj
        obtain ⟨t, y, hy, e3⟩ := hG.pairs j b hj
        have hb := hG.above b (List.mem_of_getElem? hj)
        exact ⟨t, y, hy, up b _ (Nat.ne_of_gt hb) (hkp b _ (Nat.ne_of_gt (Nat.lt_trans hSe hb)) (Nat.ne_of_gt (Nat.lt_trans (Nat.lt_trans hie hSe) hb)) e3)⟩
      · subst h1
        have hb : h.objs.size = b := by simpa using hj
        subst hb
        subst hal
        exact ⟨_, x, hPx, up _ _ (Nat.ne_of_gt hIs) ht⟩
      · have hnone : (as ++ [h.objs.size])[j]? = none := List.getElem?_eq_none (by rw [List.length_append, List.length_singleton]; omega)
        rw [hnone] at hj; cases hj
    · have e : (h'.update S (Obj.mapSeq (·.push (Value.ref h.objs.size)))).get? h.objs.size = _ := up _ _ (Nat.ne_of_gt hIs) ht
      exact Nat.lt_trans hIs (Heap.lt_size e)
end
theorem en_no_len : typeLookup (.type "enumerate") "__len__" = pure none := am_miss_of_fast (by decide +kernel)
theorem en_no_hint : typeLookup (.type "enumerate") "__length_hint__" = pure none := am_miss_of_fast (by decide +kernel)
section
variable {prog : Program} {w : World} {A : Around} {E : Value → Shared → Prop} {s : Shared}
theorem hint_en {e : Addr} {Q : Bool → Shared → Prop} (hT : s.TypeIs (.ref e) "enumerate") (h : Q true s) : wpAny (model prog w) A (Builtin.List.listLengthHint (.ref e)) Q E s := by
  unfold Builtin.List.listLengthHint
  refine wpAny_bind (wpAny_specialOf hT en_no_len ?_)
  show wpAny _ _ (specialOf (Value.ref e) (Str.ofString "__length_hint__") >>= _) _ _ _
  refine wpAny_bind (wpAny_specialOf hT en_no_hint ?_)
  exact wpAny_pure h
theorem extend_en {S e it l : Addr} {k0 : Int} {items : Array Value} {R : Result → Shared → Prop} (hh : A.handled = none) (hSe : e < S) (hie : it < e) (hlt0 : l < it) (hn : items.size ≤ sizeLine) (res : Value) (c₀ : Nat)
    (he : IsEnum s.heap e it k0 .none) (hI : s.heap.IsListIter it l 0) (hL : s.heap.IsList l items) (hS : s.heap.get? S = some { cls := .type "list", data := .seq #[] c₀ })
    (hR : ∀ h' tk acc c as, (∀ b o, b ≠ S → b ≠ e → b ≠ it → s.heap.get? b = some o → h'.get? b = some o) → h'.get? S = some { cls := .type "list", dict := none, data := .seq acc c, slots := #[] } → as.length = items.size → PrG k0 items S h' as →
      acc.toList = as.map Value.ref → R (.ok (.ret res)) { s with heap := h', toks := tk }) :
    wpAny (model prog w) A.in1 (Builtin.List.listExtendWith (.ref S) (.ref e) res)
      (fun fin s' => match fin with | .done f => R (.ok f) s' | .again c' => c'.quiet = true ∧ codeAny (model prog w) A c' R s') (fun e s' => R (.error e) s') s := by
  have hT : s.TypeIs (.ref e) "enumerate" := ⟨_, he, rfl⟩
  have hSl := Heap.lt_size hS
  have hiS : S ≠ it := Nat.ne_of_gt (Nat.lt_trans hie hSe)
  have hlS : S ≠ l := Nat.ne_of_gt (Nat.lt_trans hlt0 (Nat.lt_trans hie hSe))
  have e0 : k0 = k0 + ((0 : Nat) : Int) := by omega
  have key : ∀ (h : Heap) (c₁ tk : Nat), (∀ b o, b ≠ S → s.heap.get? b = some o → h.get? b = some o) → h.get? S = some { cls := .type "list", data := .seq #[] c₁ } →
      codeAny (model prog w) A (.builtin "list.extend.loop" ⟨[.ref S, .ref e, res], []⟩) R { s with heap := h, toks := tk } := by
    intro h c₁ tk hk hS₁
    refine loop_pairs (s := s) (h₁ := s.heap) hh hSe hie hlt0 hn res hR items.size 0 h tk c₁ #[] [] (Nat.sub_zero _) (Nat.zero_le _) (.inl ⟨.none, by rw [← e0]; exact hk e _ (Nat.ne_of_lt hSe) he⟩)
      (hI.at fun o x => hk it o hiS.symm x) (hL.at fun o x => hk l o hlS.symm x) (fun b o h1 _ _ x => hk b o h1 x) hS₁ rfl rfl ⟨List.Pairwise.nil, (fun _ ha => nomatch ha), (fun j a hj => by simp at hj)⟩ (Heap.lt_size hS₁)
  unfold Builtin.List.listExtendWith
  refine wpAny_bind (wpAny_typeOf (T := "enumerate") hT ?_)
  have h1 : Builtin.List.listSameRef (.ref S) (.ref e) = false := by simp [Builtin.List.listSameRef, Nat.ne_of_gt hSe]
  have h2 : (Value.type "enumerate" == Value.type "list") = false := by decide
  have h3 : (Value.type "enumerate" == Value.type "tuple") = false := by decide
  simp only [h1, h2, h3, Bool.or_false, Bool.false_eq_true, if_false]
  refine wpAny_bind (wpAny_pyIter_enum he ?_)
  refine wpAny_bind (wpAny_holding (hint_en hT ?_))
  refine wpAny_ite_split (fun _ => ?_) (fun _ => wpAny_pure ⟨plainId_quiet PySem.F.plain_extend_loop _, key _ c₀ _ (fun b o _ e => e) hS⟩)
  refine wpAny_bind (wpAny_rule ?_)
  refine wpAny_bind ?_
  show wpAny _ _ (updateSeq S (·.push .none) >>= fun _ => updateSeq S (·.pop)) _ _ _
  refine wpAny_bind (wpAny_updateSeq hS rfl ?_)
  have hS₂ := Heap.get?_update_self (Obj.mapSeq (·.push Value.none)) hS rfl
  refine wpAny_updateSeq (hz := by seq_fits) hS₂ rfl ?_
  have hS₃ := Heap.get?_update_self (Obj.mapSeq (·.pop)) hS₂ rfl
  refine wpAny_pure ⟨plainId_quiet PySem.F.plain_extend_loop _, key _ _ _ (fun b o hb e => ?_) hS₃⟩
  exact (Heap.get?_update_other _ _ (Ne.symm hb)).trans ((Heap.get?_update_other _ _ (Ne.symm hb)).trans e)
theorem PrG.low {k0 : Int} {items : Array Value} {lo lo' : Addr} {h : Heap} {as : List Addr} (g : PrG k0 items lo h as) (hl : lo' ≤ lo) : PrG k0 items lo' h as := ⟨g.rise, fun a ha => Nat.lt_of_le_of_lt hl (g.above a ha), g.pairs⟩
theorem init_en {S e it l : Addr} {k0 : Int} {items : Array Value} {R : Result → Shared → Prop} (hh : A.handled = none) (hSe : e < S) (hie : it < e) (hlt0 : l < it) (hn : items.size ≤ sizeLine)
    (he : IsEnum s.heap e it k0 .none) (hI : s.heap.IsListIter it l 0) (hL : s.heap.IsList l items) (hS : s.heap.get? S = some { cls := .type "list", data := .seq #[] })
    (hR : ∀ h' tk acc c as, (∀ b o, b ≠ S → b ≠ e → b ≠ it → s.heap.get? b = some o → h'.get? b = some o) → h'.get? S = some { cls := .type "list", dict := none, data := .seq acc c, slots := #[] } → as.length = items.size → PrG k0 items S h' as →
      acc.toList = as.map Value.ref → R (.ok (.ret .none)) { s with heap := h', toks := tk }) :
    wpAny (model prog w) A.in1 (Builtin.«list.__init__» ⟨[.ref S, .ref e], []⟩)
      (fun fin s' => match fin with | .done f => R (.ok f) s' | .again c' => c'.quiet = true ∧ codeAny (model prog w) A c' R s') (fun e s' => R (.error e) s') s := by
  have hiS : it ≠ S := Nat.ne_of_lt (Nat.lt_trans hie hSe)
  have hlS : l ≠ S := Nat.ne_of_lt (Nat.lt_trans hlt0 (Nat.lt_trans hie hSe))
  show wpAny _ _ (do let old ← Builtin.List.listItems (.ref S); Builtin.List.listUpdate (.ref S) (fun _ => #[]); letGo old.toList.reverse; Builtin.List.listExtendWith (.ref S) (.ref e) .none) _ _ s
  refine wpAny_bind ?_
  unfold Builtin.List.listItems
  refine wpAny_bind (wpAny_seqItems hS rfl (wpAny_pure ?_))
  show wpAny _ _ (updateSeq S (fun _ => #[]) >>= fun _ => letGo (#[] : Array Value).toList.reverse >>= fun _ => Builtin.List.listExtendWith (.ref S) (.ref e) .none) _ _ s
  refine wpAny_bind (wpAny_updateSeq hS rfl ?_)
  have hS₂ := Heap.get?_update_self (Obj.mapSeq (fun _ => (#[] : Array Value))) hS rfl
  have oth : ∀ b o, b ≠ S → s.heap.get? b = some o → (s.heap.update S (Obj.mapSeq (fun _ => (#[] : Array Value)))).get? b = some o :=
    fun b o hb e => (Heap.get?_update_other _ _ (Ne.symm hb)).trans e
  refine wpAny_bind (wpAny_letGo ?_)
  refine extend_en hh hSe hie hlt0 hn .none _ (oth e _ (Nat.ne_of_lt hSe) he) (hI.at fun o x => oth it o hiS x) (hL.at fun o x => oth l o hlS x) hS₂ fun h' tk acc c as hk hS' hl hG hacc => ?_
  exact hR h' tk acc c as (fun b o h1 h2 h3 e => hk b o h1 h2 h3 (oth b o h1 e)) hS' hl hG hacc
theorem call_list_en {e it l : Addr} {k0 : Int} {items : Array Value} {Q : Value → Shared → Prop} (hh : A.handled = none) (hie : it < e) (hlt0 : l < it) (hn : items.size ≤ sizeLine)
    (he : IsEnum s.heap e it k0 .none) (hI : s.heap.IsListIter it l 0) (hL : s.heap.IsList l items)
    (hQ : ∀ h' tk acc c as, (∀ b o, b ≠ e → b ≠ it → s.heap.get? b = some o → h'.get? b = some o) → h'.get? s.heap.objs.size = some { cls := .type "list", dict := none, data := .seq acc c, slots := #[] } → as.length = items.size →
      PrG k0 items s.heap.objs.size h' as → acc.toList = as.map Value.ref → Q (.ref s.heap.objs.size) { s with heap := h', toks := tk }) :
    wpAny (model prog w) A (call (.type "list") [.ref e]) Q E s := by
  refine callType_codes (Q₁ := fun obj s₁ => obj = .ref s.heap.objs.size ∧ s₁ = { s with heap := s.heap.push { cls := .type "list", data := .seq #[] } }) PySem.F.called_list (PySem.F.typeCall_list_1 _) PySem.F.entry_list_init
    (code_list_new _ ⟨rfl, rfl⟩) fun obj s₁ h₁ => ?_
  obtain ⟨rfl, rfl⟩ := h₁
  have hS : (s.heap.push { cls := .type "list", data := .seq #[] }).get? s.heap.objs.size = some { cls := .type "list", data := .seq #[] } := Heap.get?_push_size _ rfl
  have hel : e < s.heap.objs.size := Heap.lt_size he
  refine ⟨⟨_, hS, rfl⟩, PySem.F.args_list_init_2 _ _, init_en (A := A.in1) hh hel hie hlt0 hn (Heap.get?_push_of_some _ he) (hI.at fun o x => Heap.get?_push_of_some _ x) (hL.at fun o x => Heap.get?_push_of_some _ x) hS (fun h' tk acc c as hk hS' hl hG hacc => ?_)⟩
  exact ⟨rfl, hQ h' tk acc c as (fun b o h2 h3 e => hk b o (Nat.ne_of_lt (Heap.lt_size e)) h2 h3 (Heap.get?_push_of_some _ e)) hS' hl hG hacc⟩
end
/-! ### over the layer -/
/-- the pairs tracked at their addresses -/
def putP : Hp → List Addr → List V → Int → Hp
  | H, a :: as, x :: xs, k => putP (upd H a (.tup [.int k, x])) as xs (k + 1)
  | H, _, _, _ => H
theorem putP_off {b : Addr} : ∀ (as : List Addr) (xs : List V) (H : Hp) (k : Int), b ∉ as → putP H as xs k b = H b
  | [], _, _, _, _ => rfl
  | _ :: _, [], _, _, _ => rfl
  | a :: as, x :: xs, H, k, h => by
    show putP (upd H a (.tup [.int k, x])) as xs (k + 1) b = H b
    rw [putP_off as xs _ _ (fun z => h (List.mem_cons_of_mem _ z)), upd_ne (fun z => h (by rw [z]; exact List.mem_cons_self))]
theorem putP_at : ∀ (as : List Addr) (xs : List V) (H : Hp) (k : Int), as.Nodup → as.length = xs.length → ∀ (j : Nat) (a : Addr), as[j]? = some a → ∃ x, xs[j]? = some x ∧ putP H as xs k a = some (.tup [.int (k + j), x])
  | [], _, _, _, _, _, j, a, h => by simp at h
  | _ :: _, [], _, _, _, h, _, _, _ => by cases h
  | a :: as, x :: xs, H, k, hn, hl, 0, b, h => by
    have e : a = b := Option.some.inj h
    subst e
    refine ⟨x, rfl, ?_⟩
    show putP (upd H a (.tup [.int k, x])) as xs (k + 1) a = _
    rw [putP_off as xs _ _ (List.nodup_cons.mp hn).1, upd_same]
    have e1 : k + ((0 : Nat) : Int) = k := by omega
    rw [e1]
  | a :: as, x :: xs, H, k, hn, hl, j + 1, b, h => by
    obtain ⟨y, h1, h2⟩ := putP_at as xs (upd H a (.tup [.int k, x])) (k + 1) (List.nodup_cons.mp hn).2 (Nat.succ.inj hl) j b h
    refine ⟨y, h1, ?_⟩
    have e1 : k + ((j + 1 : Nat) : Int) = k + 1 + (j : Int) := by omega
    rw [e1]
    exact h2
theorem refs_vals : ∀ as : List Addr, Vals (as.map V.ref) (as.map Value.ref)
  | [] => .nil
  | _ :: as => .cons rfl (refs_vals as)
/-- what list(enumerate(xs, start=k)) gives: a new list at p of the new pairs at ts -/
def rEnumL (K : PySem.W.Frag) : V → V → Hp → VK → Prop := fun x y H Q => ∃ (l : Addr) (xs : List V) (k0 : Int), x = .ref l ∧ y = .int k0 ∧ SqL K H l xs ∧ -(2 ^ 63) ≤ k0 ∧ k0 < 2 ^ 63 ∧
  ∀ (H' : Hp) (p : Addr) (ts : List Addr), Same H H' → H p = none → (∀ t ∈ ts, H t = none) → p ∉ ts → ts.Nodup → ts.length = xs.length → H' p = some (.lst (ts.map V.ref)) →
    (∀ (j : Nat) (t : Addr), ts[j]? = some t → ∃ v, xs[j]? = some v ∧ H' t = some (.tup [.int (k0 + j), v])) → Q (.ref p) H'
section
variable {X : Cx} {pins : List (Addr × Obj)} {σ : L2.St} {H : Hp} {s : Shared}
theorem pairs_laid {N : Addr} {h' : Heap} {tk : Nat} {xs : List V} {its : List Value} {k0 : Int} {acc : Array Value} {c : Nat} {as : List Addr} (I : Inv X pins σ H s) (hN : s.heap.objs.size ≤ N) (hz : xs.length ≤ sizeLine) (kv : Vals xs its)
    (hk : ∀ b o, s.heap.get? b = some o → h'.get? b = some o) (hS : h'.get? N = some { cls := .type "list", dict := none, data := .seq acc c, slots := #[] }) (hl : as.length = its.length) (hG : PrG k0 its.toArray N h' as) (hacc : acc.toList = as.map Value.ref) :
    ∃ H' : Hp, Same H H' ∧ H N = none ∧ (∀ t ∈ as, H t = none) ∧ N ∉ as ∧ as.Nodup ∧ H' N = some (.lst (as.map V.ref)) ∧ (∀ (j : Nat) (t : Addr), as[j]? = some t → ∃ v, xs[j]? = some v ∧ H' t = some (.tup [.int (k0 + j), v])) ∧ Inv X pins σ H' { s with heap := h', toks := tk } := by
  have lk : xs.length = its.length := kv.length
  have hSn : N ∉ as := fun z => Nat.lt_irrefl _ (hG.above _ z)
  have nd : as.Nodup := List.Pairwise.imp (fun {a b} (h : a < b) => Nat.ne_of_lt h) hG.rise
  have new : ∀ t ∈ as, H t = none := fun t ht => I.hok.fresh (Nat.le_trans hN (Nat.le_of_lt (hG.above t ht)))
  have newS : H N = none := I.hok.fresh hN
  have atP := putP_at as xs (upd H N (.lst (as.map V.ref))) k0 nd (by omega)
  have off : ∀ b, b ∉ as → b ≠ N → putP (upd H N (.lst (as.map V.ref))) as xs k0 b = H b := fun b h1 h2 => by rw [putP_off as xs _ _ h1, upd_ne h2]
  have low : ∀ b o, s.heap.get? b = some o → b ∉ as ∧ b ≠ N := fun b o e => ⟨fun z => absurd (Heap.lt_size e) (Nat.not_lt.mpr (Nat.le_trans hN (Nat.le_of_lt (hG.above b z)))), Nat.ne_of_lt (Nat.lt_of_lt_of_le (Heap.lt_size e) hN)⟩
  have kp : ∀ b u, H b = some u → (putP (upd H N (.lst (as.map V.ref))) as xs k0) b = some u := fun b u e => by
    rw [off b (fun z => by rw [new b z] at e; cases e) (fun z => by rw [z, newS] at e; cases e)]
    exact e
  have eS : putP (upd H N (.lst (as.map V.ref))) as xs k0 N = some (.lst (as.map V.ref)) := by rw [putP_off as xs _ _ hSn, upd_same]
  refine ⟨putP (upd H N (.lst (as.map V.ref))) as xs k0, kp, newS, new, hSn, nd, eS, atP, ?_⟩
  refine I.call' (ch := []) rfl ⟨fun b o q _ _ _ => hk b o q, fun b o q _ _ _ => ⟨o.slots, hk b o q⟩, fun b o q n _ => ?_, fun b o q _ => ⟨o, hk b o q⟩, fun b xs q => kp b _ q, fun b o u q => kp b _ q, fun b ps q => ⟨#[], by rw [kp b _ q]; simp⟩⟩ (fun b u q => ?_) I.bare fun b z => by simp at z
  · obtain ⟨z1, z2⟩ := low b o q
    rw [off b z1 z2]
    exact n
  · by_cases hb : b ∈ as
    · obtain ⟨j, hj⟩ := List.mem_iff_getElem?.mp hb
      obtain ⟨x, e1, e3⟩ := atP j b hj
      rw [e3] at q
      cases q
      obtain ⟨t, y, f1, f2⟩ := hG.pairs j b hj
      have f3 : its[j]? = some y := by rw [← f1]; simp
      obtain ⟨u, f4, rk0⟩ := Vals.get kv e1
      have rk : RelV x y := by
        rw [f3] at f4
        rw [Option.some.inj f4]
        exact rk0
      exact ⟨by show 2 ≤ sizeLine; decide, [.int (k0 + j) t, y], .cons ⟨t, rfl⟩ (.cons rk .nil), ⟨_, f2, rfl, _, rfl⟩⟩
    · by_cases hb2 : b = N
      · rw [hb2] at q ⊢
        rw [eS] at q
        cases q
        refine ⟨by rw [List.length_map]; omega, acc.toList, c, by rw [hacc]; exact refs_vals as, ?_⟩
        rw [Array.toArray_toList]
        exact hS
      · rw [off b hb hb2] at q
        exact (I.hok b u q).stay (fun d v _ y => hk d v y) (fun d y => kp d _ y) fun d xs y => kp d _ y
/-- a call of a built-in class with keywords -/
theorem callWith_tyKw {M : Model} {A : Around} {E : Value → Shared → Prop} {env : Env} {pos : Pos} {T : String} {e : Expr} {rest : List Expr} {kws : List Keyword} {Q : Value → Shared → Prop}
    (h : wpAny M A (spliced (backTo pos (starEach (e :: rest) env))) (fun vs s₁ => wpAny M A (evalAll ((backToKw pos (keywordEach kws env)).map (·.2)))
      (fun kvs s₂ => wpAny M A (call (.type T) vs (((backToKw pos (keywordEach kws env)).filterMap (·.1)).zip kvs)) Q E s₂) E s₁) E s)
    (he : backTo pos (starEach (e :: rest) env) = (false, eval e env) :: backTo pos (starEach rest env) := by rfl)
    (hplain : (backTo pos (starEach (e :: rest) env)).any (·.1) = false := by rfl)
    (hall : (backToKw pos (keywordEach kws env)).all (·.1.isSome) = true := by rfl)
    (hkw : (backToKw pos (keywordEach kws env)).any (·.1.isNone) = false := by rfl) :
    wpAny M A (callWith pos (.type T) [] (backTo pos (starEach (e :: rest) env)) (backToKw pos (keywordEach kws env))) Q E s := by
  unfold callWith
  refine wpAny_bind (wpAny_holding (wpAny_mono (Q := fun a s₁ => wpAny M A (call (.type T) ([] ++ a.pos) a.kw) Q E s₁) ?_ (fun a s₁ h₁ => wpAny_bind (wpAny_standAt ?_)) fun _ _ x => x))
  · rw [he] at h ⊢
    exact evalArgs_kwB hall h
  · simp only [hplain, hkw, Bool.or_false]
    refine wpAny_bind (wpAny_pure ?_)
    exact wpAny_bind (wpAny_mono h₁ (fun r s₂ hr => wpAny_bind (wpAny_holding (wpAny_point (wpAny_pure hr)))) fun _ _ x => x)
/-- list(enumerate(e, start=k)) -/
def tEnumL (K : PySem.W.Frag) (te tk : TE) : TE := fun σ H Q => te σ H fun x H1 => tk σ H1 fun y H2 => rEnumL K x y H2 Q
end
section
variable {X : Cx} {e k : Expr} {te tk : TE} {p p2 kp pos pos2 : Pos}
theorem pe_listEnum (hc : X.calm = true) (he : PE X e te) (hk : PE X k tk) (hg : Gl X "list") (hm : X.mg "list" = none) (hg2 : Gl X "enumerate") (hm2 : X.mg "enumerate" = none)
    (hs : starEach [.Call (.Name "enumerate" p2) [e] [⟨some "start", k, kp⟩] pos2] X.env = (false, eval (.Call (.Name "enumerate" p2) [e] [⟨some "start", k, kp⟩] pos2) X.env) :: starEach [] X.env := by rfl)
    (hse : starEach [e] X.env = (false, eval e X.env) :: starEach [] X.env := by rfl) :
    PE X (.Call (.Name "list" p) [.Call (.Name "enumerate" p2) [e] [⟨some "start", k, kp⟩] pos2] [] pos) (tEnumL X.K te tk) := by
  refine ⟨fun pins s σ H Q I hq => ?_⟩
  refine wpAny_Call_Name_kw (ld_blt I hg hm (by decide +kernel : bootBuiltins "list" = some (.type "list")) ?_)
  refine PyProof.Rows.callWith_type1 ?_ hs rfl
  rw [hs]
  show wpAny _ _ (spliced ((false, eval (.Call (.Name "enumerate" p2) [e] [⟨some "start", k, kp⟩] pos2) X.env) :: backTo pos (starEach [] X.env))) _ _ s
  refine Calls.spliced_cons ?_
  refine wpAny_Call_Name_kw (ld_blt I hg2 hm2 (by decide +kernel : bootBuiltins "enumerate" = some (.type "enumerate")) ?_)
  have hkw : PK X [⟨some "start", k, kp⟩] (tCons tk tNil) := pk_cons hk pk_nil
  have hs2 : backTo pos2 (starEach [e] X.env) = (false, eval e X.env) :: backTo pos2 (starEach [] X.env) := by
    rw [hse]
    rfl
  refine callWith_tyKw ?_ hs2 (by rw [hs2]; rfl)
  rw [hs2]
  refine Calls.spliced_cons (thn (he.run pins s σ H _ I hq) fun u s1 ⟨x, H1, I1, rx, q1⟩ => ?_)
  refine Calls.spliced_nil ?_
  refine thn (hkw.run pos2 pins s1 σ H1 (fun zs H2 => match zs with | [y] => rEnumL X.K x y H2 Q | _ => False) I1 q1) fun ws s2 ⟨zs, H2, I2, rz, q2⟩ => ?_
  cases rz with
  | nil => exact False.elim q2
  | cons r1 rz =>
    cases rz with
    | cons _ _ => exact False.elim q2
    | nil =>
      obtain ⟨l, xs, k0, ex, ey, hl, hk0, hk1, q⟩ := (show rEnumL X.K x _ H2 Q from q2)
      subst ex
      subst ey
      obtain rfl : u = Value.ref l := rx
      obtain ⟨t, rfl⟩ := (show ∃ t, _ = Value.int k0 t from r1)
      obtain ⟨its, kv, pl, hz⟩ := I2.list hl
      have lk : xs.length = its.length := kv.length
      have hl0 := pl.isList
      show wpAny _ _ (call (.type "enumerate") [.ref l] [(Str.ofString "start", .int k0 t)]) _ _ s2
      refine enum_begins_start (begins_list l its.toArray) hl0 hk0 hk1 fun h' he' hi' hz' hkp => ?_
      refine Calls.spliced_nil ?_
      have hll : l < s2.heap.objs.size := by
        obtain ⟨o, ho, _⟩ := hl0
        exact Heap.lt_size ho
      refine call_list_en (s := { s2 with heap := h' }) (I2.ok.hd hc) (Nat.lt_succ_self _) hll (by rw [List.size_toArray]; omega) he' ⟨_, hi', rfl, rfl⟩ (hl0.at fun o x => hkp l o x) fun h2 tk acc c as k2 hS hla hG hacc => ?_
      have old : ∀ b o, s2.heap.get? b = some o → h2.get? b = some o := fun b o e => k2 b o (Nat.ne_of_lt (Nat.lt_succ_of_lt (Heap.lt_size e))) (Nat.ne_of_lt (Heap.lt_size e)) (hkp b o e)
      obtain ⟨H', c1, c2, c3, c4, c5, c6, c7, J⟩ := pairs_laid (tk := tk) I2 (by show s2.heap.objs.size ≤ h'.objs.size; rw [hz']; omega) hz kv old hS (by rw [List.size_toArray] at hla; exact hla) hG hacc
      exact ⟨.ref _, H', J, rfl, q H' _ as c1 c2 c3 c4 c5 (by rw [List.size_toArray] at hla; omega) c6 c7⟩
end
end Fh

/-! Own errors: methods that may raise within a try, what is known of the error in its suite. -/
namespace Fh
open PySem PySem.Spec PyProof.Rows L2 He
section
variable {X : Cx} {CX : CXT} {k : Nat} {f C : Addr} {fd : FuncData} {ps : List Str} {sp : Sp} {E : L2.St → XK} {m : Str} {apos pos : Pos} {e o : Expr} {es : List Expr} {ta : TE} {t : TA}
def tMethW (C : Addr) (m : Str) (sp : Sp) (E : L2.St → XK) (ta : TE) (t : TA) : TE := fun σ H Q => ta σ H fun x H1 => ∃ a dx fs, x = .ref a ∧ H1 a = some (.ins C dx fs) ∧ fs.lookup m = none ∧ t σ H1 fun vs H2 => sp (x :: vs) H2 Q (E σ)
/-- o.m(e, ..), what it raises is wished for at the caller's slots -/
theorem pe_methW {pl : Sem Bool} (he : PE X o ta) (c : Cls X.K C) (hm : Meth X.K C m f) (F : FnOk X.prog X.w X.K X.mg X.base CX k f fd ps sp) (hr : Room k X.A) (hb : Binds X.K fd ps []) (hx : ∀ σ, PassesAt CX X σ (E σ)) (ha : PA X (e :: es) t)
    (hst : starEach (e :: es) X.env = (false, eval e X.env) :: starEach es X.env := by rfl) (hpl : (backTo pos (starEach es X.env)).any (·.1) = false := by rfl)
    (ht : eval (.Call (.Attribute o m apos) (e :: es) [] pos) X.env = (do
      let ov ← eval o X.env
      standAt apos.atName
      let (f, first) ← holding [ov] (getMethod ov m pl)
      callWith pos f first (backTo pos (starEach (e :: es) X.env)) (backToKw pos (keywordEach [] X.env))) := by rfl) :
    PE X (.Call (.Attribute o m apos) (e :: es) [] pos) (tMethW C m sp E ta t) := by
  refine ⟨fun pins s σ H Q I h => ?_⟩
  refine PySem.W.methodCall_KW (pl := pl) (thn (he.run pins s σ H _ I h) fun u s1 ⟨x, H1, I1, rx, a, dx, fs, ex, ea, l, q⟩ => ?_) ht
  subst ex
  obtain rfl : u = Value.ref a := rx
  refine getmeth_ok I1 ea c hm l ?_
  refine PySem.W.callWith_K (first := [.ref a]) (h₀ := X.base) I.ok.mod.kin hm.kp (thn (ha.run pos pins s1 σ H1 _ I1 q) fun us s2 ⟨vs, H2, I2, r, q2⟩ => ⟨I2.kIn, ?_⟩) hst hpl
  exact run_fnS (us := .ref a :: us) (vs := .ref a :: vs) F hr hb (hx σ) I2 (.cons rfl r) q2
end
/-- a block whose term leans on something that the reading says -/
theorem pss_when {X : Cx} {st : List Stmt} {t : TS} {p : Prop} (h : p → PSs X st t) : PSs X st (fun D σ H => p ∧ t D σ H) := ⟨fun pins s σ H D I q => (h q.1).run pins s σ H D I q.2⟩
/-- an own error class, as isinstance asks its instances -/
def excCB (x : Str) (K : PySem.W.Frag) : Bool := eqO (PySem.W.findIn K (.ref (ga K x)) "__getattribute__") (some (some (.builtin "BaseException.__getattribute__"))) && (eqO (PySem.W.findIn K (.ref (ga K x)) "__getattr__") (some none) &&
  (decide (PySem.W.subIn K (.ref (ga K x)) (.type "BaseException") = some true) && (PySem.W.hasDictIn K (ga K x) && (eqO (PySem.W.findIn K (.ref (ga K x)) "__class__") (some (some (.builtin "object.__class__"))) &&
  (eqO (PySem.W.specialIn K (.builtin "object.__class__") "__get__") (some (some (.builtin "getset_descriptor.__get__"))) && (decide (PySem.W.takesIn K (.builtin "object.__class__") = some true) && decide (PySem.W.mroIn K (ga K x) (.type "object") = some true)))))))
theorem excC_ok {K : PySem.W.Frag} {x : Str} (h : excCB x K = true) : ExcC K (ga K x) := by
  obtain ⟨h1, h⟩ := ba h
  obtain ⟨h2, h⟩ := ba h
  obtain ⟨h3, h⟩ := ba h
  obtain ⟨h4, h⟩ := ba h
  obtain ⟨h5, h⟩ := ba h
  obtain ⟨h6, h⟩ := ba h
  obtain ⟨h7, h8⟩ := ba h
  exact ⟨eqO_ok h1, eqO_ok h2, of_decide_eq_true h3, h4, eqO_ok h5, eqO_ok h6, of_decide_eq_true h7, of_decide_eq_true h8⟩
/-- is an instance of the class x one of the class y | of the built-in class n -/
def kitOB (x y : Str) (b : Bool) (K : PySem.W.Frag) : Bool := decide (PySem.W.kitOne K (.ref (ga K x)) (.ref (ga K y)) = some b)
theorem kitO_ok {K : PySem.W.Frag} {x y : Str} {b : Bool} (h : kitOB x y b K = true) : PySem.W.kitOne K (.ref (ga K x)) (.ref (ga K y)) = some b := of_decide_eq_true h
def kitTB (x : Str) (n : String) (b : Bool) (K : PySem.W.Frag) : Bool := decide (PySem.W.kitOne K (.ref (ga K x)) (.type n) = some b)
theorem kitT_ok {K : PySem.W.Frag} {x : Str} {n : String} {b : Bool} (h : kitTB x n b K = true) : PySem.W.kitOne K (.ref (ga K x)) (.type n) = some b := of_decide_eq_true h
end Fh

/-! The channels between three sites over one network. -/
namespace K04
open PySem PySem.Spec PyProof.Rows L2 Fh
/-! ### the text by places -/
def top (i : Nat) : Stmt := PySem.Challenge.pw_farheap_k04_whole_letters_once_in_order.main.body.getD i (.Pass ⟨0, 0, 0, 0⟩)
abbrev s_check_index : Stmt := top 4
abbrev s_Outgoing_init : Stmt := inClass (top 6) 0
abbrev s_Outgoing_put : Stmt := inClass (top 6) 1
abbrev s_Outgoing_due : Stmt := inClass (top 6) 2
abbrev s_Outgoing_acknowledge : Stmt := inClass (top 6) 3
abbrev s_Outgoing_put_count : Stmt := inClass (top 6) 4
abbrev s_Outgoing_acknowledged : Stmt := inClass (top 6) 5
abbrev s_Incoming_init : Stmt := inClass (top 7) 0
abbrev s_Incoming_accepts : Stmt := inClass (top 7) 1
abbrev s_Incoming_accept : Stmt := inClass (top 7) 2
abbrev s_Network_init : Stmt := inClass (top 8) 0
abbrev s_Network_len : Stmt := inClass (top 8) 1
abbrev s_Network_iter : Stmt := inClass (top 8) 2
abbrev s_Network_post : Stmt := inClass (top 8) 3
abbrev s_Network_take_out : Stmt := inClass (top 8) 4
abbrev s_Network_repeat : Stmt := inClass (top 8) 5
abbrev s_Network_packets : Stmt := inClass (top 8) 6
abbrev s_law_number : Stmt := top 10
abbrev s_law_send : Stmt := top 11
abbrev s_law_take : Stmt := top 12
abbrev s_law_deliver : Stmt := top 13
abbrev s_law_holds : Stmt := top 14
abbrev s_law_put : Stmt := top 15
abbrev s_law_ends_well : Stmt := top 16
abbrev s_law : Stmt := top 17
theorem sc_check_index : FnScope ["index", "count", "what"] ["index", "count", "what"] (defScope s_check_index) := ⟨rfl, rfl, rfl, by decide +kernel, rfl, by decide +kernel, by decide +kernel⟩
theorem sc_Outgoing_init : FnScope ["self"] ["self"] (defScope s_Outgoing_init) := ⟨rfl, rfl, rfl, by decide +kernel, rfl, by decide +kernel, by decide +kernel⟩
theorem sc_Outgoing_put : FnScope ["self", "letter"] ["self", "letter"] (defScope s_Outgoing_put) := ⟨rfl, rfl, rfl, by decide +kernel, rfl, by decide +kernel, by decide +kernel⟩
theorem sc_Outgoing_due : FnScope ["self"] ["self"] (defScope s_Outgoing_due) := ⟨rfl, rfl, rfl, by decide +kernel, rfl, by decide +kernel, by decide +kernel⟩
theorem sc_Outgoing_acknowledge : FnScope ["self", "number", "reached"] ["self", "number"] (defScope s_Outgoing_acknowledge) := ⟨rfl, rfl, rfl, by decide +kernel, rfl, by decide +kernel, by decide +kernel⟩
theorem sc_Outgoing_put_count : FnScope ["self"] ["self"] (defScope s_Outgoing_put_count) := ⟨rfl, rfl, rfl, by decide +kernel, rfl, by decide +kernel, by decide +kernel⟩
theorem sc_Outgoing_acknowledged : FnScope ["self"] ["self"] (defScope s_Outgoing_acknowledged) := ⟨rfl, rfl, rfl, by decide +kernel, rfl, by decide +kernel, by decide +kernel⟩
theorem sc_Incoming_init : FnScope ["self"] ["self"] (defScope s_Incoming_init) := ⟨rfl, rfl, rfl, by decide +kernel, rfl, by decide +kernel, by decide +kernel⟩
theorem sc_Incoming_accepts : FnScope ["self", "number"] ["self", "number"] (defScope s_Incoming_accepts) := ⟨rfl, rfl, rfl, by decide +kernel, rfl, by decide +kernel, by decide +kernel⟩
theorem sc_Incoming_accept : FnScope ["self"] ["self"] (defScope s_Incoming_accept) := ⟨rfl, rfl, rfl, by decide +kernel, rfl, by decide +kernel, by decide +kernel⟩
theorem sc_Network_init : FnScope ["self"] ["self"] (defScope s_Network_init) := ⟨rfl, rfl, rfl, by decide +kernel, rfl, by decide +kernel, by decide +kernel⟩
theorem sc_Network_len : FnScope ["self"] ["self"] (defScope s_Network_len) := ⟨rfl, rfl, rfl, by decide +kernel, rfl, by decide +kernel, by decide +kernel⟩
theorem sc_Network_iter : FnScope ["self"] ["self"] (defScope s_Network_iter) := ⟨rfl, rfl, rfl, by decide +kernel, rfl, by decide +kernel, by decide +kernel⟩
theorem sc_Network_post : FnScope ["self", "packet"] ["self", "packet"] (defScope s_Network_post) := ⟨rfl, rfl, rfl, by decide +kernel, rfl, by decide +kernel, by decide +kernel⟩
theorem sc_Network_take_out : FnScope ["self", "index"] ["self", "index"] (defScope s_Network_take_out) := ⟨rfl, rfl, rfl, by decide +kernel, rfl, by decide +kernel, by decide +kernel⟩
theorem sc_Network_repeat : FnScope ["self", "index"] ["self", "index"] (defScope s_Network_repeat) := ⟨rfl, rfl, rfl, by decide +kernel, rfl, by decide +kernel, by decide +kernel⟩
theorem sc_Network_packets : FnScope ["self"] ["self"] (defScope s_Network_packets) := ⟨rfl, rfl, rfl, by decide +kernel, rfl, by decide +kernel, by decide +kernel⟩
theorem sc_law_number : FnScope ["cell", "k", "first", "second"] ["cell", "k"] (defScope s_law_number) := ⟨rfl, rfl, rfl, by decide +kernel, rfl, by decide +kernel, by decide +kernel⟩
theorem sc_law_send : FnScope ["outs", "puts", "acked", "net", "bag", "source", "target", "key", "first", "expected", "due", "number", "letter", "k"] ["outs", "puts", "acked", "net", "bag", "source"] (defScope s_law_send) := ⟨rfl, rfl, rfl, by decide +kernel, rfl, by decide +kernel, by decide +kernel⟩
theorem sc_law_take : FnScope ["net", "bag", "index", "packet"] ["net", "bag", "index"] (defScope s_law_take) := ⟨rfl, rfl, rfl, by decide +kernel, rfl, by decide +kernel, by decide +kernel⟩
theorem sc_law_deliver : FnScope ["outs", "ends", "taken", "acked", "net", "bag", "index", "source", "target", "kind", "number", "letter", "key"] ["outs", "ends", "taken", "acked", "net", "bag", "index"] (defScope s_law_deliver) := ⟨rfl, rfl, rfl, by decide +kernel, rfl, by decide +kernel, by decide +kernel⟩
theorem sc_law_holds : FnScope ["outs", "ends", "puts", "taken", "acked", "keys", "key"] ["outs", "ends", "puts", "taken", "acked", "keys"] (defScope s_law_holds) := ⟨rfl, rfl, rfl, by decide +kernel, rfl, by decide +kernel, by decide +kernel⟩
theorem sc_law_put : FnScope ["out", "put", "part", "count", "k", "value", "letter"] ["out", "put", "part"] (defScope s_law_put) := ⟨rfl, rfl, rfl, by decide +kernel, rfl, by decide +kernel, by decide +kernel⟩
theorem sc_law_ends_well : FnScope ["outs", "ends", "puts", "taken", "acked", "keys", "net", "bag", "source", "k", "key"] ["outs", "ends", "puts", "taken", "acked", "keys", "net", "bag"] (defScope s_law_ends_well) := ⟨rfl, rfl, rfl, by decide +kernel, rfl, by decide +kernel, by decide +kernel⟩
theorem sc_law : FnScope ["script", "keys", "outs", "ends", "puts", "taken", "acked", "key", "net", "bag", "j", "part", "deed", "rest", "good", "k"] ["script"] (defScope s_law) := ⟨rfl, rfl, rfl, by decide +kernel, rfl, by decide +kernel, by decide +kernel⟩
/-! ### what the top has written -/
/-- what the top has written -/
structure Txt (K : PySem.W.Frag) (mg : Str → Option Value) where
  mg_FarheapError : mg "FarheapError" = some (.ref (He.ga K "FarheapError"))
  mg_Unknown : mg "Unknown" = some (.ref (He.ga K "Unknown"))
  mg_Outgoing : mg "Outgoing" = some (.ref (He.ga K "Outgoing"))
  cl_Outgoing : Cls K (He.ga K "Outgoing")
  n_Outgoing__letters : NoAttr K (He.ga K "Outgoing") "_letters"
  n_Outgoing__acknowledged : NoAttr K (He.ga K "Outgoing") "_acknowledged"
  mg_Incoming : mg "Incoming" = some (.ref (He.ga K "Incoming"))
  cl_Incoming : Cls K (He.ga K "Incoming")
  n_Incoming_count : NoAttr K (He.ga K "Incoming") "count"
  mg_Network : mg "Network" = some (.ref (He.ga K "Network"))
  cl_Network : Cls K (He.ga K "Network")
  n_Network__packets : NoAttr K (He.ga K "Network") "_packets"
  g_check_index : mg "check_index" = some (.ref (He.ga K "check_index"))
  mk_Outgoing : Mk K (He.ga K "Outgoing") (He.ma K (He.ga K "Outgoing") "__init__")
  m_Outgoing_put : Meth K (He.ga K "Outgoing") "put" (He.ma K (He.ga K "Outgoing") "put")
  m_Outgoing_due : Meth K (He.ga K "Outgoing") "due" (He.ma K (He.ga K "Outgoing") "due")
  m_Outgoing_acknowledge : Meth K (He.ga K "Outgoing") "acknowledge" (He.ma K (He.ga K "Outgoing") "acknowledge")
  mk_Incoming : Mk K (He.ga K "Incoming") (He.ma K (He.ga K "Incoming") "__init__")
  m_Incoming_accepts : Meth K (He.ga K "Incoming") "accepts" (He.ma K (He.ga K "Incoming") "accepts")
  m_Incoming_accept : Meth K (He.ga K "Incoming") "accept" (He.ma K (He.ga K "Incoming") "accept")
  mk_Network : Mk K (He.ga K "Network") (He.ma K (He.ga K "Network") "__init__")
  m_Network_len : Meth K (He.ga K "Network") "__len__" (He.ma K (He.ga K "Network") "__len__")
  m_Network_iter : Meth K (He.ga K "Network") "__iter__" (He.ma K (He.ga K "Network") "__iter__")
  m_Network_post : Meth K (He.ga K "Network") "post" (He.ma K (He.ga K "Network") "post")
  m_Network_take_out : Meth K (He.ga K "Network") "take_out" (He.ma K (He.ga K "Network") "take_out")
  m_Network_repeat : Meth K (He.ga K "Network") "repeat" (He.ma K (He.ga K "Network") "repeat")
  m_Network_packets : Meth K (He.ga K "Network") "packets" (He.ma K (He.ga K "Network") "packets")
  g_law_number : mg "_law_number" = some (.ref (He.ga K "_law_number"))
  g_law_send : mg "_law_send" = some (.ref (He.ga K "_law_send"))
  g_law_take : mg "_law_take" = some (.ref (He.ga K "_law_take"))
  g_law_deliver : mg "_law_deliver" = some (.ref (He.ga K "_law_deliver"))
  g_law_holds : mg "_law_holds" = some (.ref (He.ga K "_law_holds"))
  g_law_put : mg "_law_put" = some (.ref (He.ga K "_law_put"))
  g_law_ends_well : mg "_law_ends_well" = some (.ref (He.ga K "_law_ends_well"))
  g_law : mg "law" = some (.ref (He.ga K "law"))
  z_list : mg "list" = none
  z_enumerate : mg "enumerate" = none
  z_min : mg "min" = none
  z_len : mg "len" = none
  z_property : mg "property" = none
  z_iter : mg "iter" = none
  z_int : mg "int" = none
  z_range : mg "range" = none
  z_isinstance : mg "isinstance" = none
  z_tuple : mg "tuple" = none
  z_max : mg "max" = none
  x_Unknown : PySem.W.excIn K (He.ga K "Unknown") He.veBase "ValueError.__new__" = true ∧ PySem.W.keepIn K (.ref (He.ga K "Unknown")) = true ∧ PySem.W.subIn K (.ref (He.ga K "Unknown")) (.type "BaseException") = some true ∧ PySem.W.typeIn K (.ref (He.ga K "Unknown")) = some (.type "type")
  p_Outgoing_put_count : PropOf K (He.ga K "Outgoing") "put_count" (He.ma K (He.ga K "Outgoing") "put_count") (Fh.pgA K (He.ga K "Outgoing") "put_count")
  p_Outgoing_acknowledged : PropOf K (He.ga K "Outgoing") "acknowledged" (He.ma K (He.ga K "Outgoing") "acknowledged") (Fh.pgA K (He.ga K "Outgoing") "acknowledged")
  fd_check_index : FuncData
  F_check_index : FunD K "check_index" "check_index" (defArgs s_check_index) (defBody s_check_index) (defScope s_check_index) [] [] (He.ga K "check_index") fd_check_index
  fd_Outgoing_init : FuncData
  F_Outgoing_init : FunD K "__init__" "Outgoing.__init__" (defArgs s_Outgoing_init) (defBody s_Outgoing_init) (defScope s_Outgoing_init) [] [] (He.ma K (He.ga K "Outgoing") "__init__") fd_Outgoing_init
  fd_Outgoing_put : FuncData
  F_Outgoing_put : FunD K "put" "Outgoing.put" (defArgs s_Outgoing_put) (defBody s_Outgoing_put) (defScope s_Outgoing_put) [] [] (He.ma K (He.ga K "Outgoing") "put") fd_Outgoing_put
  fd_Outgoing_due : FuncData
  F_Outgoing_due : FunD K "due" "Outgoing.due" (defArgs s_Outgoing_due) (defBody s_Outgoing_due) (defScope s_Outgoing_due) [] [] (He.ma K (He.ga K "Outgoing") "due") fd_Outgoing_due
  fd_Outgoing_acknowledge : FuncData
  F_Outgoing_acknowledge : FunD K "acknowledge" "Outgoing.acknowledge" (defArgs s_Outgoing_acknowledge) (defBody s_Outgoing_acknowledge) (defScope s_Outgoing_acknowledge) [] [] (He.ma K (He.ga K "Outgoing") "acknowledge") fd_Outgoing_acknowledge
  fd_Outgoing_put_count : FuncData
  F_Outgoing_put_count : FunD K "put_count" "Outgoing.put_count" (defArgs s_Outgoing_put_count) (defBody s_Outgoing_put_count) (defScope s_Outgoing_put_count) [] [] (Fh.pgA K (He.ga K "Outgoing") "put_count") fd_Outgoing_put_count
  fd_Outgoing_acknowledged : FuncData
  F_Outgoing_acknowledged : FunD K "acknowledged" "Outgoing.acknowledged" (defArgs s_Outgoing_acknowledged) (defBody s_Outgoing_acknowledged) (defScope s_Outgoing_acknowledged) [] [] (Fh.pgA K (He.ga K "Outgoing") "acknowledged") fd_Outgoing_acknowledged
  fd_Incoming_init : FuncData
  F_Incoming_init : FunD K "__init__" "Incoming.__init__" (defArgs s_Incoming_init) (defBody s_Incoming_init) (defScope s_Incoming_init) [] [] (He.ma K (He.ga K "Incoming") "__init__") fd_Incoming_init
  fd_Incoming_accepts : FuncData
  F_Incoming_accepts : FunD K "accepts" "Incoming.accepts" (defArgs s_Incoming_accepts) (defBody s_Incoming_accepts) (defScope s_Incoming_accepts) [] [] (He.ma K (He.ga K "Incoming") "accepts") fd_Incoming_accepts
  fd_Incoming_accept : FuncData
  F_Incoming_accept : FunD K "accept" "Incoming.accept" (defArgs s_Incoming_accept) (defBody s_Incoming_accept) (defScope s_Incoming_accept) [] [] (He.ma K (He.ga K "Incoming") "accept") fd_Incoming_accept
  fd_Network_init : FuncData
  F_Network_init : FunD K "__init__" "Network.__init__" (defArgs s_Network_init) (defBody s_Network_init) (defScope s_Network_init) [] [] (He.ma K (He.ga K "Network") "__init__") fd_Network_init
  fd_Network_len : FuncData
  F_Network_len : FunD K "__len__" "Network.__len__" (defArgs s_Network_len) (defBody s_Network_len) (defScope s_Network_len) [] [] (He.ma K (He.ga K "Network") "__len__") fd_Network_len
  fd_Network_iter : FuncData
  F_Network_iter : FunD K "__iter__" "Network.__iter__" (defArgs s_Network_iter) (defBody s_Network_iter) (defScope s_Network_iter) [] [] (He.ma K (He.ga K "Network") "__iter__") fd_Network_iter
  fd_Network_post : FuncData
  F_Network_post : FunD K "post" "Network.post" (defArgs s_Network_post) (defBody s_Network_post) (defScope s_Network_post) [] [] (He.ma K (He.ga K "Network") "post") fd_Network_post
  fd_Network_take_out : FuncData
  F_Network_take_out : FunD K "take_out" "Network.take_out" (defArgs s_Network_take_out) (defBody s_Network_take_out) (defScope s_Network_take_out) [] [] (He.ma K (He.ga K "Network") "take_out") fd_Network_take_out
  fd_Network_repeat : FuncData
  F_Network_repeat : FunD K "repeat" "Network.repeat" (defArgs s_Network_repeat) (defBody s_Network_repeat) (defScope s_Network_repeat) [] [] (He.ma K (He.ga K "Network") "repeat") fd_Network_repeat
  fd_Network_packets : FuncData
  F_Network_packets : FunD K "packets" "Network.packets" (defArgs s_Network_packets) (defBody s_Network_packets) (defScope s_Network_packets) [] [] (He.ma K (He.ga K "Network") "packets") fd_Network_packets
  fd_law_number : FuncData
  F_law_number : FunD K "_law_number" "_law_number" (defArgs s_law_number) (defBody s_law_number) (defScope s_law_number) [] [] (He.ga K "_law_number") fd_law_number
  fd_law_send : FuncData
  F_law_send : FunD K "_law_send" "_law_send" (defArgs s_law_send) (defBody s_law_send) (defScope s_law_send) [] [] (He.ga K "_law_send") fd_law_send
  fd_law_take : FuncData
  F_law_take : FunD K "_law_take" "_law_take" (defArgs s_law_take) (defBody s_law_take) (defScope s_law_take) [] [] (He.ga K "_law_take") fd_law_take
  fd_law_deliver : FuncData
  F_law_deliver : FunD K "_law_deliver" "_law_deliver" (defArgs s_law_deliver) (defBody s_law_deliver) (defScope s_law_deliver) [] [] (He.ga K "_law_deliver") fd_law_deliver
  fd_law_holds : FuncData
  F_law_holds : FunD K "_law_holds" "_law_holds" (defArgs s_law_holds) (defBody s_law_holds) (defScope s_law_holds) [] [] (He.ga K "_law_holds") fd_law_holds
  fd_law_put : FuncData
  F_law_put : FunD K "_law_put" "_law_put" (defArgs s_law_put) (defBody s_law_put) (defScope s_law_put) [] [] (He.ga K "_law_put") fd_law_put
  fd_law_ends_well : FuncData
  F_law_ends_well : FunD K "_law_ends_well" "_law_ends_well" (defArgs s_law_ends_well) (defBody s_law_ends_well) (defScope s_law_ends_well) [] [] (He.ga K "_law_ends_well") fd_law_ends_well
  fd_law : FuncData
  F_law : FunD K "law" "law" (defArgs s_law) (defBody s_law) (defScope s_law) [] [] (He.ga K "law") fd_law
section
variable {K : PySem.W.Frag} {mg : Str → Option Value}
theorem Txt.b_check_index (T : Txt K mg) : Binds K T.fd_check_index ["index", "count", "what"] [] := T.F_check_index.bindsN fun _ _ _ _ _ _ us hl => match us, hl with | [_, _, _], _ => rfl
theorem Txt.b_Outgoing_init (T : Txt K mg) : Binds K T.fd_Outgoing_init ["self"] [] := T.F_Outgoing_init.bindsN fun _ _ _ _ _ _ us hl => match us, hl with | [_], _ => rfl
theorem Txt.b_Outgoing_put (T : Txt K mg) : Binds K T.fd_Outgoing_put ["self", "letter"] [] := T.F_Outgoing_put.bindsN fun _ _ _ _ _ _ us hl => match us, hl with | [_, _], _ => rfl
theorem Txt.b_Outgoing_due (T : Txt K mg) : Binds K T.fd_Outgoing_due ["self"] [] := T.F_Outgoing_due.bindsN fun _ _ _ _ _ _ us hl => match us, hl with | [_], _ => rfl
theorem Txt.b_Outgoing_acknowledge (T : Txt K mg) : Binds K T.fd_Outgoing_acknowledge ["self", "number"] [] := T.F_Outgoing_acknowledge.bindsN fun _ _ _ _ _ _ us hl => match us, hl with | [_, _], _ => rfl
theorem Txt.b_Outgoing_put_count (T : Txt K mg) : Binds K T.fd_Outgoing_put_count ["self"] [] := T.F_Outgoing_put_count.bindsN fun _ _ _ _ _ _ us hl => match us, hl with | [_], _ => rfl
theorem Txt.b_Outgoing_acknowledged (T : Txt K mg) : Binds K T.fd_Outgoing_acknowledged ["self"] [] := T.F_Outgoing_acknowledged.bindsN fun _ _ _ _ _ _ us hl => match us, hl with | [_], _ => rfl
theorem Txt.b_Incoming_init (T : Txt K mg) : Binds K T.fd_Incoming_init ["self"] [] := T.F_Incoming_init.bindsN fun _ _ _ _ _ _ us hl => match us, hl with | [_], _ => rfl
theorem Txt.b_Incoming_accepts (T : Txt K mg) : Binds K T.fd_Incoming_accepts ["self", "number"] [] := T.F_Incoming_accepts.bindsN fun _ _ _ _ _ _ us hl => match us, hl with | [_, _], _ => rfl
theorem Txt.b_Incoming_accept (T : Txt K mg) : Binds K T.fd_Incoming_accept ["self"] [] := T.F_Incoming_accept.bindsN fun _ _ _ _ _ _ us hl => match us, hl with | [_], _ => rfl
theorem Txt.b_Network_init (T : Txt K mg) : Binds K T.fd_Network_init ["self"] [] := T.F_Network_init.bindsN fun _ _ _ _ _ _ us hl => match us, hl with | [_], _ => rfl
theorem Txt.b_Network_len (T : Txt K mg) : Binds K T.fd_Network_len ["self"] [] := T.F_Network_len.bindsN fun _ _ _ _ _ _ us hl => match us, hl with | [_], _ => rfl
theorem Txt.b_Network_iter (T : Txt K mg) : Binds K T.fd_Network_iter ["self"] [] := T.F_Network_iter.bindsN fun _ _ _ _ _ _ us hl => match us, hl with | [_], _ => rfl
theorem Txt.b_Network_post (T : Txt K mg) : Binds K T.fd_Network_post ["self", "packet"] [] := T.F_Network_post.bindsN fun _ _ _ _ _ _ us hl => match us, hl with | [_, _], _ => rfl
theorem Txt.b_Network_take_out (T : Txt K mg) : Binds K T.fd_Network_take_out ["self", "index"] [] := T.F_Network_take_out.bindsN fun _ _ _ _ _ _ us hl => match us, hl with | [_, _], _ => rfl
theorem Txt.b_Network_repeat (T : Txt K mg) : Binds K T.fd_Network_repeat ["self", "index"] [] := T.F_Network_repeat.bindsN fun _ _ _ _ _ _ us hl => match us, hl with | [_, _], _ => rfl
theorem Txt.b_Network_packets (T : Txt K mg) : Binds K T.fd_Network_packets ["self"] [] := T.F_Network_packets.bindsN fun _ _ _ _ _ _ us hl => match us, hl with | [_], _ => rfl
theorem Txt.b_law_number (T : Txt K mg) : Binds K T.fd_law_number ["cell", "k"] [] := T.F_law_number.bindsN fun _ _ _ _ _ _ us hl => match us, hl with | [_, _], _ => rfl
theorem Txt.b_law_send (T : Txt K mg) : Binds K T.fd_law_send ["outs", "puts", "acked", "net", "bag", "source"] [] := T.F_law_send.bindsN fun _ _ _ _ _ _ us hl => match us, hl with | [_, _, _, _, _, _], _ => rfl
theorem Txt.b_law_take (T : Txt K mg) : Binds K T.fd_law_take ["net", "bag", "index"] [] := T.F_law_take.bindsN fun _ _ _ _ _ _ us hl => match us, hl with | [_, _, _], _ => rfl
theorem Txt.b_law_deliver (T : Txt K mg) : Binds K T.fd_law_deliver ["outs", "ends", "taken", "acked", "net", "bag", "index"] [] := T.F_law_deliver.bindsN fun _ _ _ _ _ _ us hl => match us, hl with | [_, _, _, _, _, _, _], _ => rfl
theorem Txt.b_law_holds (T : Txt K mg) : Binds K T.fd_law_holds ["outs", "ends", "puts", "taken", "acked", "keys"] [] := T.F_law_holds.bindsN fun _ _ _ _ _ _ us hl => match us, hl with | [_, _, _, _, _, _], _ => rfl
theorem Txt.b_law_put (T : Txt K mg) : Binds K T.fd_law_put ["out", "put", "part"] [] := T.F_law_put.bindsN fun _ _ _ _ _ _ us hl => match us, hl with | [_, _, _], _ => rfl
theorem Txt.b_law_ends_well (T : Txt K mg) : Binds K T.fd_law_ends_well ["outs", "ends", "puts", "taken", "acked", "keys", "net", "bag"] [] := T.F_law_ends_well.bindsN fun _ _ _ _ _ _ us hl => match us, hl with | [_, _, _, _, _, _, _, _], _ => rfl
theorem Txt.b_law (T : Txt K mg) : Binds K T.fd_law ["script"] [] := T.F_law.bindsN fun _ _ _ _ _ _ us hl => match us, hl with | [_], _ => rfl
end
/-! ### the data -/
theorem la_ : ¬ (("_letters" : Str) = "_acknowledged") := by decide +kernel
def outf (l : Addr) (z : Int) : List (Str × V) := putF "_acknowledged" (.int z) (putF "_letters" (.ref l) [])
theorem outf_eq (l : Addr) (z : Int) : outf l z = ([("_letters", V.ref l), ("_acknowledged", V.int z)] : List (Str × V)) := by
  show (if ("_letters" : Str) = "_acknowledged" then [(("_letters" : Str), V.int z)] else (("_letters" : Str), V.ref l) :: putF "_acknowledged" (V.int z) []) = ([("_letters", V.ref l), ("_acknowledged", V.int z)] : List (Str × V))
  rw [if_neg la_]
  all_goals rfl
theorem outf_l (l : Addr) (z : Int) : (outf l z).lookup ("_letters" : Str) = some (.ref l) := by
  unfold outf
  rw [lookup_putF, if_neg la_, lookup_putF, if_pos rfl]
theorem outf_a (l : Addr) (z : Int) : (outf l z).lookup ("_acknowledged" : Str) = some (.int z) := by
  unfold outf
  rw [lookup_putF, if_pos rfl]
theorem outf_no (l : Addr) (z : Int) {m : Str} (h1 : ¬ m = "_acknowledged") (h2 : ¬ m = "_letters") : (outf l z).lookup m = none := by
  unfold outf
  rw [lookup_putF, if_neg h1, lookup_putF, if_neg h2]
  all_goals rfl
theorem outf_put (l : Addr) (z y : Int) : putF "_acknowledged" (.int y) (outf l z) = outf l y := by
  rw [outf_eq, outf_eq]
  show (if ("_letters" : Str) = "_acknowledged" then _ else (("_letters" : Str), V.ref l) :: (if ("_acknowledged" : Str) = "_acknowledged" then [(("_acknowledged" : Str), V.int y)] else _)) = ([("_letters", V.ref l), ("_acknowledged", V.int y)] : List (Str × V))
  rw [if_neg la_, if_pos rfl]
abbrev cO (K : PySem.W.Frag) : Addr := He.ga K "Outgoing"
/-- a sending end stands at p: its list at l holds the letters xs, k were acknowledged -/
structure OutAt (C : Addr) (H : Hp) (p l : Addr) (xs : List V) (k : Int) : Prop where
  ob : ∃ dx, H p = some (.ins C dx (outf l k))
  ls : H l = some (.lst xs)
theorem OutAt.same {C : Addr} {H H' : Hp} {p l : Addr} {xs : List V} {k : Int} (R : OutAt C H p l xs k) (s : Same H H') : OutAt C H' p l xs k := by
  obtain ⟨⟨dx, h⟩, h2⟩ := R
  exact ⟨⟨dx, s _ _ h⟩, s _ _ h2⟩
def inf (z : Int) : List (Str × V) := putF "count" (.int z) []
theorem inf_count (z : Int) : (inf z).lookup ("count" : Str) = some (.int z) := by
  unfold inf
  rw [lookup_putF, if_pos rfl]
theorem inf_no (z : Int) {m : Str} (h : ¬ m = "count") : (inf z).lookup m = none := by
  unfold inf
  rw [lookup_putF, if_neg h]
  all_goals rfl
theorem inf_put (z y : Int) : putF "count" (.int y) (inf z) = inf y := by
  show (if ("count" : Str) = "count" then [(("count" : Str), V.int y)] else _) = ([("count", V.int y)] : List (Str × V))
  rw [if_pos rfl]
/-- a receiving end that has accepted z letters stands at p -/
def InAt (C : Addr) (H : Hp) (p : Addr) (z : Int) : Prop := ∃ dx, H p = some (.ins C dx (inf z))
abbrev cI (K : PySem.W.Frag) : Addr := He.ga K "Incoming"
def netf (l : Addr) : List (Str × V) := putF "_packets" (.ref l) []
theorem netf_p (l : Addr) : (netf l).lookup ("_packets" : Str) = some (.ref l) := by
  unfold netf
  rw [lookup_putF, if_pos rfl]
theorem netf_no (l : Addr) {m : Str} (h : ¬ m = "_packets") : (netf l).lookup m = none := by
  unfold netf
  rw [lookup_putF, if_neg h]
  all_goals rfl
abbrev cN (K : PySem.W.Frag) : Addr := He.ga K "Network"
abbrev cU (K : PySem.W.Frag) : Addr := He.ga K "Unknown"
/-- a network stands at p, its list at l holds the packets xs -/
structure NetAt (C : Addr) (H : Hp) (p l : Addr) (xs : List V) : Prop where
  ob : ∃ dx, H p = some (.ins C dx (netf l))
  ls : H l = some (.lst xs)
theorem NetAt.same {C : Addr} {H H' : Hp} {p l : Addr} {xs : List V} (R : NetAt C H p l xs) (s : Same H H') : NetAt C H' p l xs := by
  obtain ⟨⟨dx, h⟩, h2⟩ := R
  exact ⟨⟨dx, s _ _ h⟩, s _ _ h2⟩
theorem at_map {α : Type} {f : α → V} {xs : List α} {i : Int} {j : Nat} {a : α} (e : i = (j : Int)) (h : xs[j]? = some a) : atI (xs.map f) i = some (f a) :=
  at_of e (by rw [List.getElem?_map, h]; all_goals rfl)
theorem tds_all {H : Hp} {n : Nat} : ∀ {xs : List V}, (∀ v ∈ xs, TupD H n v) → ∃ ds, TDs H xs ds ∧ PyData.depthAll ds ≤ n
  | [], _ => ⟨[], .nil, by simp [PyData.depthAll]⟩
  | x :: xs, h => by
    obtain ⟨a, ys, ds, rfl, h1, h2, h3⟩ := h x (List.mem_cons_self ..)
    obtain ⟨es, h4, h5⟩ := tds_all fun v hv => h v (List.mem_cons_of_mem _ hv)
    exact ⟨.tuple ds :: es, .cons (.tup h1 h2) h4, by rw [PyData.depthAll]; exact Nat.max_le.mpr ⟨h3, h5⟩⟩
theorem lst_dat {K : PySem.W.Frag} {H : Hp} {n : Nat} {xs : List V} (h : ∀ v ∈ xs, TupD H n v) (hn : n ≤ 60) : ∃ ds, DpAll K H xs ds ∧ SeqAt.shaped (.list ds) = true ∧ PyData.eqv (.list ds) (.list ds) = true := by
  obtain ⟨ds, h1, h2⟩ := tds_all h
  have lay : (PyData.list ds).canLay0 = true := by rw [PyData.canLay0]; exact TDs.lay h1
  exact ⟨ds, h1.dp, shaped_of lay (by rw [PyData.depth]; omega), SeqAt.eqv_refl _ lay⟩

/-- from and to: channel i leads from site sO i to site tO i -/
def sO (i : Nat) : Nat := i / 2
def tO (i : Nat) : Nat := if i % 2 < i / 2 then i % 2 else i % 2 + 1
def ixO (s t : Nat) : Nat := if t < s then 2 * s + t else 2 * s + t - 1
theorem ixO_lt {s t : Nat} (hs : s < 3) (ht : t < 3) (h : t ≠ s) : ixO s t < 6 := by
  unfold ixO
  split <;> omega
theorem sO_ix {s t : Nat} (hs : s < 3) (ht : t < 3) (h : t ≠ s) : sO (ixO s t) = s := by
  unfold sO ixO
  split <;> omega
theorem tO_ix {s t : Nat} (hs : s < 3) (ht : t < 3) (h : t ≠ s) : tO (ixO s t) = t := by
  unfold tO ixO
  split <;> split <;> omega
def keyO (i : Nat) : List Key := [.inl (sO i : Int), .inl (tO i : Int)]
def tab (f : Nat → V) : List (List Key × V) := [(keyO 0, f 0), (keyO 1, f 1), (keyO 2, f 2), (keyO 3, f 3), (keyO 4, f 4), (keyO 5, f 5)]
def six {α : Type} (f : Nat → α) : List α := [f 0, f 1, f 2, f 3, f 4, f 5]
theorem six_at {α : Type} (f : Nat → α) {i : Nat} (hi : i < 6) : (six f)[i]? = some (f i) := by
  match i, hi with
  | 0, _ => rfl
  | 1, _ => rfl
  | 2, _ => rfl
  | 3, _ => rfl
  | 4, _ => rfl
  | 5, _ => rfl
def put1 {α : Type} (f : Nat → α) (j : Nat) (x : α) : Nat → α := fun i => if i = j then x else f i
theorem put1_same {α : Type} (f : Nat → α) (j : Nat) (x : α) : put1 f j x j = x := if_pos rfl
theorem put1_ne {α : Type} (f : Nat → α) {i j : Nat} (x : α) (h : i ≠ j) : put1 f j x i = f i := if_neg h
theorem keyO_ne {i j : Nat} (hi : i < 6) (hj : j < 6) (h : i ≠ j) : keyO i ≠ keyO j := by
  intro e
  unfold keyO at e
  injection e with e1 e2
  injection e2 with e2 _
  injection e1 with e1
  injection e2 with e2
  have e1 : sO i = sO j := by omega
  have e2 : tO i = tO j := by omega
  unfold sO at e1
  unfold tO at e2
  split at e2 <;> split at e2 <;> omega
theorem tab_get (f : Nat → V) {i : Nat} (hi : i < 6) : valV (tab f) (keyO i) = some (f i) := by
  have n : ∀ j, j < 6 → j ≠ i → ¬ keyO j = keyO i := fun j hj h => keyO_ne hj hi h
  unfold tab
  match i, hi with
  | 0, _ => exact valV_pos rfl
  | 1, _ => rw [valV_neg (n 0 (by decide) (by decide))]; exact valV_pos rfl
  | 2, _ => rw [valV_neg (n 0 (by decide) (by decide)), valV_neg (n 1 (by decide) (by decide))]; exact valV_pos rfl
  | 3, _ => rw [valV_neg (n 0 (by decide) (by decide)), valV_neg (n 1 (by decide) (by decide)), valV_neg (n 2 (by decide) (by decide))]; exact valV_pos rfl
  | 4, _ => rw [valV_neg (n 0 (by decide) (by decide)), valV_neg (n 1 (by decide) (by decide)), valV_neg (n 2 (by decide) (by decide)), valV_neg (n 3 (by decide) (by decide))]; exact valV_pos rfl
  | 5, _ => rw [valV_neg (n 0 (by decide) (by decide)), valV_neg (n 1 (by decide) (by decide)), valV_neg (n 2 (by decide) (by decide)), valV_neg (n 3 (by decide) (by decide)), valV_neg (n 4 (by decide) (by decide))]; exact valV_pos rfl
theorem tab_put (f : Nat → V) {i : Nat} (x : V) (hi : i < 6) : putK (tab f) (keyO i) x = tab (put1 f i x) := by
  unfold putK
  rw [valV_any, tab_get f hi, if_pos (show (some (f i)).isSome = true from rfl)]
  have h : ∀ j, j < 6 → (fun kv : List Key × V => if kv.fst = keyO i then (kv.fst, x) else kv) (keyO j, f j) = (keyO j, put1 f i x j) := fun j hj => by
    show (if keyO j = keyO i then (keyO j, x) else (keyO j, f j)) = _
    by_cases e : j = i
    · subst e
      rw [if_pos rfl, put1_same]
    · rw [if_neg (keyO_ne hj hi e), put1_ne _ _ e]
  show [_, _, _, _, _, _] = _
  unfold tab
  rw [h 0 (by decide), h 1 (by decide), h 2 (by decide), h 3 (by decide), h 4 (by decide), h 5 (by decide)]
/-- a packet -/
inductive Pk
  | data (i n : Nat) (v : V)
  | ack (i n : Nat)
def Pk.fld : Pk → List V
  | .data i n v => [.int (sO i : Int), .int (tO i : Int), .str "data", .int (n : Int), v]
  | .ack i n => [.int (tO i : Int), .int (sO i : Int), .str "ack", .int (n : Int), .non]
def PkAt (H : Hp) (x : V) (q : Pk) : Prop := ∃ a, x = .ref a ∧ H a = some (.tup q.fld)
inductive Rep (H : Hp) : List V → List Pk → Prop
  | nil : Rep H [] []
  | cons {x : V} {q : Pk} {xs : List V} {qs : List Pk} : PkAt H x q → Rep H xs qs → Rep H (x :: xs) (q :: qs)
theorem Rep.mono {H H' : Hp} (s : TSame H H') : ∀ {xs : List V} {qs : List Pk}, Rep H xs qs → Rep H' xs qs
  | _, _, .nil => .nil
  | _, _, .cons ⟨a, e, h⟩ r => .cons ⟨a, e, s _ _ h⟩ (Rep.mono s r)
theorem Rep.len {H : Hp} : ∀ {xs : List V} {qs : List Pk}, Rep H xs qs → xs.length = qs.length
  | _, _, .nil => rfl
  | _, _, .cons _ r => by rw [List.length_cons, List.length_cons, Rep.len r]
theorem Rep.snoc {H : Hp} {x : V} {q : Pk} (h : PkAt H x q) : ∀ {xs : List V} {qs : List Pk}, Rep H xs qs → Rep H (xs ++ [x]) (qs ++ [q])
  | _, _, .nil => .cons h .nil
  | _, _, .cons g r => .cons g (Rep.snoc h r)
theorem Rep.at_ {H : Hp} : ∀ {xs : List V} {qs : List Pk} {j : Nat} {q : Pk}, Rep H xs qs → qs[j]? = some q → ∃ x, xs[j]? = some x ∧ PkAt H x q
  | _, _, _, _, .nil, e => by cases e
  | _, _, 0, _, .cons g _, e => by
    cases e
    exact ⟨_, rfl, g⟩
  | _, _, j + 1, _, .cons _ r, e => Rep.at_ (j := j) r e
theorem Rep.erase {H : Hp} : ∀ {xs : List V} {qs : List Pk} {j : Nat}, Rep H xs qs → Rep H (xs.eraseIdx j) (qs.eraseIdx j)
  | _, _, _, .nil => .nil
  | _, _, 0, .cons _ r => r
  | _, _, j + 1, .cons g r => .cons g (Rep.erase (j := j) r)
/-- a packet says what has been -/
def Good (P : Nat → List V) (T : Nat → Nat) : Pk → Prop
  | .data i n v => i < 6 ∧ 0 < n ∧ (P i)[n - 1]? = some v
  | .ack i n => i < 6 ∧ n ≤ T i
/-- two tuples of the same data -/
def Tw (H : Hp) (m : Nat) (x y : V) : Prop := ∃ a b fs ds, x = .ref a ∧ y = .ref b ∧ H a = some (.tup fs) ∧ H b = some (.tup fs) ∧ TDs H fs ds ∧ (PyData.tuple ds).depth ≤ m
inductive Tws (H : Hp) (m : Nat) : List V → List V → Prop
  | nil : Tws H m [] []
  | cons {x y : V} {xs ys : List V} : Tw H m x y → Tws H m xs ys → Tws H m (x :: xs) (y :: ys)
theorem Tws.tds {H : Hp} {m : Nat} : ∀ {xs ys : List V}, Tws H m xs ys → ∃ ds, TDs H xs ds ∧ TDs H ys ds ∧ PyData.depthAll ds ≤ m
  | _, _, .nil => ⟨[], .nil, .nil, by simp [PyData.depthAll]⟩
  | _, _, .cons ⟨a, b, fs, ds, ex, ey, h1, h2, h3, h4⟩ r => by
    subst ex ey
    obtain ⟨es, g1, g2, g3⟩ := Tws.tds r
    exact ⟨.tuple ds :: es, .cons (.tup h1 h3) g1, .cons (.tup h2 h3) g2, by rw [PyData.depthAll]; exact Nat.max_le.mpr ⟨h4, g3⟩⟩
theorem Tws.dat {K : PySem.W.Frag} {H : Hp} {m : Nat} {xs ys : List V} (h : Tws H m xs ys) (hm : m ≤ 60) : ∃ ds, DpAll K H xs ds ∧ DpAll K H ys ds ∧ SeqAt.shaped (.list ds) = true ∧ PyData.eqv (.list ds) (.list ds) = true := by
  obtain ⟨ds, h1, h2, h3⟩ := h.tds
  have lay : (PyData.list ds).canLay0 = true := by rw [PyData.canLay0]; exact TDs.lay h1
  exact ⟨ds, h1.dp, h2.dp, shaped_of lay (by rw [PyData.depth]; omega), SeqAt.eqv_refl _ lay⟩
theorem Tws.snoc {H : Hp} {m : Nat} {x y : V} (h : Tw H m x y) : ∀ {xs ys : List V}, Tws H m xs ys → Tws H m (xs ++ [x]) (ys ++ [y])
  | _, _, .nil => .cons h .nil
  | _, _, .cons g r => .cons g (Tws.snoc h r)
theorem Tws.of {H : Hp} {m : Nat} : ∀ {xs ys : List V}, xs.length = ys.length → (∀ (j : Nat) x y, xs[j]? = some x → ys[j]? = some y → Tw H m x y) → Tws H m xs ys
  | [], [], _, _ => .nil
  | x :: xs, y :: ys, e, h => .cons (h 0 x y rfl rfl) (Tws.of (by simpa using e) fun j x' y' a b => h (j + 1) x' y' a b)
/-- the fields of a packet are data -/
theorem Pk.td {H : Hp} {P : Nat → List V} {T : Nat → Nat} (dt : ∀ i, i < 6 → ∀ v ∈ P i, TupD H 5 v) {q : Pk} (g : Good P T q) : ∃ ds, TDs H q.fld ds ∧ (PyData.tuple ds).depth ≤ 6 := by
  cases q with
  | ack i n => exact ⟨_, .cons (.int _) (.cons (.int _) (.cons (.str _ (by decide +kernel)) (.cons (.int _) (.cons .non .nil)))), by simp [PyData.depth, PyData.depthAll]⟩
  | data i n v =>
    obtain ⟨a, xs, ds, rfl, h1, h2, h3⟩ := dt i g.1 v (List.mem_of_getElem? g.2.2)
    refine ⟨_, .cons (.int _) (.cons (.int _) (.cons (.str _ (by decide +kernel)) (.cons (.int _) (.cons (.tup h1 h2) .nil)))), ?_⟩
    simp only [PyData.depth, PyData.depthAll] at h3 ⊢
    omega
theorem Rep.tws {H : Hp} {P : Nat → List V} {T : Nat → Nat} (dt : ∀ i, i < 6 → ∀ v ∈ P i, TupD H 5 v) : ∀ {xs ys : List V} {qs : List Pk}, Rep H xs qs → Rep H ys qs → (∀ q ∈ qs, Good P T q) → Tws H 6 xs ys
  | _, _, _, .nil, .nil, _ => .nil
  | _, _, _, .cons ⟨a, ex, h1⟩ r1, .cons ⟨b, ey, h2⟩ r2, g => by
    obtain ⟨ds, t1, t2⟩ := Pk.td dt (g _ (List.mem_cons_self ..))
    exact .cons ⟨a, b, _, ds, ex, ey, h1, h2, t1, t2⟩ (Rep.tws dt r1 r2 fun q hq => g q (List.mem_cons_of_mem _ hq))
/-- the places of the law's objects -/
inductive Sl
  | outs | ends | puts | taken | acked | bag | nl | net | keys
  | o (i : Nat) | ol (i : Nat) | e (i : Nat) | p (i : Nat) | t (i : Nat)
deriving DecidableEq
def Sl.ok : Sl → Prop
  | .o i => i < 6
  | .ol i => i < 6
  | .e i => i < 6
  | .p i => i < 6
  | .t i => i < 6
  | _ => True
structure Vs where
  P : Nat → List V
  T : Nat → Nat
  A : Nat → Nat
  xs : List V
  ys : List V
  ps : List Pk
def ct (K : PySem.W.Frag) (M D : Sl → Addr) (kk : Nat → Addr) (v : Vs) : Sl → HO
  | .outs => .dT (tab fun i => .ref (M (.o i)))
  | .ends => .dT (tab fun i => .ref (M (.e i)))
  | .puts => .dT (tab fun i => .ref (M (.p i)))
  | .taken => .dT (tab fun i => .ref (M (.t i)))
  | .acked => .dT (tab fun i => .int (v.A i : Int))
  | .bag => .lst v.ys
  | .nl => .lst v.xs
  | .net => .ins (cN K) (D .net) (netf (M .nl))
  | .keys => .lst (six fun i => .ref (kk i))
  | .o i => .ins (cO K) (D (.o i)) (outf (M (.ol i)) (v.A i : Int))
  | .ol i => .lst ((v.P i).drop (v.A i))
  | .e i => .ins (cI K) (D (.e i)) (inf (v.T i : Int))
  | .p i => .lst (v.P i)
  | .t i => .lst ((v.P i).take (v.T i))
/-- what stays as it is in the whole run -/
structure Sep (H0 : Hp) (M : Sl → Addr) : Prop where
  inj : ∀ a b, Sl.ok a → Sl.ok b → a ≠ b → M a ≠ M b
  fr : ∀ s, Sl.ok s → H0 (M s) = none
structure Sta (K : PySem.W.Frag) (H0 : Hp) (M D : Sl → Addr) (kk : Nat → Addr) (H : Hp) (v : Vs) : Prop where
  at_ : ∀ s, Sl.ok s → H (M s) = some (ct K M D kk v s)
  kt : ∀ i, i < 6 → H (kk i) = some (.tup ((keyO i).map kV))
  at1 : ∀ i, i < 6 → v.A i ≤ v.T i ∧ v.T i ≤ (v.P i).length
  dt : ∀ i, i < 6 → ∀ x ∈ v.P i, TupD H 5 x
  rx : Rep H v.xs v.ps
  ry : Rep H v.ys v.ps
  gd : ∀ q ∈ v.ps, Good v.P v.T q
  sm : Same H0 H
/-- all but the places in X stays -/
def Fr (M : Sl → Addr) (X : List Sl) (H H' : Hp) : Prop := ∀ b o, H b = some o → (∀ x ∈ X, b ≠ M x) → H' b = some o
theorem ct_nt {K : PySem.W.Frag} {M D : Sl → Addr} {kk : Nat → Addr} {v : Vs} (s : Sl) (xs : List V) : ct K M D kk v s ≠ .tup xs := by
  intro e
  cases s <;> cases e
section
variable {K : PySem.W.Frag} {H0 : Hp} {M D : Sl → Addr} {kk : Nat → Addr} {H H' : Hp} {v : Vs}
theorem Sta.ts (R : Sta K H0 M D kk H v) {X : List Sl} (hX : ∀ x ∈ X, Sl.ok x) (F : Fr M X H H') : TSame H H' := fun b xs e => F b _ e fun x hx q => by
  rw [q, R.at_ x (hX x hx)] at e
  injection e with e
  exact ct_nt x xs e
/-- the state behind a deed that changed the places in X, and makes new objects -/
theorem Sta.next (S : Sep H0 M) (R : Sta K H0 M D kk H v) {v' : Vs} {D' : Sl → Addr} (X : List Sl) (hX : ∀ x ∈ X, Sl.ok x ∧ H' (M x) = some (ct K M D' kk v' x)) (F : Fr M X H H') (hc : ∀ s, Sl.ok s → s ∉ X → ct K M D kk v s = ct K M D' kk v' s)
    (at1 : ∀ i, i < 6 → v'.A i ≤ v'.T i ∧ v'.T i ≤ (v'.P i).length) (dt : ∀ i, i < 6 → ∀ x ∈ v'.P i, x ∈ v.P i ∨ TupD H' 5 x) (rx : Rep H' v'.xs v'.ps) (ry : Rep H' v'.ys v'.ps) (gd : ∀ q ∈ v'.ps, Good v'.P v'.T q) : Sta K H0 M D' kk H' v' := by
  have ts := R.ts (fun x hx => (hX x hx).1) F
  refine ⟨fun s hs => ?_, fun i hi => ts _ _ (R.kt i hi), at1, fun i hi x hx => ?_, rx, ry, gd, fun b o e => ?_⟩
  · by_cases h : s ∈ X
    · exact (hX s h).2
    · rw [← hc s hs h]
      exact F _ _ (R.at_ s hs) fun x hx q => S.inj s x hs (hX x hx).1 (fun e => h (e ▸ hx)) q
  · rcases dt i hi x hx with h | h
    · exact (R.dt i hi x h).mono ts
    · exact h
  · exact F _ _ (R.sm _ _ e) fun x hx q => by
      have z := S.fr x (hX x hx).1
      rw [← q, e] at z
      cases z
theorem Sta.same (R : Sta K H0 M D kk H v) (s : Same H H') : Sta K H0 M D kk H' v :=
  ⟨fun x hx => s _ _ (R.at_ x hx), fun i hi => s _ _ (R.kt i hi), R.at1, fun i hi x hx => (R.dt i hi x hx).mono (TSame.of s), R.rx.mono (TSame.of s), R.ry.mono (TSame.of s), R.gd, R.sm.trans s⟩
theorem Sta.outAt (R : Sta K H0 M D kk H v) {i : Nat} (hi : i < 6) : OutAt (cO K) H (M (.o i)) (M (.ol i)) ((v.P i).drop (v.A i)) (v.A i : Int) := ⟨⟨_, R.at_ (.o i) hi⟩, R.at_ (.ol i) hi⟩
theorem Sta.inAt (R : Sta K H0 M D kk H v) {i : Nat} (hi : i < 6) : InAt (cI K) H (M (.e i)) (v.T i : Int) := ⟨_, R.at_ (.e i) hi⟩
theorem Sta.netAt (R : Sta K H0 M D kk H v) : NetAt (cN K) H (M .net) (M .nl) v.xs := ⟨⟨_, R.at_ .net trivial⟩, R.at_ .nl trivial⟩
theorem Sta.lx (R : Sta K H0 M D kk H v) : v.xs.length = v.ps.length := R.rx.len
theorem Sta.ly (R : Sta K H0 M D kk H v) : v.ys.length = v.ps.length := R.ry.len
/-- both lists of packets change -/
theorem Sta.nets (S : Sep H0 M) (R : Sta K H0 M D kk H v) {xs ys : List V} {ps : List Pk} (F : Fr M [.nl, .bag] H H') (h1 : H' (M .nl) = some (.lst xs)) (h2 : H' (M .bag) = some (.lst ys)) (rx : Rep H' xs ps) (ry : Rep H' ys ps)
    (gd : ∀ q ∈ ps, Good v.P v.T q) : Sta K H0 M D kk H' { v with xs := xs, ys := ys, ps := ps } := by
  refine R.next S [.nl, .bag] ?_ F ?_ R.at1 (fun i _ x hx => .inl hx) rx ry gd
  · intro x hx
    simp only [List.mem_cons, List.not_mem_nil, or_false] at hx
    rcases hx with rfl | rfl
    · exact ⟨trivial, h1⟩
    · exact ⟨trivial, h2⟩
  · intro s hs hn
    simp only [List.mem_cons, List.not_mem_nil, or_false, not_or] at hn
    cases s with
    | nl => exact absurd rfl hn.1
    | bag => exact absurd rfl hn.2
    | _ => rfl
theorem Fr.upd2 {a b : Sl} {o1 o2 : HO} : Fr M [a, b] H (upd (upd H (M a) o1) (M b) o2) := fun c o e h => by
  rw [upd_ne (h b (List.mem_cons_of_mem _ (List.mem_cons_self ..))), upd_ne (h a (List.mem_cons_self ..))]
  exact e
end

/-! ### what is due, and the end -/
def pks (i : Nat) : Nat → List V → List Pk
  | _, [] => []
  | n, v :: r => .data i (n + 1) v :: pks i (n + 1) r
theorem pks_snoc (i : Nat) (v : V) : ∀ (n : Nat) (r : List V), pks i n (r ++ [v]) = pks i n r ++ [.data i (n + r.length + 1) v]
  | n, [] => rfl
  | n, x :: r => by
    show Pk.data i (n + 1) x :: pks i (n + 1) (r ++ [v]) = Pk.data i (n + 1) x :: (pks i (n + 1) r ++ [.data i (n + (r.length + 1) + 1) v])
    rw [pks_snoc i v (n + 1) r, show n + 1 + r.length + 1 = n + (r.length + 1) + 1 by omega]
theorem pks_len (i : Nat) : ∀ (n : Nat) (r : List V), (pks i n r).length = r.length
  | _, [] => rfl
  | n, x :: r => congrArg (· + 1) (pks_len i (n + 1) r)
theorem pks_good {P : Nat → List V} {T : Nat → Nat} {i : Nat} (hi : i < 6) : ∀ (r : List V) (n : Nat), r <+: (P i).drop n → ∀ q ∈ pks i n r, Good P T q
  | [], _, _, _, h => by cases h
  | v :: r, n, e, q, h => by
    obtain ⟨z, hz⟩ := e
    have e0 : (P i)[n]? = some v := by
      have := congrArg (fun l => l[0]?) hz
      simp only [List.getElem?_drop] at this
      rw [Nat.add_zero] at this
      rw [← this]
      rfl
    rcases List.mem_cons.mp h with rfl | h
    · exact ⟨hi, Nat.succ_pos _, e0⟩
    · refine pks_good hi r (n + 1) ⟨z, ?_⟩ q h
      have := congrArg (fun l => l.drop 1) hz
      simp only [List.drop_drop] at this
      rw [← this]
      rfl
def dueP (P : Nat → List V) (A : Nat → Nat) (i : Nat) : List Pk := pks i (A i) ((P i).drop (A i))
def sent (P : Nat → List V) (A : Nat → Nat) (s : Nat) : Nat → List Pk
  | 0 => []
  | t + 1 => sent P A s t ++ (if t = s then [] else dueP P A (ixO s t))
theorem sent_len {P : Nat → List V} {A : Nat → Nat} {s c : Nat} (hs : s < 3) (h : ∀ i, i < 6 → (P i).length ≤ c) : ∀ t, t ≤ 3 → (sent P A s t).length ≤ (t - if s < t then 1 else 0) * c
  | 0, _ => Nat.zero_le _
  | t + 1, ht => by
    have ih := sent_len (A := A) hs h t (by omega)
    show (sent P A s t ++ (if t = s then [] else dueP P A (ixO s t))).length ≤ _
    rw [List.length_append]
    by_cases e : t = s
    · subst e
      rw [if_pos rfl, if_pos (Nat.lt_succ_self _)]
      rw [if_neg (Nat.lt_irrefl _)] at ih
      simpa using ih
    · rw [if_neg e]
      have l1 : (dueP P A (ixO s t)).length ≤ c := by
        unfold dueP
        rw [pks_len, List.length_drop]
        have := h _ (ixO_lt hs (by omega) e)
        omega
      have l2 : t + 1 - (if s < t + 1 then 1 else 0) = (t - if s < t then 1 else 0) + 1 := by
        split <;> split <;> omega
      rw [l2, Nat.succ_mul]
      omega
def nums (i : Nat) : List Pk → List Nat
  | [] => []
  | .data j n _ :: r => if j = i then n :: nums i r else nums i r
  | .ack _ _ :: r => nums i r
theorem nums_app (i : Nat) : ∀ a b : List Pk, nums i (a ++ b) = nums i a ++ nums i b
  | [], _ => rfl
  | .data j n v :: r, b => by
    show (if j = i then n :: nums i (r ++ b) else nums i (r ++ b)) = (if j = i then n :: nums i r else nums i r) ++ nums i b
    rw [nums_app i r b]
    split <;> rfl
  | .ack j n :: r, b => nums_app i r b
theorem nums_pks (i : Nat) : ∀ (n : Nat) (r : List V), nums i (pks i n r) = List.range' (n + 1) r.length
  | _, [] => rfl
  | n, v :: r => by
    show (if i = i then (n + 1) :: nums i (pks i (n + 1) r) else _) = _
    rw [if_pos rfl, nums_pks i (n + 1) r]
    rfl
theorem pks_mem {i : Nat} : ∀ {n : Nat} {r : List V}, 0 < r.length → ∃ m x, Pk.data i m x ∈ pks i n r
  | n, v :: r, _ => ⟨n + 1, v, List.mem_cons_self ..⟩
theorem sent_due {P : Nat → List V} {A : Nat → Nat} {s t : Nat} (h : t ≠ s) : ∀ u, t < u → ∃ a b, sent P A s u = a ++ dueP P A (ixO s t) ++ b
  | u + 1, hu => by
    by_cases e : u = t
    · subst e
      refine ⟨sent P A s u, [], ?_⟩
      rw [List.append_nil]
      show sent P A s u ++ (if u = s then [] else dueP P A (ixO s u)) = _
      rw [if_neg h]
    · obtain ⟨a, b, e2⟩ := sent_due (P := P) (A := A) h u (by omega)
      refine ⟨a, b ++ (if u = s then [] else dueP P A (ixO s u)), ?_⟩
      show sent P A s u ++ _ = _
      rw [e2, List.append_assoc]
def pot : List Pk → Nat
  | [] => 0
  | .data _ _ _ :: r => pot r + 2
  | .ack _ _ :: r => pot r + 1
theorem pot_app : ∀ a b : List Pk, pot (a ++ b) = pot a + pot b
  | [], b => by show pot b = 0 + pot b; omega
  | .data _ _ _ :: r, b => by show pot (r ++ b) + 2 = pot r + 2 + pot b; rw [pot_app r b]; omega
  | .ack _ _ :: r, b => by show pot (r ++ b) + 1 = pot r + 1 + pot b; rw [pot_app r b]; omega
theorem pot_le : ∀ a : List Pk, pot a ≤ 2 * a.length
  | [] => Nat.le_refl _
  | .data _ _ _ :: r => by have := pot_le r; show pot r + 2 ≤ 2 * (r.length + 1); omega
  | .ack _ _ :: r => by have := pot_le r; show pot r + 1 ≤ 2 * (r.length + 1); omega
/-- a packet is delivered -/
structure Dlv (v : Vs) (j : Nat) (v' : Vs) : Prop where
  P : v'.P = v.P
  cs : (∃ i n, v.ps[j]? = some (.ack i n) ∧ v'.T = v.T ∧ v'.A = put1 v.A i (if n > v.A i then n else v.A i) ∧ v'.ps = v.ps.eraseIdx j) ∨
    (∃ i n x, v.ps[j]? = some (.data i n x) ∧ v'.A = v.A ∧ v'.T = put1 v.T i (if n = v.T i + 1 then n else v.T i) ∧ v'.ps = v.ps.eraseIdx j ++ [.ack i (v'.T i)])
theorem Dlv.len {v v' : Vs} {j : Nat} (d : Dlv v j v') : v'.ps.length ≤ v.ps.length := by
  rcases d.cs with ⟨i, n, e, _, _, e2⟩ | ⟨i, n, x, e, _, _, e2⟩
  · rw [e2]
    have := List.length_eraseIdx_le v.ps j
    omega
  · have hj := (List.getElem?_eq_some_iff.mp e).1
    rw [e2, List.length_append, List.length_singleton, List.length_eraseIdx_of_lt hj]
    omega
structure Fin (v : Vs) : Prop where
  sub : ∀ i, i < 6 → (List.range' (v.T i + 1) ((v.P i).length - v.T i)).Sublist (nums i v.ps)
  jj : ∀ i, i < 6 → v.A i = v.T i ∨ Pk.ack i (v.T i) ∈ v.ps ∨ ∃ n x, Pk.data i n x ∈ v.ps
theorem Fin.over {v : Vs} (F : Fin v) (e : v.ps = []) {i : Nat} (hi : i < 6) (h : v.T i ≤ (v.P i).length) : v.T i = (v.P i).length ∧ v.A i = v.T i := by
  have s := F.sub i hi
  have j := F.jj i hi
  rw [e] at s j
  have l := List.Sublist.length_le s
  rw [List.length_range'] at l
  have l : (v.P i).length - v.T i ≤ 0 := l
  refine ⟨by omega, ?_⟩
  rcases j with j | j | ⟨n, x, j⟩
  · exact j
  · cases j
  · cases j
theorem Fin.step {v v' : Vs} (F : Fin v) (at1 : ∀ i, i < 6 → v.A i ≤ v.T i ∧ v.T i ≤ (v.P i).length) (gd : ∀ q ∈ v.ps, Good v.P v.T q) (d : Dlv v 0 v') : Fin v' ∧ pot v'.ps + 1 = pot v.ps := by
  obtain ⟨eP, cs⟩ := d
  match hp : v.ps with
  | [] =>
    rw [hp] at cs
    rcases cs with ⟨i, n, e, _⟩ | ⟨i, n, x, e, _⟩ <;> cases e
  | q :: r =>
    rw [hp] at cs
    rcases cs with ⟨i, n, e, eT, eA, e2⟩ | ⟨i, n, x, e, eA, eT, e2⟩
    · have e : q = .ack i n := by injection e
      subst e
      have e2 : v'.ps = r := e2
      obtain ⟨hi, hn⟩ : i < 6 ∧ n ≤ v.T i := gd (.ack i n) (by rw [hp]; exact List.mem_cons_self ..)
      refine ⟨⟨fun k hk => ?_, fun k hk => ?_⟩, by rw [e2]; rfl⟩
      · have s := F.sub k hk
        rw [hp] at s
        rw [eP, eT, e2]
        exact s
      · rw [eT, eA, e2]
        have hk2 := at1 k hk
        by_cases c : k = i
        · subst c
          rw [put1_same]
          by_cases c2 : n = v.T k
          · left
            split <;> omega
          · have j := F.jj k hk
            rw [hp] at j
            rcases j with j | j | ⟨a, b, j⟩
            · left
              split <;> omega
            · rcases List.mem_cons.mp j with j | j
              · injection j with _ j
                exact absurd j.symm c2
              · exact .inr (.inl j)
            · rcases List.mem_cons.mp j with j | j
              · cases j
              · exact .inr (.inr ⟨a, b, j⟩)
        · rw [put1_ne _ _ c]
          have j := F.jj k hk
          rw [hp] at j
          rcases j with j | j | ⟨a, b, j⟩
          · exact .inl j
          · rcases List.mem_cons.mp j with j | j
            · injection j with j _
              exact absurd j c
            · exact .inr (.inl j)
          · rcases List.mem_cons.mp j with j | j
            · cases j
            · exact .inr (.inr ⟨a, b, j⟩)
    · have e : q = .data i n x := by injection e
      subst e
      have e2 : v'.ps = r ++ [.ack i (v'.T i)] := e2
      obtain ⟨hi, h0, hx⟩ : i < 6 ∧ 0 < n ∧ (v.P i)[n - 1]? = some x := gd (.data i n x) (by rw [hp]; exact List.mem_cons_self ..)
      have hn := (List.getElem?_eq_some_iff.mp hx).1
      refine ⟨⟨fun k hk => ?_, fun k hk => ?_⟩, ?_⟩
      · have s := F.sub k hk
        rw [hp] at s
        have en : nums k v'.ps = nums k r := by
          rw [e2, nums_app]
          exact List.append_nil _
        rw [en, eP]
        by_cases c : k = i
        · subst c
          rw [eT, put1_same]
          have s : (List.range' (v.T k + 1) ((v.P k).length - v.T k)).Sublist (if k = k then n :: nums k r else nums k r) := s
          rw [if_pos rfl] at s
          by_cases c2 : n = v.T k + 1
          · rw [if_pos c2]
            subst c2
            obtain ⟨m, em⟩ : ∃ m, (v.P k).length - v.T k = m + 1 := ⟨(v.P k).length - v.T k - 1, by omega⟩
            rw [em] at s
            have s : ((v.T k + 1) :: List.range' (v.T k + 1 + 1) m).Sublist ((v.T k + 1) :: nums k r) := s
            have s := List.cons_sublist_cons.mp s
            rw [show (v.P k).length - (v.T k + 1) = m by omega]
            exact s
          · rw [if_neg c2]
            match em : (v.P k).length - v.T k with
            | 0 => exact List.nil_sublist _
            | m + 1 =>
              rw [em] at s
              have s : ((v.T k + 1) :: List.range' (v.T k + 1 + 1) m).Sublist (n :: nums k r) := s
              cases s with
              | cons _ s => exact s
              | cons_cons _ s => exact absurd rfl c2
        · rw [eT, put1_ne _ _ c]
          have s : (List.range' (v.T k + 1) ((v.P k).length - v.T k)).Sublist (if i = k then n :: nums k r else nums k r) := s
          rw [if_neg (fun z => c z.symm)] at s
          exact s
      · rw [eA, e2]
        by_cases c : k = i
        · subst c
          exact .inr (.inl (List.mem_append_right _ (List.mem_singleton.mpr rfl)))
        · have ek : v'.T k = v.T k := by rw [eT, put1_ne _ _ c]
          rw [ek]
          have j := F.jj k hk
          rw [hp] at j
          rcases j with j | j | ⟨a, b, j⟩
          · exact .inl j
          · rcases List.mem_cons.mp j with j | j
            · cases j
            · exact .inr (.inl (List.mem_append_left _ j))
          · rcases List.mem_cons.mp j with j | j
            · injection j with j _ _
              exact absurd j c
            · exact .inr (.inr ⟨a, b, List.mem_append_left _ j⟩)
      · rw [e2, pot_app]
        show pot r + 1 + 1 = pot r + 2
        rfl
theorem Fin.start {v : Vs} (at1 : ∀ i, i < 6 → v.A i ≤ v.T i ∧ v.T i ≤ (v.P i).length) {qs : List Pk} (e : v.ps = qs ++ sent v.P v.A 0 3 ++ sent v.P v.A 1 3 ++ sent v.P v.A 2 3) : Fin v := by
  have key : ∀ i, i < 6 → ∃ a b, v.ps = a ++ dueP v.P v.A i ++ b := fun i hi => by
    have go : ∀ s t, t ≠ s → t < 3 → ixO s t = i → (∃ a b, v.ps = a ++ sent v.P v.A s 3 ++ b) → ∃ a b, v.ps = a ++ dueP v.P v.A i ++ b := fun s t h ht ei ⟨a, b, e⟩ => by
      obtain ⟨c, d, e2⟩ := sent_due (P := v.P) (A := v.A) h 3 ht
      rw [ei] at e2
      exact ⟨a ++ c, d ++ b, by rw [e, e2]; simp only [List.append_assoc]⟩
    have e0 : ∃ a b, v.ps = a ++ sent v.P v.A 0 3 ++ b := ⟨qs, sent v.P v.A 1 3 ++ sent v.P v.A 2 3, by rw [e]; simp only [List.append_assoc]⟩
    have e1 : ∃ a b, v.ps = a ++ sent v.P v.A 1 3 ++ b := ⟨qs ++ sent v.P v.A 0 3, sent v.P v.A 2 3, by rw [e]⟩
    have e2 : ∃ a b, v.ps = a ++ sent v.P v.A 2 3 ++ b := ⟨qs ++ sent v.P v.A 0 3 ++ sent v.P v.A 1 3, [], by rw [e, List.append_nil]⟩
    match i, hi with
    | 0, _ => exact go 0 1 (by decide) (by decide) rfl e0
    | 1, _ => exact go 0 2 (by decide) (by decide) rfl e0
    | 2, _ => exact go 1 0 (by decide) (by decide) rfl e1
    | 3, _ => exact go 1 2 (by decide) (by decide) rfl e1
    | 4, _ => exact go 2 0 (by decide) (by decide) rfl e2
    | 5, _ => exact go 2 1 (by decide) (by decide) rfl e2
  refine ⟨fun i hi => ?_, fun i hi => ?_⟩
  · obtain ⟨a, b, e⟩ := key i hi
    obtain ⟨h1, h2⟩ := at1 i hi
    rw [e, nums_app, nums_app]
    refine List.Sublist.trans ?_ (List.sublist_append_left _ _)
    refine List.Sublist.trans ?_ (List.sublist_append_right _ _)
    unfold dueP
    rw [nums_pks, List.length_drop]
    have e3 : (v.P i).length - v.A i = (v.T i - v.A i) + ((v.P i).length - v.T i) := by omega
    have e4 : v.T i + 1 = v.A i + 1 + 1 * (v.T i - v.A i) := by omega
    rw [e3, e4, ← List.range'_append]
    exact List.sublist_append_right _ _
  · obtain ⟨a, b, e⟩ := key i hi
    obtain ⟨h1, h2⟩ := at1 i hi
    by_cases c : v.A i = v.T i
    · exact .inl c
    · obtain ⟨m, x, h⟩ := pks_mem (i := i) (n := v.A i) (r := (v.P i).drop (v.A i)) (by rw [List.length_drop]; omega)
      refine .inr (.inr ⟨m, x, ?_⟩)
      rw [e]
      exact List.mem_append_left _ (List.mem_append_right _ h)

section
variable {K : PySem.W.Frag} {H0 : Hp} {M D : Sl → Addr} {kk : Nat → Addr} {H H' : Hp} {v : Vs}
theorem max_cast (n a : Nat) : (if (n : Int) > (a : Int) then (n : Int) else (a : Int)) = ((if n > a then n else a : Nat) : Int) := by
  split <;> split <;> omega
/-- an acknowledgement was delivered -/
theorem Sta.ack (S : Sep H0 M) (R : Sta K H0 M D kk H v) {i n : Nat} (hi : i < 6) (hn : n ≤ v.T i) {H3 : Hp} (O : OutAt (cO K) H3 (M (.o i)) (M (.ol i)) (((v.P i).drop (v.A i)).drop ((n : Int) - (v.A i : Int)).toNat) (if (n : Int) > (v.A i : Int) then (n : Int) else (v.A i : Int)))
    (f : ∀ b o, H b = some o → b ≠ M (.o i) → b ≠ M (.ol i) → H3 b = some o) :
    ∃ D', Sta K H0 M D' kk (upd H3 (M .acked) (.dT (tab (put1 (fun i => .int (v.A i : Int)) i (.int (if (n : Int) > (v.A i : Int) then (n : Int) else (v.A i : Int))))))) { v with A := put1 v.A i (if n > v.A i then n else v.A i) } := by
  rw [max_cast]
  rw [max_cast] at O
  have e1 : ((v.P i).drop (v.A i)).drop ((n : Int) - (v.A i : Int)).toNat = (v.P i).drop (if n > v.A i then n else v.A i) := by
    rw [List.drop_drop]
    congr 1
    split <;> omega
  rw [e1] at O
  have hm : (if n > v.A i then n else v.A i) ≤ v.T i := by
    have := (R.at1 i hi).1
    split <;> omega
  revert O hm
  generalize (if n > v.A i then n else v.A i) = m
  intro O hm
  obtain ⟨⟨dx, o1⟩, o2⟩ := O
  have n1 : M (.o i) ≠ M .acked := S.inj _ _ hi trivial (by intro q; cases q)
  have n2 : M (.ol i) ≠ M .acked := S.inj _ _ hi trivial (by intro q; cases q)
  have et : tab (put1 (fun i => .int (v.A i : Int)) i (.int (m : Int))) = tab (fun j => V.int ((put1 v.A i m j : Nat) : Int)) := by
    congr 1
    funext j
    unfold put1
    split <;> rfl
  rw [et]
  refine ⟨fun s => if s = .o i then dx else D s, R.next S [.o i, .ol i, .acked] ?_ ?_ ?_ (fun j hj => ?_) (fun j hj x hx => .inl hx) (R.rx.mono ?_) (R.ry.mono ?_) R.gd⟩
  · intro x hx
    simp only [List.mem_cons, List.not_mem_nil, or_false] at hx
    rcases hx with rfl | rfl | rfl
    · refine ⟨hi, ?_⟩
      rw [upd_ne n1, o1]
      show _ = some (HO.ins (cO K) (if Sl.o i = Sl.o i then dx else D (.o i)) (outf (M (.ol i)) ((put1 v.A i m i : Nat) : Int)))
      rw [if_pos rfl, put1_same]
    · refine ⟨hi, ?_⟩
      rw [upd_ne n2, o2]
      show _ = some (HO.lst ((v.P i).drop (put1 v.A i m i)))
      rw [put1_same]
    · exact ⟨trivial, upd_same⟩
  · intro b o e h
    rw [upd_ne (h _ (by simp))]
    exact f b o e (h _ (by simp)) (h _ (by simp))
  · intro s hs hn
    cases s with
    | acked => exact absurd (by simp) hn
    | o j =>
      have c : j ≠ i := fun e => hn (by rw [e]; simp)
      show HO.ins (cO K) (D (.o j)) (outf (M (.ol j)) (v.A j : Int)) = HO.ins (cO K) (if Sl.o j = Sl.o i then dx else D (.o j)) (outf (M (.ol j)) ((put1 v.A i m j : Nat) : Int))
      rw [put1_ne _ _ c, if_neg (fun e => c (by injection e))]
    | ol j =>
      have c : j ≠ i := fun e => hn (by rw [e]; simp)
      show HO.lst ((v.P j).drop (v.A j)) = HO.lst ((v.P j).drop (put1 v.A i m j))
      rw [put1_ne _ _ c]
    | _ => rfl
  · have := R.at1 j hj
    show put1 v.A i m j ≤ v.T j ∧ v.T j ≤ (v.P j).length
    by_cases c : j = i
    · subst c
      rw [put1_same]
      exact ⟨hm, this.2⟩
    · rw [put1_ne _ _ c]
      exact this
  all_goals
    intro b xs e
    have q1 := ne_of e (R.at_ (.o i) hi) (by intro q; cases q)
    have q2 := ne_of e (R.at_ (.ol i) hi) (by intro q; cases q)
    have q3 := ne_of e (R.at_ .acked trivial) (by intro q; cases q)
    rw [upd_ne q3]
    exact f b _ e q1 q2
/-- a letter was accepted -/
theorem Sta.acc (S : Sep H0 M) (R : Sta K H0 M D kk H v) {i : Nat} (hi : i < 6) {x : V} (hx : (v.P i)[v.T i]? = some x) {H3 : Hp} (O : InAt (cI K) H3 (M (.e i)) ((v.T i : Int) + 1)) (f : ∀ b o, H b = some o → b ≠ M (.e i) → H3 b = some o) :
    ∃ D', Sta K H0 M D' kk (upd H3 (M (.t i)) (.lst ((v.P i).take (v.T i) ++ [x]))) { v with T := put1 v.T i (v.T i + 1) } := by
  obtain ⟨dx, o1⟩ := O
  have n1 : M (.e i) ≠ M (.t i) := S.inj _ _ hi hi (by intro q; cases q)
  have hl := (List.getElem?_eq_some_iff.mp hx).1
  have e1 : (v.P i).take (v.T i) ++ [x] = (v.P i).take (v.T i + 1) := by
    rw [List.take_add_one, hx]
    rfl
  rw [e1]
  refine ⟨fun s => if s = .e i then dx else D s, R.next S [.e i, .t i] ?_ ?_ ?_ (fun j hj => ?_) (fun j hj x hx => .inl hx) (R.rx.mono ?_) (R.ry.mono ?_) (fun q hq => ?_)⟩
  · intro x hx
    simp only [List.mem_cons, List.not_mem_nil, or_false] at hx
    rcases hx with rfl | rfl
    · refine ⟨hi, ?_⟩
      rw [upd_ne n1, o1]
      show _ = some (HO.ins (cI K) (if Sl.e i = Sl.e i then dx else D (.e i)) (inf ((put1 v.T i (v.T i + 1) i : Nat) : Int)))
      rw [if_pos rfl, put1_same]
      rfl
    · refine ⟨hi, ?_⟩
      rw [upd_same]
      show _ = some (HO.lst ((v.P i).take (put1 v.T i (v.T i + 1) i)))
      rw [put1_same]
  · intro b o e h
    rw [upd_ne (h _ (by simp))]
    exact f b o e (h _ (by simp))
  · intro s hs hn
    cases s with
    | e j =>
      have c : j ≠ i := fun e => hn (by rw [e]; simp)
      show HO.ins (cI K) (D (.e j)) (inf (v.T j : Int)) = HO.ins (cI K) (if Sl.e j = Sl.e i then dx else D (.e j)) (inf ((put1 v.T i (v.T i + 1) j : Nat) : Int))
      rw [put1_ne _ _ c, if_neg (fun e => c (by injection e))]
    | t j =>
      have c : j ≠ i := fun e => hn (by rw [e]; simp)
      show HO.lst ((v.P j).take (v.T j)) = HO.lst ((v.P j).take (put1 v.T i (v.T i + 1) j))
      rw [put1_ne _ _ c]
    | _ => rfl
  · have := R.at1 j hj
    show v.A j ≤ put1 v.T i (v.T i + 1) j ∧ put1 v.T i (v.T i + 1) j ≤ (v.P j).length
    by_cases c : j = i
    · subst c
      rw [put1_same]
      omega
    · rw [put1_ne _ _ c]
      exact this
  · intro b xs e
    have q1 := ne_of e (R.at_ (.e i) hi) (by intro q; cases q)
    have q2 := ne_of e (R.at_ (.t i) hi) (by intro q; cases q)
    rw [upd_ne q2]
    exact f b _ e q1
  · intro b xs e
    have q1 := ne_of e (R.at_ (.e i) hi) (by intro q; cases q)
    have q2 := ne_of e (R.at_ (.t i) hi) (by intro q; cases q)
    rw [upd_ne q2]
    exact f b _ e q1
  · have g := R.gd q hq
    cases q with
    | data j n y => exact g
    | ack j n =>
      refine ⟨g.1, ?_⟩
      show n ≤ put1 v.T i (v.T i + 1) j
      have := g.2
      by_cases c : j = i
      · subst c
        rw [put1_same]
        omega
      · rw [put1_ne _ _ c]
        exact this
/-- between the two lists: all but the network's own list -/
theorem Sta.mid (S : Sep H0 M) (R : Sta K H0 M D kk H v) {a : Addr} {o : HO} (ha : H a = none) {L : List V} {s : Sl} (hs : Sl.ok s) (h : s ≠ .nl) : (upd (upd H a o) (M .nl) (.lst L)) (M s) = some (ct K M D kk v s) := by
  rw [upd_ne (S.inj s .nl hs trivial h), upd_ne (ne_of_none (R.at_ s hs) ha)]
  exact R.at_ s hs
theorem Sta.midT (R : Sta K H0 M D kk H v) {a b : Addr} {o : HO} (ha : H a = none) {L xs : List V} (e : H b = some (.tup xs)) : (upd (upd H a o) (M .nl) (.lst L)) b = some (.tup xs) := by
  rw [upd_ne (ne_of e (R.at_ .nl trivial) (by intro q; cases q)), upd_ne (ne_of_none e ha)]
  exact e
/-- a packet was posted on both -/
theorem Sta.post (S : Sep H0 M) (R : Sta K H0 M D kk H v) {q : Pk} (g : Good v.P v.T q) {a b : Addr} (ha : H a = none) (hb : (upd (upd H a (.tup q.fld)) (M .nl) (.lst (v.xs ++ [.ref a]))) b = none) :
    Sta K H0 M D kk (upd (upd (upd (upd H a (.tup q.fld)) (M .nl) (.lst (v.xs ++ [.ref a]))) b (.tup q.fld)) (M .bag) (.lst (v.ys ++ [.ref b]))) { v with xs := v.xs ++ [.ref a], ys := v.ys ++ [.ref b], ps := v.ps ++ [q] } := by
  have nbl : M .bag ≠ M .nl := S.inj _ _ trivial trivial (by intro q; cases q)
  have s1 : Same H (upd H a (.tup q.fld)) := Same.new ha
  have R1 := R.same s1
  have hnl : (upd (upd H a (.tup q.fld)) (M .nl) (.lst (v.xs ++ [.ref a]))) (M .nl) = some (.lst (v.xs ++ [.ref a])) := upd_same
  have hbg := R.mid S (o := .tup q.fld) ha (L := v.xs ++ [.ref a]) (s := .bag) trivial (by intro q; cases q)
  have nlb : M .nl ≠ b := ne_of_none hnl hb
  have nbb : M .bag ≠ b := ne_of_none hbg hb
  have F : Fr M [.nl, .bag] (upd H a (.tup q.fld)) (upd (upd (upd (upd H a (.tup q.fld)) (M .nl) (.lst (v.xs ++ [.ref a]))) b (.tup q.fld)) (M .bag) (.lst (v.ys ++ [.ref b]))) := fun c o e h => by
    have n1 : c ≠ M .nl := h _ (by simp)
    have n2 : c ≠ M .bag := h _ (by simp)
    have n3 : c ≠ b := ne_of_none (show (upd (upd H a (.tup q.fld)) (M .nl) (.lst (v.xs ++ [.ref a]))) c = some o by rw [upd_ne n1]; exact e) hb
    rw [upd_ne n2, upd_ne n3, upd_ne n1]
    exact e
  have ts := R1.ts (X := [.nl, .bag]) (by intro x hx; simp only [List.mem_cons, List.not_mem_nil, or_false] at hx; rcases hx with rfl | rfl <;> exact trivial) F
  refine R1.nets S F (by rw [upd_ne nbl.symm, upd_ne nlb, upd_same]) upd_same ((R1.rx.mono ts).snoc ⟨a, rfl, ts _ _ upd_same⟩) ((R1.ry.mono ts).snoc ⟨b, rfl, by rw [upd_ne nbb.symm, upd_same]⟩) fun u hu => ?_
  rcases List.mem_append.mp hu with h | h
  · exact R.gd u h
  · rw [List.mem_singleton.mp h]
    exact g
end

/-! ### the promises -/
def spOInit (K : PySem.W.Frag) : Sp := fun vs H Q _ => ∃ (p dx : Addr), vs = [.ref p] ∧ H p = some (.ins (cO K) dx []) ∧ ∀ (l : Addr) (H' : Hp), OutAt (cO K) H' p l [] 0 → H l = none → (∀ b o, H b = some o → b ≠ p → H' b = some o) → Q .non H'
def spCount (K : PySem.W.Frag) : Sp := fun vs H Q _ => ∃ (p l : Addr) (xs : List V) (k : Int), vs = [.ref p] ∧ OutAt (cO K) H p l xs k ∧ Q (.int (k + (xs.length : Int))) H
def spAcked (K : PySem.W.Frag) : Sp := fun vs H Q _ => ∃ (p l : Addr) (xs : List V) (k : Int), vs = [.ref p] ∧ OutAt (cO K) H p l xs k ∧ Q (.int k) H
def spPut (K : PySem.W.Frag) : Sp := fun vs H Q _ => ∃ (p l : Addr) (xs : List V) (k : Int) (v : V), vs = [.ref p, v] ∧ OutAt (cO K) H p l xs k ∧ xs.length < sizeLine ∧ Q (.int (k + ((xs.length + 1 : Nat) : Int))) (upd H l (.lst (xs ++ [v])))
def spDue (K : PySem.W.Frag) : Sp := fun vs H Q _ => ∃ (p l : Addr) (xs : List V) (k : Int), vs = [.ref p] ∧ OutAt (cO K) H p l xs k ∧ 0 ≤ k ∧ k < 2 ^ 62 ∧
  ∀ (H' : Hp) (q : Addr) (ts : List Addr), Same H H' → H q = none → ts.length = xs.length → H' q = some (.lst (ts.map V.ref)) →
    (∀ (j : Nat) (t : Addr), ts[j]? = some t → ∃ v, xs[j]? = some v ∧ H' t = some (.tup [.int (k + 1 + j), v])) → Q (.ref q) H'
def spAck (K : PySem.W.Frag) : Sp := fun vs H Q _ => ∃ (p l : Addr) (xs : List V) (k n : Int), vs = [.ref p, .int n] ∧ OutAt (cO K) H p l xs k ∧ n ≤ k + (xs.length : Int) ∧
  ∀ H' : Hp, OutAt (cO K) H' p l (xs.drop (n - k).toNat) (if n > k then n else k) → (∀ b o, H b = some o → b ≠ p → b ≠ l → H' b = some o) → Q .non H'
def spIInit (K : PySem.W.Frag) : Sp := fun vs H Q _ => ∃ (p dx : Addr), vs = [.ref p] ∧ H p = some (.ins (cI K) dx []) ∧ ∀ H' : Hp, InAt (cI K) H' p 0 → (∀ b o, H b = some o → b ≠ p → H' b = some o) → Q .non H'
def spAccepts (K : PySem.W.Frag) : Sp := fun vs H Q _ => ∃ (p : Addr) (z n : Int), vs = [.ref p, .int n] ∧ InAt (cI K) H p z ∧ Q (.bl (decide (V.int n = V.int (z + 1)))) H
def spAccept (K : PySem.W.Frag) : Sp := fun vs H Q _ => ∃ (p : Addr) (z : Int), vs = [.ref p] ∧ InAt (cI K) H p z ∧ ∀ H' : Hp, InAt (cI K) H' p (z + 1) → (∀ b o, H b = some o → b ≠ p → H' b = some o) → Q .non H'
def spNInit (K : PySem.W.Frag) : Sp := fun vs H Q _ => ∃ (p dx : Addr), vs = [.ref p] ∧ H p = some (.ins (cN K) dx []) ∧ ∀ (l : Addr) (H' : Hp), NetAt (cN K) H' p l [] → H l = none → (∀ b o, H b = some o → b ≠ p → H' b = some o) → Q .non H'
def spLen (K : PySem.W.Frag) : Sp := fun vs H Q _ => ∃ (p l : Addr) (xs : List V), vs = [.ref p] ∧ NetAt (cN K) H p l xs ∧ Q (.int (xs.length : Int)) H
def spIter (K : PySem.W.Frag) : Sp := fun vs H Q _ => ∃ (p l : Addr) (xs : List V), vs = [.ref p] ∧ NetAt (cN K) H p l xs ∧ ∀ it, H it = none → Q (.ref it) (upd H it (ItO l it 0))
def spPost (K : PySem.W.Frag) : Sp := fun vs H Q _ => ∃ (p l : Addr) (xs : List V) (v : V), vs = [.ref p, v] ∧ NetAt (cN K) H p l xs ∧ xs.length < sizeLine ∧ Q .non (upd H l (.lst (xs ++ [v])))
def spPackets (K : PySem.W.Frag) : Sp := fun vs H Q _ => ∃ (p l : Addr) (xs : List V), vs = [.ref p] ∧ NetAt (cN K) H p l xs ∧ ∀ q, H q = none → Q (.ref q) (upd H q (.lst xs))
def spCheck (K : PySem.W.Frag) : Sp := fun vs H Q E => ∃ (i n : Int) (z : Str), vs = [.int i, .int n, .str z] ∧ z.length ≤ 100 ∧ (¬ (0 ≤ i ∧ i < n) → E (.ref (cU K)) none H) ∧ (0 ≤ i ∧ i < n → Q .non H)
def spTake (K : PySem.W.Frag) : Sp := fun vs H Q E => ∃ (p l : Addr) (xs : List V) (i : Int), vs = [.ref p, .int i] ∧ NetAt (cN K) H p l xs ∧ xs.length ≤ 100000 ∧ (¬ (0 ≤ i ∧ i < (xs.length : Int)) → E (.ref (cU K)) none H) ∧
  (∀ (j : Nat) (v : V), i = (j : Int) → xs[j]? = some v → Q v (upd H l (.lst (xs.eraseIdx j))))
def spRepeat (K : PySem.W.Frag) : Sp := fun vs H Q E => ∃ (p l : Addr) (xs : List V) (i : Int), vs = [.ref p, .int i] ∧ NetAt (cN K) H p l xs ∧ xs.length ≤ 100000 ∧ (¬ (0 ≤ i ∧ i < (xs.length : Int)) → E (.ref (cU K)) none H) ∧
  (∀ (j : Nat) (v : V), i = (j : Int) → xs[j]? = some v → Q .non (upd H l (.lst (xs ++ [v]))))
def spNumber : Sp := fun vs H Q _ => ∃ z k : Int, vs = [.int z, .int k] ∧ ∀ r : Int, Q (.int r) H
/-- a sending end and the law's own list of its letters, while letters are put -/
structure PutAt (C : Addr) (H0 H : Hp) (p l a : Addr) (L : List V) (d : Nat) : Prop where
  out : OutAt C H p l (L.drop d) d
  ls : H a = some (.lst L)
  dt : ∀ v ∈ L, TupD H 5 v
  kp : ∀ b o, H0 b = some o → b ≠ a → b ≠ l → H b = some o
theorem PutAt.same {C : Addr} {H0 H H' : Hp} {p l a : Addr} {L : List V} {d : Nat} (R : PutAt C H0 H p l a L d) (s : Same H H') : PutAt C H0 H' p l a L d :=
  ⟨R.out.same s, s _ _ R.ls, fun v hv => (R.dt v hv).mono (TSame.of s), fun b o e h1 h2 => s _ _ (R.kp b o e h1 h2)⟩
theorem PutAt.step {C : Addr} {H0 H : Hp} {p l a : Addr} {L : List V} {d : Nat} {v : V} (R : PutAt C H0 H p l a L d) (nal : a ≠ l) (hd : d ≤ L.length) (hv : TupD H 5 v) :
    PutAt C H0 (upd (upd H a (.lst (L ++ [v]))) l (.lst (L.drop d ++ [v]))) p l a (L ++ [v]) d := by
  obtain ⟨⟨⟨dx, h1⟩, h2⟩, h3, h4, h5⟩ := R
  have npl : p ≠ l := ne_of h1 h2 (by intro q; cases q)
  have npa : p ≠ a := ne_of h1 h3 (by intro q; cases q)
  have ts : TSame H (upd (upd H a (.lst (L ++ [v]))) l (.lst (L.drop d ++ [v]))) := fun b xs e => by
    rw [upd_ne (ne_of e h2 (by intro q; cases q)), upd_ne (ne_of e h3 (by intro q; cases q))]
    exact e
  refine ⟨⟨⟨dx, by rw [upd_ne npl, upd_ne npa]; exact h1⟩, ?_⟩, (by rw [upd_ne nal, upd_same]), fun u hu => ?_, fun b o e ha hl => by rw [upd_ne hl, upd_ne ha]; exact h5 b o e ha hl⟩
  · rw [upd_same, List.drop_append_of_le_length hd]
  · rcases List.mem_append.mp hu with h | h
    · exact (h4 u h).mono ts
    · rw [List.mem_singleton.mp h]
      exact hv.mono ts
def spPuts (K : PySem.W.Frag) : Sp := fun vs H Q _ => ∃ (p l a : Addr) (L : List V) (d : Nat) (part : Int), vs = [.ref p, .ref a, .int part] ∧ PutAt (cO K) H H p l a L d ∧ a ≠ l ∧ d ≤ L.length ∧ L.length ≤ 8000 ∧
  ∀ (ws : List V) (H' : Hp), ws.length ≤ 126 → PutAt (cO K) H H' p l a (L ++ ws) d → Q (.bl true) H'
def spTakeL (K : PySem.W.Frag) : Sp := fun vs H Q _ => ∃ (H0 : Hp) (M D : Sl → Addr) (kk : Nat → Addr) (v : Vs) (j : Nat), vs = [.ref (M .net), .ref (M .bag), .int (j : Int)] ∧ Sep H0 M ∧ Sta K H0 M D kk H v ∧ j < v.ps.length ∧ v.ps.length ≤ 100000 ∧
  ∀ H' : Hp, Sta K H0 M D kk H' { v with xs := v.xs.eraseIdx j, ys := v.ys.eraseIdx j, ps := v.ps.eraseIdx j } → Q (.bl true) H'
def spSend (K : PySem.W.Frag) : Sp := fun vs H Q _ => ∃ (H0 : Hp) (M D : Sl → Addr) (kk : Nat → Addr) (v : Vs) (s : Nat), vs = [.ref (M .outs), .ref (M .puts), .ref (M .acked), .ref (M .net), .ref (M .bag), .int (s : Int)] ∧ Sep H0 M ∧ Sta K H0 M D kk H v ∧ s < 3 ∧
  (∀ i, i < 6 → (v.P i).length ≤ 8000) ∧ v.ps.length ≤ 80000 ∧
  ∀ (xs ys : List V) (H' : Hp), Sta K H0 M D kk H' { v with xs := xs, ys := ys, ps := v.ps ++ sent v.P v.A s 3 } → Q (.bl true) H'
def spDeliver (K : PySem.W.Frag) : Sp := fun vs H Q _ => ∃ (H0 : Hp) (M D : Sl → Addr) (kk : Nat → Addr) (v : Vs) (j : Nat), vs = [.ref (M .outs), .ref (M .ends), .ref (M .taken), .ref (M .acked), .ref (M .net), .ref (M .bag), .int (j : Int)] ∧ Sep H0 M ∧ Sta K H0 M D kk H v ∧ j < v.ps.length ∧ v.ps.length ≤ 90000 ∧
  (∀ i, i < 6 → (v.P i).length ≤ 8000) ∧ ∀ (v' : Vs) (D' : Sl → Addr) (H' : Hp), Dlv v j v' → Sta K H0 M D' kk H' v' → Q (.bl true) H'
def spHolds (K : PySem.W.Frag) : Sp := fun vs H Q _ => ∃ (H0 : Hp) (M D : Sl → Addr) (kk : Nat → Addr) (v : Vs), vs = [.ref (M .outs), .ref (M .ends), .ref (M .puts), .ref (M .taken), .ref (M .acked), .ref (M .keys)] ∧ Sta K H0 M D kk H v ∧
  (∀ i, i < 6 → (v.P i).length ≤ 8000) ∧ ∀ H' : Hp, Same H H' → Q (.bl true) H'
def spEnds (K : PySem.W.Frag) : Sp := fun vs H Q _ => ∃ (H0 : Hp) (M D : Sl → Addr) (kk : Nat → Addr) (v : Vs), vs = [.ref (M .outs), .ref (M .ends), .ref (M .puts), .ref (M .taken), .ref (M .acked), .ref (M .keys), .ref (M .net), .ref (M .bag)] ∧ Sep H0 M ∧ Sta K H0 M D kk H v ∧
  (∀ i, i < 6 → (v.P i).length ≤ 8000) ∧ v.ps.length ≤ 20000 ∧ ∀ H' : Hp, Q (.bl true) H'
def spLaw (K : PySem.W.Frag) : Sp := fun vs H Q _ => ∃ (a : Addr) (ns : List Int), vs = [.ref a] ∧ SqL K H a (ns.map V.int) ∧ ns.length ≤ 63 ∧ ∀ H', Q (.bl true) H'
theorem five {H : Hp} {t1 t2 t3 t4 t5 : Addr} {X1 X2 X3 X4 : HO} (X5 : HO) (h1 : H t1 = none) (h2 : (upd H t1 X1) t2 = none) (h3 : (upd (upd H t1 X1) t2 X2) t3 = none) (h4 : (upd (upd (upd H t1 X1) t2 X2) t3 X3) t4 = none)
    (h5 : (upd (upd (upd (upd H t1 X1) t2 X2) t3 X3) t4 X4) t5 = none) : Same (upd H t1 X1) (upd (upd (upd (upd (upd H t1 X1) t2 X2) t3 X3) t4 X4) t5 X5) ∧ Same (upd (upd (upd H t1 X1) t2 X2) t3 X3) (upd (upd (upd (upd (upd H t1 X1) t2 X2) t3 X3) t4 X4) t5 X5) ∧
    Same (upd (upd (upd (upd H t1 X1) t2 X2) t3 X3) t4 X4) (upd (upd (upd (upd (upd H t1 X1) t2 X2) t3 X3) t4 X4) t5 X5) ∧ Same H (upd (upd (upd (upd (upd H t1 X1) t2 X2) t3 X3) t4 X4) t5 X5) := by
  have s1 := Same.new (o := X1) h1
  have s2 := Same.new (o := X2) h2
  have s3 := Same.new (o := X3) h3
  have s4 := Same.new (o := X4) h4
  have s5 := Same.new (o := X5) h5
  exact ⟨((s2.trans s3).trans s4).trans s5, s4.trans s5, s5, (((s1.trans s2).trans s3).trans s4).trans s5⟩
theorem dgt {H : Hp} {a b : Addr} {f : Nat → V} {i : Nat} (e : H a = some (.dT (tab f))) (eb : H b = some (.tup ((keyO i).map kV))) (hi : i < 6) : DGet H a (.ref b) (some (f i)) := by
  rw [← tab_get f hi]
  exact DGet.t e eb
section
variable {K : PySem.W.Frag} {H0 : Hp} {M D : Sl → Addr} {kk : Nat → Addr} {H H' : Hp} {v : Vs}
theorem Sta.gO (R : Sta K H0 M D kk H v) {i : Nat} (hi : i < 6) {b : Addr} (eb : H b = some (.tup ((keyO i).map kV))) : DGet H (M .outs) (.ref b) (some (.ref (M (.o i)))) := dgt (f := fun i => .ref (M (.o i))) (R.at_ .outs trivial) eb hi
theorem Sta.gE (R : Sta K H0 M D kk H v) {i : Nat} (hi : i < 6) {b : Addr} (eb : H b = some (.tup ((keyO i).map kV))) : DGet H (M .ends) (.ref b) (some (.ref (M (.e i)))) := dgt (f := fun i => .ref (M (.e i))) (R.at_ .ends trivial) eb hi
theorem Sta.gP (R : Sta K H0 M D kk H v) {i : Nat} (hi : i < 6) {b : Addr} (eb : H b = some (.tup ((keyO i).map kV))) : DGet H (M .puts) (.ref b) (some (.ref (M (.p i)))) := dgt (f := fun i => .ref (M (.p i))) (R.at_ .puts trivial) eb hi
theorem Sta.gT (R : Sta K H0 M D kk H v) {i : Nat} (hi : i < 6) {b : Addr} (eb : H b = some (.tup ((keyO i).map kV))) : DGet H (M .taken) (.ref b) (some (.ref (M (.t i)))) := dgt (f := fun i => .ref (M (.t i))) (R.at_ .taken trivial) eb hi
theorem Sta.gA (R : Sta K H0 M D kk H v) {i : Nat} (hi : i < 6) {b : Addr} (eb : H b = some (.tup ((keyO i).map kV))) : DGet H (M .acked) (.ref b) (some (.int (v.A i : Int))) := dgt (f := fun i => .int (v.A i : Int)) (R.at_ .acked trivial) eb hi
theorem Sta.pl (R : Sta K H0 M D kk H v) {i : Nat} (hi : i < 6) : SqL K H (M (.p i)) (v.P i) := SqL.of (R.at_ (.p i) hi)
theorem Sta.tl (R : Sta K H0 M D kk H v) {i : Nat} (hi : i < 6) : SqL K H (M (.t i)) ((v.P i).take (v.T i)) := SqL.of (R.at_ (.t i) hi)
theorem Sta.tlen (R : Sta K H0 M D kk H v) {i : Nat} (hi : i < 6) : ((v.P i).take (v.T i)).length = v.T i := by
  rw [List.length_take]
  have := (R.at1 i hi).2
  omega
end
theorem cut_take (xs : List V) (k : Nat) : cutV xs none (some (k : Int)) = xs.take k := by
  unfold cutV
  rw [HT.sIx_none, HT.sIx_nat, List.drop_zero, Nat.sub_zero, List.take_eq_take_iff]
  omega
theorem six_ix {α : Type} {f : Nat → α} {i : Nat} {x : α} (h : (six f)[i]? = some x) : i < 6 ∧ x = f i := by
  have hi : i < 6 := (List.getElem?_eq_some_iff.mp h).1
  rw [six_at f hi] at h
  injection h with h
  exact ⟨hi, h.symm⟩
theorem dpt {H : Hp} {a b : Addr} {f : Nat → V} {i : Nat} {x : V} (e : H a = some (.dT (tab f))) (eb : H b = some (.tup ((keyO i).map kV))) (hi : i < 6) : DPut H a (.ref b) x (upd H a (.dT (tab (put1 f i x)))) := by
  rw [← tab_put f x hi]
  exact DPut.t e eb (by show 6 < sizeLine; decide)
section
variable {K : PySem.W.Frag} {H0 : Hp} {M D : Sl → Addr} {kk : Nat → Addr} {H H' : Hp} {v : Vs}
theorem Sta.postF (S : Sep H0 M) (R : Sta K H0 M D kk H v) {q : Pk} (g : Good v.P v.T q) {fs : List V} (e : fs = q.fld) {a b : Addr} (ha : H a = none) (hb : (upd (upd H a (.tup fs)) (M .nl) (.lst (v.xs ++ [.ref a]))) b = none) :
    Sta K H0 M D kk (upd (upd (upd (upd H a (.tup fs)) (M .nl) (.lst (v.xs ++ [.ref a]))) b (.tup fs)) (M .bag) (.lst (v.ys ++ [.ref b]))) { v with xs := v.xs ++ [.ref a], ys := v.ys ++ [.ref b], ps := v.ps ++ [q] } := by
  subst e
  exact R.post S g ha hb
/-- what is no list of packets stays when a packet is posted -/
theorem post_keep {a b c : Addr} {o oa ob : HO} {L L' : List V} (ha : H a = none) (hb : (upd (upd H a oa) (M .nl) (.lst L)) b = none) (e : H c = some o) (h1 : c ≠ M .nl) (h2 : c ≠ M .bag) :
    (upd (upd (upd (upd H a oa) (M .nl) (.lst L)) b ob) (M .bag) (.lst L')) c = some o := by
  have e1 : (upd (upd H a oa) (M .nl) (.lst L)) c = some o := by
    rw [upd_ne h1, upd_ne (ne_of_none e ha)]
    exact e
  rw [upd_ne h2, upd_ne (ne_of_none e1 hb)]
  exact e1
end
/-- tuples (number, letter) that stand at ts -/
def NumAt (H : Hp) (L : List V) (d : Nat) (ts : List Addr) : Prop := ∀ (j : Nat) (t : Addr), ts[j]? = some t → ∃ x, L[d + j]? = some x ∧ H t = some (.tup [.int ((d + j + 1 : Nat) : Int), x])
theorem NumAt.snoc {H : Hp} {L : List V} {d : Nat} {ts : List Addr} {t : Addr} {x : V} (N : NumAt H L d ts) (hx : L[d + ts.length]? = some x) (ht : H t = some (.tup [.int ((d + ts.length + 1 : Nat) : Int), x])) : NumAt H L d (ts ++ [t]) := fun j u e => by
  rcases Nat.lt_or_ge j ts.length with h | h
  · rw [List.getElem?_append_left h] at e
    exact N j u e
  · rw [List.getElem?_append_right h] at e
    have : j - ts.length < 1 := (List.getElem?_eq_some_iff.mp e).1
    have ej : j = ts.length := by omega
    subst ej
    rw [Nat.sub_self] at e
    injection e with e
    subst e
    exact ⟨x, hx, ht⟩
theorem NumAt.mono {H H' : Hp} (s : TSame H H') {L : List V} {d : Nat} {ts : List Addr} (N : NumAt H L d ts) : NumAt H' L d ts := fun j t e => by
  obtain ⟨x, h1, h2⟩ := N j t e
  exact ⟨x, h1, s _ _ h2⟩
theorem sent_same {P : Nat → List V} {A : Nat → Nat} {s t : Nat} (h : t = s) : sent P A s (t + 1) = sent P A s t := by
  show sent P A s t ++ (if t = s then [] else dueP P A (ixO s t)) = _
  rw [if_pos h, List.append_nil]
theorem sent_next {P : Nat → List V} {A : Nat → Nat} {s t i : Nat} (h : ¬ t = s) (ei : ixO s t = i) : sent P A s (t + 1) = sent P A s t ++ dueP P A i := by
  show sent P A s t ++ (if t = s then [] else dueP P A (ixO s t)) = _
  rw [if_neg h, ei]
def sentU (P : Nat → List V) (A : Nat → Nat) : Nat → List Pk
  | 0 => []
  | s + 1 => sentU P A s ++ sent P A s 3
theorem sentU_len {P : Nat → List V} {A : Nat → Nat} (h : ∀ i, i < 6 → (P i).length ≤ 8000) : ∀ s, s ≤ 3 → (sentU P A s).length ≤ 16000 * s
  | 0, _ => Nat.zero_le _
  | s + 1, hs => by
    have ih := sentU_len (A := A) h s (by omega)
    have l := sent_len (A := A) (s := s) (by omega) h 3 (by omega)
    rw [if_pos (by omega)] at l
    show (sentU P A s ++ sent P A s 3).length ≤ _
    rw [List.length_append]
    omega
theorem no_dat {K : PySem.W.Frag} {H : Hp} {a b : Addr} (ha : H a = some (.lst [])) (hb : H b = some (.lst [])) : Dp K H (.ref a) (.list []) ∧ Dp K H (.ref b) (.list []) ∧ SeqAt.shaped (.list []) = true ∧ PyData.eqv (.list []) (.list []) = true :=
  ⟨.lst (SqL.of ha) .nil, .lst (SqL.of hb) .nil, shaped_of rfl (by simp [PyData.depth, PyData.depthAll]), SeqAt.eqv_refl _ rfl⟩
section
variable {K : PySem.W.Frag} {H0 : Hp} {M D : Sl → Addr} {kk : Nat → Addr} {H H' : Hp} {v : Vs}
/-- letters were put into channel i -/
theorem Sta.put (S : Sep H0 M) (R : Sta K H0 M D kk H v) {i : Nat} (hi : i < 6) {ws : List V} (B : PutAt (cO K) H H' (M (.o i)) (M (.ol i)) (M (.p i)) (v.P i ++ ws) (v.A i)) :
    ∃ D', Sta K H0 M D' kk H' { v with P := put1 v.P i (v.P i ++ ws) } := by
  obtain ⟨⟨⟨dx, o1⟩, o2⟩, b1, b2, b3⟩ := B
  have a1 := R.at1 i hi
  have F : Fr M [.o i, .ol i, .p i] H H' := fun b o e h => b3 b o e (h _ (by simp)) (h _ (by simp))
  have ok : ∀ x ∈ ([.o i, .ol i, .p i] : List Sl), Sl.ok x := by
    intro x hx
    simp only [List.mem_cons, List.not_mem_nil, or_false] at hx
    rcases hx with rfl | rfl | rfl <;> exact hi
  have ts := R.ts ok F
  refine ⟨fun s => if s = .o i then dx else D s, R.next S [.o i, .ol i, .p i] ?_ F ?_ (fun j hj => ?_) (fun j hj x hx => ?_) (R.rx.mono ts) (R.ry.mono ts) (fun q hq => ?_)⟩
  · intro x hx
    simp only [List.mem_cons, List.not_mem_nil, or_false] at hx
    rcases hx with rfl | rfl | rfl
    · refine ⟨hi, ?_⟩
      rw [o1]
      show _ = some (HO.ins (cO K) (if Sl.o i = Sl.o i then dx else D (.o i)) (outf (M (.ol i)) (v.A i : Int)))
      rw [if_pos rfl]
    · refine ⟨hi, ?_⟩
      rw [o2]
      show _ = some (HO.lst ((put1 v.P i (v.P i ++ ws) i).drop (v.A i)))
      rw [put1_same]
    · refine ⟨hi, ?_⟩
      rw [b1]
      show _ = some (HO.lst (put1 v.P i (v.P i ++ ws) i))
      rw [put1_same]
  · intro s hs hn
    cases s with
    | o j =>
      have c : j ≠ i := fun e => hn (by rw [e]; simp)
      show HO.ins (cO K) (D (.o j)) _ = HO.ins (cO K) (if Sl.o j = Sl.o i then dx else D (.o j)) _
      rw [if_neg (fun e => c (by injection e))]
    | ol j =>
      have c : j ≠ i := fun e => hn (by rw [e]; simp)
      show HO.lst ((v.P j).drop (v.A j)) = HO.lst ((put1 v.P i (v.P i ++ ws) j).drop (v.A j))
      rw [put1_ne _ _ c]
    | p j =>
      have c : j ≠ i := fun e => hn (by rw [e]; simp)
      show HO.lst (v.P j) = HO.lst (put1 v.P i (v.P i ++ ws) j)
      rw [put1_ne _ _ c]
    | t j =>
      show HO.lst ((v.P j).take (v.T j)) = HO.lst ((put1 v.P i (v.P i ++ ws) j).take (v.T j))
      by_cases c : j = i
      · subst c
        rw [put1_same, List.take_append_of_le_length a1.2]
      · rw [put1_ne _ _ c]
    | _ => rfl
  · have := R.at1 j hj
    show v.A j ≤ v.T j ∧ v.T j ≤ (put1 v.P i (v.P i ++ ws) j).length
    by_cases c : j = i
    · subst c
      rw [put1_same, List.length_append]
      omega
    · rw [put1_ne _ _ c]
      exact this
  · have hx : x ∈ put1 v.P i (v.P i ++ ws) j := hx
    by_cases c : j = i
    · subst c
      rw [put1_same] at hx
      exact .inr (b2 x hx)
    · rw [put1_ne _ _ c] at hx
      exact .inl hx
  · have g := R.gd q hq
    cases q with
    | ack j n => exact g
    | data j n x =>
      refine ⟨g.1, g.2.1, ?_⟩
      show (put1 v.P i (v.P i ++ ws) j)[n - 1]? = some x
      have h := g.2.2
      by_cases c : j = i
      · subst c
        rw [put1_same, List.getElem?_append_left (List.getElem?_eq_some_iff.mp h).1]
        exact h
      · rw [put1_ne _ _ c]
        exact h
/-- a packet was repeated on both -/
theorem Sta.rep (S : Sep H0 M) (R : Sta K H0 M D kk H v) {j : Nat} {q : Pk} {x y : V} (hq : v.ps[j]? = some q) (hx : v.xs[j]? = some x) (hy : v.ys[j]? = some y) :
    Sta K H0 M D kk (upd (upd H (M .nl) (.lst (v.xs ++ [x]))) (M .bag) (.lst (v.ys ++ [y]))) { v with xs := v.xs ++ [x], ys := v.ys ++ [y], ps := v.ps ++ [q] } := by
  have nbl : M .bag ≠ M .nl := S.inj _ _ trivial trivial (by intro q; cases q)
  have F : Fr M [.nl, .bag] H (upd (upd H (M .nl) (.lst (v.xs ++ [x]))) (M .bag) (.lst (v.ys ++ [y]))) := Fr.upd2
  have ts := R.ts (X := [.nl, .bag]) (by intro x hx; simp only [List.mem_cons, List.not_mem_nil, or_false] at hx; rcases hx with rfl | rfl <;> exact trivial) F
  obtain ⟨x', hx', px⟩ := R.rx.at_ hq
  obtain ⟨y', hy', py⟩ := R.ry.at_ hq
  rw [hx] at hx'
  rw [hy] at hy'
  injection hx' with hx'
  injection hy' with hy'
  subst hx' hy'
  obtain ⟨a, ea, ha⟩ := px
  obtain ⟨b, eb, hb⟩ := py
  refine R.nets S F (by rw [upd_ne nbl.symm, upd_same]) upd_same ((R.rx.mono ts).snoc ⟨a, ea, ts _ _ ha⟩) ((R.ry.mono ts).snoc ⟨b, eb, ts _ _ hb⟩) fun u hu => ?_
  rcases List.mem_append.mp hu with h | h
  · exact R.gd u h
  · rw [List.mem_singleton.mp h]
    exact R.gd q (List.mem_of_getElem? hq)
end
/-! ### how the state is made -/
structure Pl (H0 : Hp) (X : Sl → Prop) (M : Sl → Addr) (c : Sl → HO) (H : Hp) : Prop where
  at_ : ∀ s, X s → H (M s) = some (c s)
  inj : ∀ a b, X a → X b → a ≠ b → M a ≠ M b
  fr : ∀ s, X s → H0 (M s) = none
  sm : Same H0 H
def ins {α : Type} (f : Sl → α) (s0 : Sl) (x : α) : Sl → α := fun s => if s = s0 then x else f s
theorem ins_same {α : Type} (f : Sl → α) (s0 : Sl) (x : α) : ins f s0 x s0 = x := if_pos rfl
theorem ins_ne {α : Type} (f : Sl → α) {s s0 : Sl} (x : α) (h : s ≠ s0) : ins f s0 x s = f s := if_neg h
section
variable {H0 H H' : Hp} {X : Sl → Prop} {M : Sl → Addr} {c : Sl → HO}
theorem Pl.same (P : Pl H0 X M c H) (s : Same H H') : Pl H0 X M c H' := ⟨fun x h => s _ _ (P.at_ x h), P.inj, P.fr, P.sm.trans s⟩
theorem Pl.add (P : Pl H0 X M c H) {s0 : Sl} {a : Addr} {o : HO} (hs : ¬ X s0) (n : ∀ s, X s → M s ≠ a) (f : H0 a = none) (h : H a = some o) : Pl H0 (fun s => X s ∨ s = s0) (ins M s0 a) (ins c s0 o) H := by
  have ne : ∀ s, X s → s ≠ s0 := fun s x e => hs (e ▸ x)
  refine ⟨fun s hx => ?_, fun s t hx hy d => ?_, fun s hx => ?_, P.sm⟩
  · rcases hx with hx | rfl
    · rw [ins_ne _ _ (ne s hx), ins_ne _ _ (ne s hx)]
      exact P.at_ s hx
    · rw [ins_same, ins_same]
      exact h
  · rcases hx with hx | rfl
    · rcases hy with hy | rfl
      · rw [ins_ne _ _ (ne s hx), ins_ne _ _ (ne t hy)]
        exact P.inj s t hx hy d
      · rw [ins_ne _ _ (ne s hx), ins_same]
        exact n s hx
    · rcases hy with hy | rfl
      · rw [ins_same, ins_ne _ _ (ne t hy)]
        exact (n t hy).symm
      · exact absurd rfl d
  · rcases hx with hx | rfl
    · rw [ins_ne _ _ (ne s hx)]
      exact P.fr s hx
    · rw [ins_same]
      exact f
theorem Pl.set (P : Pl H0 X M c H) {s0 : Sl} (o : HO) (hs : X s0) : Pl H0 X M (ins c s0 o) (upd H (M s0) o) := by
  refine ⟨fun s hx => ?_, P.inj, P.fr, fun b u e => ?_⟩
  · by_cases d : s = s0
    · subst d
      rw [ins_same, upd_same]
    · rw [ins_ne _ _ d, upd_ne (P.inj _ _ hx hs d)]
      exact P.at_ s hx
  · rw [upd_ne (fun q => by have := P.fr s0 hs; rw [← q, e] at this; cases this)]
    exact P.sm _ _ e
theorem Pl.conv (P : Pl H0 X M c H) {X' : Sl → Prop} {M' : Sl → Addr} {c' : Sl → HO} (hx : ∀ s, X' s → X s) (hm : ∀ s, X' s → M s = M' s) (hc : ∀ s, X' s → c s = c' s) : Pl H0 X' M' c' H :=
  ⟨fun s h => by rw [← hm s h, ← hc s h]; exact P.at_ s (hx s h), fun a b ha hb d => by rw [← hm a ha, ← hm b hb]; exact P.inj a b (hx a ha) (hx b hb) d, fun s h => by rw [← hm s h]; exact P.fr s (hx s h), P.sm⟩
/-- a new object, at a place of its own -/
theorem Pl.fresh (P : Pl H0 X M c H) {s0 : Sl} {a : Addr} (o : HO) (hs : ¬ X s0) (n : H a = none) : Pl H0 (fun s => X s ∨ s = s0) (ins M s0 a) (ins c s0 o) (upd H a o) :=
  (P.same (Same.new (o := o) n)).add hs (fun s x => ne_of_none (P.at_ s x) n) (P.sm.free n) upd_same
end
structure Ad where
  keys : Addr
  outs : Addr
  ends : Addr
  puts : Addr
  taken : Addr
  acked : Addr
  bag : Addr
  nl : Addr
  net : Addr
  dn : Addr
  o : Nat → Addr
  ol : Nat → Addr
  e : Nat → Addr
  p : Nat → Addr
  t : Nat → Addr
  dO : Nat → Addr
  dE : Nat → Addr
def Ad.M (d : Ad) : Sl → Addr
  | .keys => d.keys
  | .outs => d.outs
  | .ends => d.ends
  | .puts => d.puts
  | .taken => d.taken
  | .acked => d.acked
  | .bag => d.bag
  | .nl => d.nl
  | .net => d.net
  | .o i => d.o i
  | .ol i => d.ol i
  | .e i => d.e i
  | .p i => d.p i
  | .t i => d.t i
def Ad.D (d : Ad) : Sl → Addr
  | .o i => d.dO i
  | .e i => d.dE i
  | _ => d.dn
def okU (n : Nat) : Sl → Prop
  | .bag => False
  | .nl => False
  | .net => False
  | .o i => i < n
  | .ol i => i < n
  | .e i => i < n
  | .p i => i < n
  | .t i => i < n
  | _ => True
def cB (K : PySem.W.Frag) (kk : Nat → Addr) (d : Ad) (n : Nat) : Sl → HO
  | .outs => .dT ((tab fun i => .ref (d.o i)).take n)
  | .ends => .dT ((tab fun i => .ref (d.e i)).take n)
  | .puts => .dT ((tab fun i => .ref (d.p i)).take n)
  | .taken => .dT ((tab fun i => .ref (d.t i)).take n)
  | .acked => .dT ((tab fun _ => .int 0).take n)
  | .keys => .lst (six fun i => .ref (kk i))
  | .o i => .ins (cO K) (d.dO i) (outf (d.ol i) 0)
  | .e i => .ins (cI K) (d.dE i) (inf 0)
  | _ => .lst []
theorem tab_take {α : Type} (g : α → V) (f : Nat → α) {i : Nat} (x : α) (hi : i < 6) : (tab fun j => g (put1 f i x j)).take (i + 1) = (tab fun j => g (f j)).take i ++ [(keyO i, g x)] := by
  match i, hi with
  | 0, _ => rfl
  | 1, _ => rfl
  | 2, _ => rfl
  | 3, _ => rfl
  | 4, _ => rfl
  | 5, _ => rfl
theorem tab_none (f : Nat → V) {i : Nat} (hi : i < 6) : valV ((tab f).take i) (keyO i) = none := by
  have n : ∀ j, j < 6 → j ≠ i → ¬ keyO j = keyO i := fun j hj h => keyO_ne hj hi h
  match i, hi with
  | 0, _ => rfl
  | 1, _ => show valV [_] _ = _; rw [valV_neg (n 0 (by decide) (by decide))]; rfl
  | 2, _ => show valV [_, _] _ = _; rw [valV_neg (n 0 (by decide) (by decide)), valV_neg (n 1 (by decide) (by decide))]; rfl
  | 3, _ => show valV [_, _, _] _ = _; rw [valV_neg (n 0 (by decide) (by decide)), valV_neg (n 1 (by decide) (by decide)), valV_neg (n 2 (by decide) (by decide))]; rfl
  | 4, _ => show valV [_, _, _, _] _ = _; rw [valV_neg (n 0 (by decide) (by decide)), valV_neg (n 1 (by decide) (by decide)), valV_neg (n 2 (by decide) (by decide)), valV_neg (n 3 (by decide) (by decide))]; rfl
  | 5, _ => show valV [_, _, _, _, _] _ = _; rw [valV_neg (n 0 (by decide) (by decide)), valV_neg (n 1 (by decide) (by decide)), valV_neg (n 2 (by decide) (by decide)), valV_neg (n 3 (by decide) (by decide)), valV_neg (n 4 (by decide) (by decide))]; rfl
theorem dnew {H : Hp} {a b : Addr} {f : Nat → V} {i : Nat} (x : V) (e : H a = some (.dT ((tab f).take i))) (eb : H b = some (.tup ((keyO i).map kV))) (hi : i < 6) : DPut H a (.ref b) x (upd H a (.dT ((tab f).take i ++ [(keyO i, x)]))) := by
  rw [← putK_new x (tab_none f hi)]
  exact DPut.t e eb (by rw [List.length_take]; have : (100000 : Nat) < sizeLine := by decide
                        omega)
/-- while the state is made -/
structure BS (H0 : Hp) (kk : Nat → Addr) (X : Sl → Prop) (M : Sl → Addr) (c : Sl → HO) (H : Hp) : Prop where
  pl : Pl H0 X M c H
  kt : ∀ j, j < 6 → H (kk j) = some (.tup ((keyO j).map kV))
section
variable {H0 H H' : Hp} {kk : Nat → Addr} {X : Sl → Prop} {M : Sl → Addr} {c : Sl → HO}
theorem BS.same (B : BS H0 kk X M c H) (s : Same H H') : BS H0 kk X M c H' := ⟨B.pl.same s, fun j hj => s _ _ (B.kt j hj)⟩
theorem BS.add (B : BS H0 kk X M c H) {s0 : Sl} {a : Addr} {o : HO} (hs : ¬ X s0) (n : ∀ s, X s → M s ≠ a) (f : H0 a = none) (h : H a = some o) : BS H0 kk (fun s => X s ∨ s = s0) (ins M s0 a) (ins c s0 o) H := ⟨B.pl.add hs n f h, B.kt⟩
theorem BS.fresh (B : BS H0 kk X M c H) {s0 : Sl} {a : Addr} (o : HO) (hs : ¬ X s0) (n : H a = none) : BS H0 kk (fun s => X s ∨ s = s0) (ins M s0 a) (ins c s0 o) (upd H a o) := ⟨B.pl.fresh o hs n, fun j hj => Same.new n _ _ (B.kt j hj)⟩
theorem BS.get (B : BS H0 kk X M c H) (s : Sl) (hX : X s) {a : Addr} {o : HO} (ea : M s = a) (eo : c s = o) : H a = some o := by
  rw [← ea, ← eo]
  exact B.pl.at_ s hX
theorem BS.dset (B : BS H0 kk X M c H) (s : Sl) (hX : X s) {a : Addr} {kvs : List (List Key × V)} (kvs' : List (List Key × V)) (ea : M s = a) (eo : c s = .dT kvs) : BS H0 kk X M (ins c s (.dT kvs')) (upd H a (.dT kvs')) := by
  subst ea
  refine ⟨B.pl.set _ hX, fun j hj => ?_⟩
  rw [upd_ne (ne_of (B.kt j hj) (B.get s hX rfl eo) (by intro q; cases q))]
  exact B.kt j hj
/-- one channel more -/
theorem BS.turn {K : PySem.W.Frag} {d : Ad} {i : Nat} {x l y p t dx dy : Addr} (hi : i < 6) (B : BS H0 kk (fun s => ((((okU i s ∨ s = .o i) ∨ s = .ol i) ∨ s = .e i) ∨ s = .p i) ∨ s = .t i) (ins (ins (ins (ins (ins d.M (.o i) x) (.ol i) l) (.e i) y) (.p i) p) (.t i) t)
    (ins (ins (ins (ins (ins (ins (ins (ins (ins (ins (cB K kk d i) (.o i) (.ins (cO K) dx (outf l 0))) (.ol i) (.lst [])) .outs (.dT ((tab fun j => .ref (d.o j)).take i ++ [(keyO i, .ref x)]))) (.e i) (.ins (cI K) dy (inf 0))) .ends (.dT ((tab fun j => .ref (d.e j)).take i ++ [(keyO i, .ref y)])))
      (.p i) (.lst [])) .puts (.dT ((tab fun j => .ref (d.p j)).take i ++ [(keyO i, .ref p)]))) (.t i) (.lst [])) .taken (.dT ((tab fun j => .ref (d.t j)).take i ++ [(keyO i, .ref t)]))) .acked (.dT ((tab fun _ => .int 0).take i ++ [(keyO i, .int 0)]))) H) :
    BS H0 kk (okU (i + 1)) ({ d with o := put1 d.o i x, ol := put1 d.ol i l, e := put1 d.e i y, p := put1 d.p i p, t := put1 d.t i t, dO := put1 d.dO i dx, dE := put1 d.dE i dy } : Ad).M
      (cB K kk { d with o := put1 d.o i x, ol := put1 d.ol i l, e := put1 d.e i y, p := put1 d.p i p, t := put1 d.t i t, dO := put1 d.dO i dx, dE := put1 d.dE i dy } (i + 1)) H := by
  refine ⟨B.pl.conv ?_ ?_ ?_, B.kt⟩
  · intro s h
    cases s <;> simp [okU] at h ⊢ <;> omega
  · intro s h
    cases s <;> simp [ins, Ad.M, put1]
  · intro s h
    cases s with
    | outs => simp [ins, cB, tab_take (fun a => V.ref a) d.o x hi]
    | ends => simp [ins, cB, tab_take (fun a => V.ref a) d.e y hi]
    | puts => simp [ins, cB, tab_take (fun a => V.ref a) d.p p hi]
    | taken => simp [ins, cB, tab_take (fun a => V.ref a) d.t t hi]
    | acked =>
      have e : (tab fun _ => V.int 0).take (i + 1) = (tab fun _ => V.int 0).take i ++ [(keyO i, V.int 0)] := by
        have := tab_take (fun a : V => a) (fun _ => V.int 0) (V.int 0) hi
        rw [← this]
        congr 2
        funext j
        unfold put1
        split <;> rfl
      simp [ins, cB, e]
    | o j =>
      simp only [ins, cB, put1, Sl.o.injEq, reduceCtorEq, if_false]
      by_cases e : j = i
      · rw [if_pos e, if_pos e, if_pos e]
      · rw [if_neg e, if_neg e, if_neg e]
    | e j =>
      simp only [ins, cB, put1, Sl.e.injEq, reduceCtorEq, if_false]
      by_cases e : j = i
      · rw [if_pos e, if_pos e]
      · rw [if_neg e, if_neg e]
    | ol j => simp [ins, cB]
    | p j => simp [ins, cB]
    | t j => simp [ins, cB]
    | keys => simp [ins, cB]
    | bag => exact h.elim
    | nl => exact h.elim
    | net => exact h.elim
def v00 : Vs := ⟨fun _ => [], fun _ => 0, fun _ => 0, [], [], []⟩
/-- the state is made -/
theorem BS.done {K : PySem.W.Frag} {d : Ad} {p l b dx : Addr} (B : BS H0 kk (fun s => ((okU 6 s ∨ s = .net) ∨ s = .nl) ∨ s = .bag) (ins (ins (ins d.M .net p) .nl l) .bag b) (ins (ins (ins (cB K kk d 6) .net (.ins (cN K) dx (netf l))) .nl (.lst [])) .bag (.lst [])) H) :
    ∃ M D, Sep H0 M ∧ Sta K H0 M D kk H v00 ∧ M .keys = d.keys ∧ M .outs = d.outs ∧ M .ends = d.ends ∧ M .puts = d.puts ∧ M .taken = d.taken ∧ M .acked = d.acked ∧ M .net = p ∧ M .bag = b := by
  have C : Pl H0 Sl.ok ({ d with net := p, nl := l, bag := b, dn := dx } : Ad).M (ct K ({ d with net := p, nl := l, bag := b, dn := dx } : Ad).M ({ d with net := p, nl := l, bag := b, dn := dx } : Ad).D kk v00) H := by
    refine B.pl.conv ?_ ?_ ?_
    · intro s h
      cases s <;> simp [okU, Sl.ok] at h ⊢ <;> omega
    · intro s h
      cases s <;> simp [ins, Ad.M]
    · intro s h
      cases s with
      | net => simp [ins, ct, Ad.D, Ad.M]
      | nl => simp [ins, ct, v00]
      | bag => simp [ins, ct, v00]
      | outs => simp [ins, cB, ct, Ad.M]; rfl
      | ends => simp [ins, cB, ct, Ad.M]; rfl
      | puts => simp [ins, cB, ct, Ad.M]; rfl
      | taken => simp [ins, cB, ct, Ad.M]; rfl
      | acked => simp [ins, cB, ct, Ad.M]; rfl
      | _ => simp [ins, cB, ct, v00, Ad.M, Ad.D]
  exact ⟨_, _, ⟨C.inj, C.fr⟩, ⟨C.at_, B.kt, fun i hi => ⟨Nat.le_refl _, Nat.le_refl _⟩, fun i hi x hx => (by cases hx), .nil, .nil, fun q hq => (by cases hq), C.sm⟩, rfl, rfl, rfl, rfl, rfl, rfl, rfl, rfl⟩
end
theorem BS.add2 {H0 H H' : Hp} {kk : Nat → Addr} {X : Sl → Prop} {M : Sl → Addr} {c : Sl → HO} (B : BS H0 kk X M c H) (s : Same H H') {s1 s2 : Sl} {a b : Addr} {o u : HO} (h1 : ¬ X s1) (h2 : ¬ X s2) (h12 : s2 ≠ s1) (na : H a = none) (nb : H b = none) (ab : a ≠ b) (ha : H' a = some o) (hb : H' b = some u) :
    BS H0 kk (fun s => (X s ∨ s = s1) ∨ s = s2) (ins (ins M s1 a) s2 b) (ins (ins c s1 o) s2 u) H' := by
  have B2 := (B.same s).add h1 (fun s h => ne_of_none (B.pl.at_ s h) na) (B.pl.sm.free na) ha
  refine B2.add (fun h => ?_) (fun z h => ?_) (B.pl.sm.free nb) hb
  · rcases h with h | h
    · exact h2 h
    · exact h12 h
  · rcases h with h | rfl
    · rw [ins_ne _ _ (fun e : z = s1 => h1 (e ▸ h))]
      exact ne_of_none (B.pl.at_ z h) nb
    · rw [ins_same]
      exact ab

section
variable {P : Program} {w : World} {K : PySem.W.Frag} {mg : Str → Option Value} {base : Heap}
theorem ix_listK {X : Cx} {K : PySem.W.Frag} (h : X.K = K) : IxR X (rIxL K) := h ▸ ix_list
theorem hu2 {n : Nat} (h : n + 64 < cLine) : n + 1 < cLine := by omega
theorem ok_Outgoing_init (T : Txt K mg) : FnOk P w K mg base CX0 1 (He.ma K (He.ga K "Outgoing") "__init__") T.fd_Outgoing_init ["self"] (spOInit K) := by
  refine T.F_Outgoing_init.ok sc_Outgoing_init (fun vs H Q E h => ?_) (fun cdv A outer s H vs Q E hr h => ?_)
  · obtain ⟨p, dx, rfl, _⟩ := h
    rfl
  · obtain ⟨p, dx, rfl, hp, k⟩ := h
    refine ⟨_, PSs.nox (pss_cons (ps_fld (pv 0) (pe_lst pa_nil) rfl)
    (pss_one (ps_fld (pv 0) pe_int rfl))), ?_⟩
    refine ⟨Nat.zero_le _, fun l hl => ?_⟩
    have npl : p ≠ l := ne_of_none hp hl
    refine ⟨_, rfl, p, _, dx, [], rfl, (by rw [upd_ne npl]; exact hp), T.cl_Outgoing, T.n_Outgoing__letters, (by show 0 < 1000; decide), _, rfl, p, _, dx, _, rfl, upd_same, T.cl_Outgoing, T.n_Outgoing__acknowledged, (by show 1 < 1000; decide), ?_⟩
    refine k l _ ⟨⟨dx, upd_same⟩, by rw [upd_ne npl.symm, upd_ne npl.symm, upd_same]⟩ hl fun b o e hb => ?_
    rw [upd_ne hb, upd_ne hb, upd_ne (ne_of_none e hl)]
    exact e
theorem ok_Outgoing_put_count (T : Txt K mg) : FnOk P w K mg base CX0 1 (Fh.pgA K (He.ga K "Outgoing") "put_count") T.fd_Outgoing_put_count ["self"] (spCount K) := by
  refine T.F_Outgoing_put_count.ok sc_Outgoing_put_count (fun vs H Q E h => ?_) (fun cdv A outer s H vs Q E hr h => ?_)
  · obtain ⟨p, l, xs, k, rfl, _⟩ := h
    rfl
  · obtain ⟨p, l, xs, k, rfl, ⟨⟨dx, h1⟩, h2⟩, q⟩ := h
    refine ⟨_, PSs.nox (pss_one (ps_ret (pe_op op_add (pe_fld (pv 0) rfl) (pe_callB call_len_seq (by rfl) T.z_len (by decide +kernel) (pa_cons (pe_fld (pv 0) rfl) pa_nil))))), ?_⟩
    exact ⟨_, rfl, p, _, dx, _, _, rfl, h1, T.cl_Outgoing, T.n_Outgoing__acknowledged, outf_a _ _, _, rfl, p, _, dx, _, _, rfl, h1, T.cl_Outgoing, T.n_Outgoing__letters, outf_l _ _, l, _, rfl, .inl (SqL.of h2), _, _, rfl, rfl, q⟩
theorem ok_Outgoing_acknowledged (T : Txt K mg) : FnOk P w K mg base CX0 1 (Fh.pgA K (He.ga K "Outgoing") "acknowledged") T.fd_Outgoing_acknowledged ["self"] (spAcked K) := by
  refine T.F_Outgoing_acknowledged.ok sc_Outgoing_acknowledged (fun vs H Q E h => ?_) (fun cdv A outer s H vs Q E hr h => ?_)
  · obtain ⟨p, l, xs, k, rfl, _⟩ := h
    rfl
  · obtain ⟨p, l, xs, k, rfl, ⟨⟨dx, h1⟩, h2⟩, q⟩ := h
    refine ⟨_, PSs.nox (pss_one (ps_ret (pe_fld (pv 0) rfl))), ?_⟩
    exact ⟨_, rfl, p, _, dx, _, _, rfl, h1, T.cl_Outgoing, T.n_Outgoing__acknowledged, outf_a _ _, q⟩
theorem ok_Outgoing_put (T : Txt K mg) : FnOk P w K mg base CX0 3 (He.ma K (He.ga K "Outgoing") "put") T.fd_Outgoing_put ["self", "letter"] (spPut K) := by
  refine T.F_Outgoing_put.ok sc_Outgoing_put (fun vs H Q E h => ?_) (fun cdv A outer s H vs Q E hr h => ?_)
  · obtain ⟨p, l, xs, k, v, rfl, _⟩ := h
    rfl
  · obtain ⟨p, l, xs, k, v, rfl, ⟨⟨dx, h1⟩, h2⟩, hz, q⟩ := h
    refine ⟨_, PSs.nox (pss_cons (ps_expr (pe_bm PySem.F.plainAttrs_list PySem.F.slot_list_append PySem.F.type_list_append mt_append (pe_fld (pv 0) rfl) (pa_cons (pv 1) pa_nil)))
    (pss_one (ps_ret (pe_prop (pv 0) T.cl_Outgoing T.p_Outgoing_put_count (ok_Outgoing_put_count T) (hr.mono (by decide)) T.b_Outgoing_put_count .nil pass0 rfl)))), ?_⟩
    have npl : p ≠ l := ne_of h1 h2 (by intro q; cases q)
    refine ⟨_, rfl, p, _, dx, _, _, rfl, h1, T.cl_Outgoing, T.n_Outgoing__letters, outf_l _ _, .inl ⟨rfl, _, SqL.of h2⟩, _, rfl, l, _, _, rfl, rfl, h2, hz, ?_⟩
    have h1' : (upd H l (.lst (xs ++ [v]))) p = some (.ins (cO K) dx (outf l k)) := by rw [upd_ne npl]; exact h1
    refine ⟨_, rfl, p, dx, _, rfl, h1', p, l, _, k, rfl, ⟨⟨dx, h1'⟩, upd_same⟩, ?_⟩
    rw [List.length_append, List.length_singleton]
    exact q
theorem ok_Outgoing_due (T : Txt K mg) : FnOk P w K mg base CX0 1 (He.ma K (He.ga K "Outgoing") "due") T.fd_Outgoing_due ["self"] (spDue K) := by
  refine T.F_Outgoing_due.ok sc_Outgoing_due (fun vs H Q E h => ?_) (fun cdv A outer s H vs Q E hr h => ?_)
  · obtain ⟨p, l, xs, k, rfl, _⟩ := h
    rfl
  · obtain ⟨p, l, xs, k, rfl, ⟨⟨dx, h1⟩, h2⟩, k0, k1, q⟩ := h
    refine ⟨_, PSs.nox (pss_one (ps_ret (Fh.pe_listEnum rfl (pe_fld (pv 0) rfl) (pe_op op_add (pe_fld (pv 0) rfl) pe_int) (by rfl) T.z_list (by rfl) T.z_enumerate))), ?_⟩
    refine ⟨_, rfl, p, _, dx, _, _, rfl, h1, T.cl_Outgoing, T.n_Outgoing__letters, outf_l _ _, _, rfl, p, _, dx, _, _, rfl, h1, T.cl_Outgoing, T.n_Outgoing__acknowledged, outf_a _ _, _, _, rfl, rfl, l, xs, k + 1, rfl, rfl, SqL.of h2, by omega, by omega, fun H' p' ts s1 n1 _ _ _ hl hp hts => ?_⟩
    exact q H' p' ts s1 n1 hl hp hts
theorem ok_Outgoing_acknowledge (T : Txt K mg) : FnOk P w K mg base CX0 3 (He.ma K (He.ga K "Outgoing") "acknowledge") T.fd_Outgoing_acknowledge ["self", "number"] (spAck K) := by
  refine T.F_Outgoing_acknowledge.ok sc_Outgoing_acknowledge (fun vs H Q E h => ?_) (fun cdv A outer s H vs Q E hr h => ?_)
  · obtain ⟨p, l, xs, k, n, rfl, _⟩ := h
    rfl
  · obtain ⟨p, l, xs, k, n, rfl, ⟨⟨dx, h1⟩, h2⟩, hn, q⟩ := h
    refine ⟨_, PSs.nox (pss_cons (ps_set (i := 2) sc_Outgoing_acknowledge.nd rfl (Or.inl rfl) (pe_callB (call_min2 rfl) (by rfl) T.z_min (by decide +kernel) (pa_cons (pv 1) (pa_cons (pe_prop (pv 0) T.cl_Outgoing T.p_Outgoing_put_count (ok_Outgoing_put_count T) (hr.mono (by decide)) T.b_Outgoing_put_count .nil pass0 rfl) pa_nil))))
    (pss_one (ps_if (pt_cmpR op_gt (pv 2) (pe_fld (pv 0) rfl) (nomark _))
      (pss_cons (Fh.ps_delTo (pe_fld (pv 0) rfl) (pe_op op_sub (pv 2) (pe_fld (pv 0) rfl)))
      (pss_one (ps_fld (pv 0) (pv 2) rfl)))
      pss_nil))), ?_⟩
    have npl : p ≠ l := ne_of h1 h2 (by intro q; cases q)
    refine ⟨_, rfl, _, rfl, p, dx, _, rfl, h1, p, l, xs, k, rfl, ⟨⟨dx, h1⟩, h2⟩, n, k + (xs.length : Int), rfl, ?_⟩
    rw [if_neg (by omega)]
    refine ⟨_, rfl, _, rfl, p, _, dx, _, _, rfl, h1, T.cl_Outgoing, T.n_Outgoing__acknowledged, outf_a _ _, _, _, rfl, rfl, _, rfl, ?_⟩
    by_cases c : k < n
    · rw [decide_eq_true c]
      refine iteT ?_
      refine ⟨_, rfl, p, _, dx, _, _, rfl, h1, T.cl_Outgoing, T.n_Outgoing__letters, outf_l _ _, _, rfl, _, rfl, p, _, dx, _, _, rfl, h1, T.cl_Outgoing, T.n_Outgoing__acknowledged, outf_a _ _, _, _, rfl, rfl, l, xs, (n - k).toNat, rfl, (by show V.int (n - k) = _; congr 1; omega), h2, by omega, ?_⟩
      refine ⟨_, rfl, _, rfl, p, _, dx, _, rfl, (by rw [upd_ne npl]; exact h1), T.cl_Outgoing, T.n_Outgoing__acknowledged, (by rw [outf_eq]; show 2 < 1000; decide), ?_⟩
      refine q _ ⟨⟨dx, ?_⟩, by rw [upd_ne npl.symm, upd_same]⟩ fun b o e hb hl => by rw [upd_ne hb, upd_ne hl]; exact e
      rw [if_pos (show n > k from c)]
      exact Eq.trans upd_same (congrArg (fun q => some (HO.ins (cO K) dx q)) (outf_put l k n))
    · rw [decide_eq_false c]
      refine iteF ?_
      have e0 : (n - k).toNat = 0 := by omega
      rw [e0, if_neg (show ¬ n > k from c), List.drop_zero] at q
      exact q H ⟨⟨dx, h1⟩, h2⟩ fun b o e _ _ => e
theorem ok_Incoming_init (T : Txt K mg) : FnOk P w K mg base CX0 1 (He.ma K (He.ga K "Incoming") "__init__") T.fd_Incoming_init ["self"] (spIInit K) := by
  refine T.F_Incoming_init.ok sc_Incoming_init (fun vs H Q E h => ?_) (fun cdv A outer s H vs Q E hr h => ?_)
  · obtain ⟨p, dx, rfl, _⟩ := h
    rfl
  · obtain ⟨p, dx, rfl, hp, k⟩ := h
    refine ⟨_, PSs.nox (pss_one (ps_fld (pv 0) pe_int rfl)), ?_⟩
    refine ⟨_, rfl, p, _, dx, [], rfl, hp, T.cl_Incoming, T.n_Incoming_count, (by show 0 < 1000; decide), ?_⟩
    exact k _ ⟨dx, upd_same⟩ fun b o e hb => by rw [upd_ne hb]; exact e
theorem ok_Incoming_accepts (T : Txt K mg) : FnOk P w K mg base CX0 1 (He.ma K (He.ga K "Incoming") "accepts") T.fd_Incoming_accepts ["self", "number"] (spAccepts K) := by
  refine T.F_Incoming_accepts.ok sc_Incoming_accepts (fun vs H Q E h => ?_) (fun cdv A outer s H vs Q E hr h => ?_)
  · obtain ⟨p, z, n, rfl, _⟩ := h
    rfl
  · obtain ⟨p, z, n, rfl, ⟨dx, h1⟩, k⟩ := h
    refine ⟨_, PSs.nox (pss_one (ps_ret (pe_cmpR op_eq (pv 1) (pe_op op_add (pe_fld (pv 0) rfl) pe_int) (nomark _)))), ?_⟩
    exact ⟨_, rfl, _, rfl, p, _, dx, _, _, rfl, h1, T.cl_Incoming, T.n_Incoming_count, inf_count _, _, _, rfl, rfl, rfl, k⟩
theorem ok_Incoming_accept (T : Txt K mg) : FnOk P w K mg base CX0 1 (He.ma K (He.ga K "Incoming") "accept") T.fd_Incoming_accept ["self"] (spAccept K) := by
  refine T.F_Incoming_accept.ok sc_Incoming_accept (fun vs H Q E h => ?_) (fun cdv A outer s H vs Q E hr h => ?_)
  · obtain ⟨p, z, rfl, _⟩ := h
    rfl
  · obtain ⟨p, z, rfl, ⟨dx, h1⟩, k⟩ := h
    refine ⟨_, PSs.nox (pss_one (ps_fldaug (pv 0) pe_int in_add)), ?_⟩
    refine ⟨_, rfl, p, _, dx, _, _, rfl, h1, T.cl_Incoming, T.n_Incoming_count, inf_count _, _, _, rfl, rfl, dx, _, h1, (by show 1 < 1000; decide), ?_⟩
    exact k _ ⟨dx, Eq.trans upd_same (congrArg (fun q => some (HO.ins (cI K) dx q)) (inf_put z (z + 1)))⟩ fun b o e hb => by rw [upd_ne hb]; exact e
theorem ok_Network_init (T : Txt K mg) : FnOk P w K mg base CX0 1 (He.ma K (He.ga K "Network") "__init__") T.fd_Network_init ["self"] (spNInit K) := by
  refine T.F_Network_init.ok sc_Network_init (fun vs H Q E h => ?_) (fun cdv A outer s H vs Q E hr h => ?_)
  · obtain ⟨p, dx, rfl, _⟩ := h
    rfl
  · obtain ⟨p, dx, rfl, hp, k⟩ := h
    refine ⟨_, PSs.nox (pss_one (ps_fld (pv 0) (pe_lst pa_nil) rfl)), ?_⟩
    refine ⟨Nat.zero_le _, fun l hl => ?_⟩
    have npl : p ≠ l := ne_of_none hp hl
    refine ⟨_, rfl, p, _, dx, [], rfl, (by rw [upd_ne npl]; exact hp), T.cl_Network, T.n_Network__packets, (by show 0 < 1000; decide), ?_⟩
    refine k l _ ⟨⟨dx, upd_same⟩, by rw [upd_ne npl.symm, upd_same]⟩ hl fun b o e hb => ?_
    rw [upd_ne hb, upd_ne (ne_of_none e hl)]
    exact e
theorem ok_Network_len (T : Txt K mg) : FnOk P w K mg base CX0 1 (He.ma K (He.ga K "Network") "__len__") T.fd_Network_len ["self"] (spLen K) := by
  refine T.F_Network_len.ok sc_Network_len (fun vs H Q E h => ?_) (fun cdv A outer s H vs Q E hr h => ?_)
  · obtain ⟨p, l, xs, rfl, _⟩ := h
    rfl
  · obtain ⟨p, l, xs, rfl, ⟨⟨dx, h1⟩, h2⟩, q⟩ := h
    refine ⟨_, PSs.nox (pss_one (ps_ret (pe_callB call_len_seq (by rfl) T.z_len (by decide +kernel) (pa_cons (pe_fld (pv 0) rfl) pa_nil)))), ?_⟩
    exact ⟨_, rfl, p, _, dx, _, _, rfl, h1, T.cl_Network, T.n_Network__packets, netf_p _, l, _, rfl, .inl (SqL.of h2), q⟩
theorem ok_Network_iter (T : Txt K mg) : FnOk P w K mg base CX0 1 (He.ma K (He.ga K "Network") "__iter__") T.fd_Network_iter ["self"] (spIter K) := by
  refine T.F_Network_iter.ok sc_Network_iter (fun vs H Q E h => ?_) (fun cdv A outer s H vs Q E hr h => ?_)
  · obtain ⟨p, l, xs, rfl, _⟩ := h
    rfl
  · obtain ⟨p, l, xs, rfl, ⟨⟨dx, h1⟩, h2⟩, q⟩ := h
    refine ⟨_, PSs.nox (pss_one (ps_ret (pe_callB call_iterL (by rfl) T.z_iter (by decide +kernel) (pa_cons (pe_fld (pv 0) rfl) pa_nil)))), ?_⟩
    exact ⟨_, rfl, p, _, dx, _, _, rfl, h1, T.cl_Network, T.n_Network__packets, netf_p _, l, _, rfl, SqL.of h2, q⟩
theorem ok_Network_post (T : Txt K mg) : FnOk P w K mg base CX0 1 (He.ma K (He.ga K "Network") "post") T.fd_Network_post ["self", "packet"] (spPost K) := by
  refine T.F_Network_post.ok sc_Network_post (fun vs H Q E h => ?_) (fun cdv A outer s H vs Q E hr h => ?_)
  · obtain ⟨p, l, xs, v, rfl, _⟩ := h
    rfl
  · obtain ⟨p, l, xs, v, rfl, ⟨⟨dx, h1⟩, h2⟩, hz, q⟩ := h
    refine ⟨_, PSs.nox (pss_one (ps_expr (pe_bm PySem.F.plainAttrs_list PySem.F.slot_list_append PySem.F.type_list_append mt_append (pe_fld (pv 0) rfl) (pa_cons (pv 1) pa_nil)))), ?_⟩
    exact ⟨_, rfl, p, _, dx, _, _, rfl, h1, T.cl_Network, T.n_Network__packets, netf_p _, .inl ⟨rfl, _, SqL.of h2⟩, _, rfl, l, _, _, rfl, rfl, h2, hz, q⟩
theorem ok_Network_packets (T : Txt K mg) : FnOk P w K mg base CX0 1 (He.ma K (He.ga K "Network") "packets") T.fd_Network_packets ["self"] (spPackets K) := by
  refine T.F_Network_packets.ok sc_Network_packets (fun vs H Q E h => ?_) (fun cdv A outer s H vs Q E hr h => ?_)
  · obtain ⟨p, l, xs, rfl, _⟩ := h
    rfl
  · obtain ⟨p, l, xs, rfl, ⟨⟨dx, h1⟩, h2⟩, q⟩ := h
    refine ⟨_, PSs.nox (pss_one (ps_ret (pe_callTy call_list_of (by rfl) T.z_list (by decide +kernel) (pa_cons (pe_fld (pv 0) rfl) pa_nil)))), ?_⟩
    exact ⟨_, rfl, p, _, dx, _, _, rfl, h1, T.cl_Network, T.n_Network__packets, netf_p _, l, _, rfl, .inl (SqL.of h2), q⟩
theorem ok_check_index (T : Txt K mg) : FnOk P w K mg base (L2.CX P w) 1 (He.ga K "check_index") T.fd_check_index ["index", "count", "what"] (spCheck K) := by
  refine T.F_check_index.ok sc_check_index (fun vs H Q E h => ?_) (fun cdv A outer s H vs Q E hr h => ?_)
  · obtain ⟨i, n, z, rfl, _⟩ := h
    rfl
  · obtain ⟨i, n, z, rfl, hz, qe, q⟩ := h
    refine ⟨_, (pss_one (ps_if (PW.pt (pw_or (pt_cmpR op_lt (pv 0) pe_int (nomark _)) (pw_or1 (pt_cmpR op_ge (pv 0) (pv 1) (nomark _)))))
      (pss_one (ps_raise rfl (takes_of rfl rfl rfl rfl) (pmk_ownA PySem.F.excBase_ValueError T.x_Unknown.1 T.mg_Unknown T.x_Unknown.2.1 (raises_own T.x_Unknown.2.2.1 T.x_Unknown.2.2.2) rfl (pa_cons (pe_joined (.cons pe_str (.cons (pe_fmt (pv 2)) .nil))) pa_nil))))
      pss_nil)), ?_⟩
    have lz : z.length ≤ sizeLine := Nat.le_trans hz (by decide)
    have lj : (Str.empty ++ (Str.ofString "there is no such ") ++ z).length ≤ sizeLine := by
      rw [Str.length_append, Str.length_append]
      exact Nat.le_trans (Nat.add_le_add_left hz _) (by decide)
    refine ⟨_, rfl, _, _, rfl, rfl, _, rfl, ?_⟩
    refine ite2 (fun c => ?_) (fun c => ?_)
    · refine iteT ?_
      refine ⟨_, rfl, (by decide), _, rfl, .inl ⟨z, rfl, lz, _, rfl, lj, (by show 1 ≤ sizeLine; decide), qe fun y => ?_⟩⟩
      have := of_decide_eq_true c
      omega
    · refine ⟨_, rfl, _, rfl, _, _, rfl, rfl, _, rfl, ?_⟩
      refine ite2 (fun c2 => ?_) (fun c2 => ?_)
      · refine ⟨_, rfl, (by decide), _, rfl, .inl ⟨z, rfl, lz, _, rfl, lj, (by show 1 ≤ sizeLine; decide), qe fun y => ?_⟩⟩
        have := of_decide_eq_true c2
        omega
      · refine q ⟨?_, ?_⟩
        · have : ¬ i < 0 := fun y => c (decide_eq_true y)
          omega
        · have : ¬ n ≤ i := fun y => c2 (decide_eq_true y)
          omega
theorem ok_Network_take_out (T : Txt K mg) : FnOk P w K mg base (L2.CX P w) 3 (He.ma K (He.ga K "Network") "take_out") T.fd_Network_take_out ["self", "index"] (spTake K) := by
  refine T.F_Network_take_out.ok sc_Network_take_out (fun vs H Q E h => ?_) (fun cdv A outer s H vs Q E hr h => ?_)
  · obtain ⟨p, l, xs, i, rfl, _⟩ := h
    rfl
  · obtain ⟨p, l, xs, i, rfl, ⟨⟨dx, h1⟩, h2⟩, hz, qe, q⟩ := h
    refine ⟨_, (pss_cons (ps_expr (pe_call (ok_check_index T) (hr.mono (by decide)) (by rfl) T.g_check_index T.F_check_index.kp T.b_check_index .nil (passes_call (takes_of rfl rfl rfl rfl) (fun _ _ _ _ h => h)) (pa_cons (pv 1) (pa_cons (pe_callB call_len_seq (by rfl) T.z_len (by decide +kernel) (pa_cons (pe_fld (pv 0) rfl) pa_nil)) (pa_cons pe_str pa_nil)))))
    (pss_one (ps_ret (pe_bm PySem.F.plainAttrs_list PySem.F.slot_list_pop PySem.F.type_list_pop mt_popAt (pe_fld (pv 0) rfl) (pa_cons (pv 1) pa_nil))))), ?_⟩
    refine ⟨_, rfl, _, rfl, p, _, dx, _, _, rfl, h1, T.cl_Network, T.n_Network__packets, netf_p _, l, _, rfl, .inl (SqL.of h2), i, _, _, rfl, (by decide), qe, fun hi => ?_⟩
    obtain ⟨j, ej⟩ : ∃ j : Nat, i = (j : Int) := ⟨i.toNat, by omega⟩
    have hj : j < xs.length := by omega
    obtain ⟨v, hv⟩ : ∃ v, xs[j]? = some v := ⟨xs[j], List.getElem?_eq_getElem hj⟩
    have hk : seqIndex? i xs.length = some j := (ixN_seq (n := xs.length) (i := i) (by unfold ixN; rw [if_pos (by omega), if_pos (by omega), ej]; simp)).1
    exact ⟨_, rfl, p, _, dx, _, _, rfl, h1, T.cl_Network, T.n_Network__packets, netf_p _, .inl ⟨rfl, _, SqL.of h2⟩, _, rfl, l, xs, i, j, v, rfl, rfl, h2, by omega, by omega, hk, hv, q j v ej hv⟩
theorem ok_Network_repeat (T : Txt K mg) : FnOk P w K mg base (L2.CX P w) 3 (He.ma K (He.ga K "Network") "repeat") T.fd_Network_repeat ["self", "index"] (spRepeat K) := by
  refine T.F_Network_repeat.ok sc_Network_repeat (fun vs H Q E h => ?_) (fun cdv A outer s H vs Q E hr h => ?_)
  · obtain ⟨p, l, xs, i, rfl, _⟩ := h
    rfl
  · obtain ⟨p, l, xs, i, rfl, ⟨⟨dx, h1⟩, h2⟩, hz, qe, q⟩ := h
    refine ⟨_, (pss_cons (ps_expr (pe_call (ok_check_index T) (hr.mono (by decide)) (by rfl) T.g_check_index T.F_check_index.kp T.b_check_index .nil (passes_call (takes_of rfl rfl rfl rfl) (fun _ _ _ _ h => h)) (pa_cons (pv 1) (pa_cons (pe_callB call_len_seq (by rfl) T.z_len (by decide +kernel) (pa_cons (pe_fld (pv 0) rfl) pa_nil)) (pa_cons pe_str pa_nil)))))
    (pss_one (ps_expr (pe_bm PySem.F.plainAttrs_list PySem.F.slot_list_append PySem.F.type_list_append mt_append (pe_fld (pv 0) rfl) (pa_cons (pe_ix ix_list (pe_fld (pv 0) rfl) (pv 1) (fun _ _ => rfl)) pa_nil))))), ?_⟩
    refine ⟨_, rfl, _, rfl, p, _, dx, _, _, rfl, h1, T.cl_Network, T.n_Network__packets, netf_p _, l, _, rfl, .inl (SqL.of h2), i, _, _, rfl, (by decide), qe, fun hi => ?_⟩
    obtain ⟨j, ej⟩ : ∃ j : Nat, i = (j : Int) := ⟨i.toNat, by omega⟩
    have hj : j < xs.length := by omega
    obtain ⟨v, hv⟩ : ∃ v, xs[j]? = some v := ⟨xs[j], List.getElem?_eq_getElem hj⟩
    have hs : (100000 : Nat) < sizeLine := by decide
    exact ⟨_, rfl, p, _, dx, _, _, rfl, h1, T.cl_Network, T.n_Network__packets, netf_p _, .inl ⟨rfl, _, SqL.of h2⟩, _, rfl, p, _, dx, _, _, rfl, h1, T.cl_Network, T.n_Network__packets, netf_p _, _, rfl, l, _, _, _, rfl, rfl, SqL.of h2, at_of ej hv, l, _, _, rfl, rfl, h2, by omega, q j v ej hv⟩
theorem ok_law_number (T : Txt K mg) : FnOk P w K mg base CX0 1 (He.ga K "_law_number") T.fd_law_number ["cell", "k"] spNumber := by
  refine T.F_law_number.ok sc_law_number (fun vs H Q E h => ?_) (fun cdv A outer s H vs Q E hr h => ?_)
  · obtain ⟨z, j, rfl, _⟩ := h
    rfl
  · obtain ⟨z, j, rfl, k⟩ := h
    refine ⟨_, PSs.nox (pss_cons (ps_if (pt_cmpR op_ge (pv 0) (pe_op op_pow pe_int pe_int) (nomark _))
      (pss_one (ps_ret (pe_op op_sub (pv 0) (pe_op op_pow pe_int pe_int))))
      pss_nil)
    (pss_cons (ps_set (i := 2) sc_law_number.nd rfl (Or.inl rfl) (pe_op op_mod (pe_callTy call_int1 (by rfl) T.z_int (by decide +kernel) (pa_cons (pe_op op_add (pe_op op_add (pe_op op_mul (pv 0) pe_int) (pe_op op_mul (pv 1) pe_int)) pe_int) pa_nil)) pe_int))
    (pss_cons (ps_set (i := 3) sc_law_number.nd rfl (Or.inl rfl) (pe_op op_mod (pe_callTy call_int1 (by rfl) T.z_int (by decide +kernel) (pa_cons (pe_op op_add (pe_op op_mul (pv 2) (pe_op op_add (pe_op op_add (pe_op op_fdiv (pv 2) pe_int) (pv 1)) pe_int)) pe_int) pa_nil)) pe_int))
    (pss_one (ps_ret (pe_op op_add (pv 2) (pe_op op_mul (pv 3) pe_int))))))), ?_⟩
    refine ⟨_, rfl, _, _, rfl, rfl, ⟨by decide, by decide, by decide⟩, _, _, rfl, rfl, _, rfl, ?_⟩
    refine ite2 (fun _ => ?_) (fun _ => ?_)
    · refine ⟨_, rfl, _, _, rfl, rfl, ⟨by decide, by decide, by decide⟩, _, _, rfl, rfl, ?_⟩
      exact k _
    · refine ⟨_, rfl, _, _, rfl, rfl, .inr ⟨by decide, by decide⟩, _, rfl, _, _, rfl, rfl, .inr ⟨by decide, by decide⟩, _, _, rfl, rfl, _, _, rfl, rfl, .inl ⟨_, rfl, _, _, rfl, rfl, (by show (0 : Int) < 2147483647; decide), ?_⟩⟩
      refine ⟨_, rfl, _, rfl, _, _, rfl, rfl, ⟨by decide, by decide⟩, _, rfl, _, _, rfl, rfl, _, _, rfl, rfl, _, _, rfl, rfl, (.inl ⟨by omega, by omega⟩), _, _, rfl, rfl, .inl ⟨_, rfl, _, _, rfl, rfl, (by show (0 : Int) < 2147483629; decide), ?_⟩⟩
      refine ⟨_, rfl, _, rfl, _, _, rfl, rfl, .inr ⟨by decide, by decide⟩, _, _, rfl, rfl, ?_⟩
      exact k _
theorem ok_law_put (T : Txt K mg) : FnOk P w K mg base CX0 4 (He.ga K "_law_put") T.fd_law_put ["out", "put", "part"] (spPuts K) := by
  refine T.F_law_put.ok sc_law_put (fun vs H Q E h => ?_) (fun cdv A outer s H vs Q E hr h => ?_)
  · obtain ⟨p, l, a, L, d, part, rfl, _⟩ := h
    rfl
  · obtain ⟨p, l, a, L, d, part, rfl, R, nal, hd, hz, k⟩ := h
    refine ⟨_, PSs.nox (pss_cons (ps_set (i := 3) sc_law_put.nd rfl (Or.inl rfl) (pe_op op_add pe_int (pe_op op_mod (pe_callTy call_int1 (by rfl) T.z_int (by decide +kernel) (pa_cons (pv 2) pa_nil)) pe_int)))
    (C8.pss_cut (ps_if (PW.pt (pw_and (pt_cmpR op_eq (pe_op op_mod (pe_callTy call_int1 (by rfl) T.z_int (by decide +kernel) (pa_cons (pe_op op_fdiv (pv 2) pe_int) pa_nil)) pe_int) pe_int (nomark _)) (pw_and1 (pt_cmpR op_lt (pe_callB call_len_seq (by rfl) T.z_len (by decide +kernel) (pa_cons (pv 1) pa_nil)) pe_int (nomark _)))))
      (pss_one (ps_set (i := 3) sc_law_put.nd rfl (Or.inl rfl) (pe_op op_add pe_int (pe_op op_mod (pe_callTy call_int1 (by rfl) T.z_int (by decide +kernel) (pa_cons (pe_op op_fdiv (pv 2) pe_int) pa_nil)) pe_int))))
      pss_nil)
    (pss_cons (ps_for PassesOwn.never rfl (pi_range1 (by rfl) T.z_range (pa_cons (pv 3) pa_nil)) (pg_name (i := 4) sc_law_put.nd rfl (Or.inl rfl))
      (pss_cons (ps_set (i := 5) sc_law_put.nd rfl (Or.inl rfl) (pe_op op_mod (pe_callTy call_int1 (by rfl) T.z_int (by decide +kernel) (pa_cons (pe_op op_fdiv (pv 2) (pe_op op_add pe_int (pv 4))) pa_nil)) (pe_op op_pow pe_int pe_int)))
      (pss_cons (ps_set (i := 6) sc_law_put.nd rfl (Or.inl rfl) (pe_ix ix_list (pe_lst (pa_cons (pe_tup (pa_cons pe_str (pa_cons (pv 5) pa_nil))) (pa_cons (pe_tup (pa_cons pe_str (pa_cons (pv 5) (pa_cons (pe_tup (pa_cons (pe_op op_mod (pv 5) pe_int) (pa_cons (pe_op op_mod (pe_op op_fdiv (pv 5) pe_int) pe_int) pa_nil))) (pa_cons pe_non pa_nil))))) (pa_cons (pe_tup (pa_cons pe_str pa_nil)) pa_nil)))) (pe_op op_mod (pv 5) pe_int) (fun _ _ => rfl)))
      (pss_cons (ps_expr (pe_bm PySem.F.plainAttrs_list PySem.F.slot_list_append PySem.F.type_list_append mt_append (pv 1) (pa_cons (pv 6) pa_nil)))
      (pss_one (ps_if (pt_cmpR op_ne (pe_meth (pv 0) T.cl_Outgoing T.m_Outgoing_put (ok_Outgoing_put T) (hr.mono (by decide)) T.b_Outgoing_put .nil pass0 (pa_cons (pv 6) pa_nil)) (pe_callB call_len_seq (by rfl) T.z_len (by decide +kernel) (pa_cons (pv 1) pa_nil)) (nomark _))
        (pss_one (ps_ret pe_bl))
        pss_nil))))))
    (pss_one (ps_ret pe_bl))))), ?_⟩
    have hs : (100000 : Nat) < sizeLine := by decide
    refine ⟨_, rfl, .inl ⟨_, rfl, _, _, rfl, rfl, (by show (0 : Int) < 2; decide), _, _, rfl, rfl, ?_⟩⟩
    refine ⟨fun σ H' => ∃ count : Int, 0 ≤ count ∧ count ≤ 126 ∧ σ = [some (.ref p), some (.ref a), some (.int part), some (.int count), none, none, none] ∧ H' = H, ?_, ?_⟩
    · have c0 : 0 ≤ part % 2 := Int.emod_nonneg _ (by decide)
      have c1 : part % 2 < 2 := Int.emod_lt_of_pos _ (by decide)
      refine ⟨_, rfl, _, _, rfl, rfl, ⟨by decide, by decide⟩, .inl ⟨_, rfl, _, _, rfl, rfl, (by show (0 : Int) < 128; decide), rfl, _, rfl, ?_⟩⟩
      refine ite2 (fun _ => ?_) (fun _ => iteF ?_)
      · refine ⟨_, rfl, a, _, rfl, .inl (SqL.of R.ls), _, _, rfl, rfl, _, rfl, ?_⟩
        refine ite2 (fun _ => ?_) (fun _ => ?_)
        · refine ⟨_, rfl, _, _, rfl, rfl, ⟨by decide, by decide⟩, .inl ⟨_, rfl, _, _, rfl, rfl, (by show (0 : Int) < 60; decide), _, _, rfl, rfl, ?_⟩⟩
          have c2 : 0 ≤ part / 256 % 60 := Int.emod_nonneg _ (by decide)
          have c3 : part / 256 % 60 < 60 := Int.emod_lt_of_pos _ (by decide)
          exact ⟨65 + part / 256 % 60, by omega, by omega, rfl, rfl⟩
        · exact ⟨1 + part % 2, by omega, by omega, rfl, rfl⟩
      · exact ⟨1 + part % 2, by omega, by omega, rfl, rfl⟩
    rintro σ H' ⟨count, c0, c1, rfl, rfl⟩
    refine ⟨_, rfl, _, rfl, by omega, by omega, ?_⟩
    refine for_range (lo := 0) (n := count.toNat) (fun i σ H2 => ∃ (ws : List V) (v4 v5 v6 : Option V), σ = [some (.ref p), some (.ref a), some (.int part), some (.int count), v4, v5, v6] ∧ PutAt (cO K) H' H2 p l a (L ++ ws) d ∧ ws.length = i)
      ⟨[], none, none, none, rfl, by rw [List.append_nil]; exact R, rfl⟩ ?_ ?_
    · rintro i σ H2 hi ⟨ws, v4, v5, v6, rfl, R2, hl2⟩
      refine ⟨_, rfl, _, rfl, _, _, rfl, rfl, _, _, rfl, rfl, (⟨by show (0 : Int) < 2 + (0 + (i : Int)); omega, by show (2 + (0 + (i : Int)) : Int) < 1073741824; omega⟩), .inl ⟨_, rfl, _, _, rfl, rfl, ⟨by decide, by decide, by decide⟩, _, _, rfl, rfl, (by show (0 : Int) < 10 ^ Int.toNat 18; decide +kernel), ?_⟩⟩
      show gName 5 (.int (part / (2 + (0 + (i : Int))) % (10 ^ Int.toNat 18))) _ _ _
      generalize part / (2 + (0 + (i : Int))) % (10 ^ Int.toNat 18) = z
      refine ⟨_, rfl, (by show 2 ≤ sizeLine; decide), fun t1 h1 => ?_⟩
      refine ⟨_, rfl, _, rfl, _, _, rfl, rfl, (by show (0 : Int) < 8; decide), _, rfl, _, _, rfl, rfl, ⟨by decide, by decide⟩, _, _, rfl, rfl, (by show (0 : Int) < 30; decide), (by show 2 ≤ sizeLine; decide), fun t2 h2 => ?_⟩
      refine ⟨(by show 4 ≤ sizeLine; decide), fun t3 h3 => ?_⟩
      refine ⟨(by show 1 ≤ sizeLine; decide), fun t4 h4 => ?_⟩
      refine ⟨(by show 3 ≤ sizeLine; decide), fun t5 h5 => ?_⟩
      obtain ⟨s1, s3, s4, s0⟩ := five (.lst [.ref t1, .ref t3, .ref t4]) h1 h2 h3 h4 h5
      have T1 := (TupD.new (n := 5) h1 (.cons (.str ("leave" : Str) (by decide +kernel)) (.cons (.int z) .nil)) (by simp [PyData.depth, PyData.depthAll])).mono (TSame.of s1)
      have T3 := (TupD.new (n := 5) h3 (.cons (.str ("give" : Str) (by decide +kernel)) (.cons (.int z) (.cons (.tup upd_same (.cons (.int _) (.cons (.int _) .nil))) (.cons .non .nil)))) (by simp [PyData.depth, PyData.depthAll])).mono (TSame.of s3)
      have T4 := (TupD.new (n := 5) h4 (.cons (.str ("same" : Str) (by decide +kernel)) .nil) (by simp [PyData.depth, PyData.depthAll])).mono (TSame.of s4)
      have g5 : (upd (upd (upd (upd (upd H2 t1 (.tup [.str ("leave" : Str), .int z])) t2 (.tup [.int (z % 8), .int (z / 8 % 30)])) t3 (.tup [.str ("give" : Str), .int z, .ref t2, .non])) t4 (.tup [.str ("same" : Str)])) t5 (.lst [.ref t1, .ref t3, .ref t4])) t5 = some (.lst [.ref t1, .ref t3, .ref t4]) := upd_same
      have R3 := R2.same s0
      revert T1 T3 T4 g5 R3
      generalize (upd (upd (upd (upd (upd H2 t1 (.tup [.str ("leave" : Str), .int z])) t2 (.tup [.int (z % 8), .int (z / 8 % 30)])) t3 (.tup [.str ("give" : Str), .int z, .ref t2, .non])) t4 (.tup [.str ("same" : Str)])) t5 (.lst [.ref t1, .ref t3, .ref t4])) = H3
      intro T1 T3 T4 g5 R3
      obtain ⟨r, er, c, hc, hT⟩ : ∃ r : Nat, z % 3 = (r : Int) ∧ ∃ c, [V.ref t1, V.ref t3, V.ref t4][r]? = some (V.ref c) ∧ TupD H3 5 (.ref c) := by
        have a1 : 0 ≤ z % 3 := Int.emod_nonneg _ (by decide)
        have a2 : z % 3 < 3 := Int.emod_lt_of_pos _ (by decide)
        refine ⟨(z % 3).toNat, by omega, ?_⟩
        have a3 : (z % 3).toNat < 3 := by omega
        revert a3
        generalize (z % 3).toNat = r
        intro a3
        match r, a3 with
        | 0, _ => exact ⟨t1, rfl, T1⟩
        | 1, _ => exact ⟨t3, rfl, T3⟩
        | 2, _ => exact ⟨t4, rfl, T4⟩
      refine ⟨_, rfl, _, _, rfl, rfl, (by show (0 : Int) < 3; decide), _, _, _, _, rfl, rfl, SqL.of g5, at_of er hc, ?_⟩
      -- put.append(letter)
      obtain ⟨⟨dx, p1⟩, p2⟩ := id R3.out
      have hd2 : d ≤ (L ++ ws).length := by rw [List.length_append]; omega
      have hl3 : (L ++ ws).length ≤ 8126 := by rw [List.length_append]; omega
      have npa : p ≠ a := ne_of p1 R3.ls (by intro q; cases q)
      have npl : p ≠ l := ne_of p1 p2 (by intro q; cases q)
      refine ⟨_, rfl, .inl ⟨rfl, _, SqL.of R3.ls⟩, _, rfl, a, _, _, rfl, rfl, R3.ls, by omega, ?_⟩
      have O2 : OutAt (cO K) (upd H3 a (.lst ((L ++ ws) ++ [V.ref c]))) p l ((L ++ ws).drop d) d := ⟨⟨dx, by rw [upd_ne npa]; exact p1⟩, by rw [upd_ne nal.symm]; exact p2⟩
      have hlen : ((L ++ ws).drop d).length = (L ++ ws).length - d := List.length_drop ..
      refine ⟨_, rfl, p, dx, _, rfl, (by rw [upd_ne npa]; exact p1), outf_no _ _ (by decide +kernel) (by decide +kernel), _, rfl, p, l, _, (d : Int), V.ref c, rfl, O2, by omega, ?_⟩
      have R4 := R3.step nal hd2 hT
      revert R4
      generalize (upd (upd H3 a (.lst ((L ++ ws) ++ [V.ref c]))) l (.lst ((L ++ ws).drop d ++ [V.ref c]))) = H4
      intro R4
      refine ⟨_, rfl, a, _, rfl, .inl (SqL.of R4.ls), rfl, _, rfl, iteNS (by rw [List.length_append, List.length_singleton]; congr 1; omega) ?_⟩
      exact ⟨ws ++ [V.ref c], _, _, _, rfl, by rw [← List.append_assoc]; exact R4, by rw [List.length_append, List.length_singleton, hl2]⟩
    · rintro σ H2 ⟨ws, v4, v5, v6, rfl, R2, hl2⟩
      exact k ws H2 (by omega) R2
theorem ok_law_take (T : Txt K mg) : FnOk P w K mg base CX0 4 (He.ga K "_law_take") T.fd_law_take ["net", "bag", "index"] (spTakeL K) := by
  refine T.F_law_take.ok sc_law_take (fun vs H Q E h => ?_) (fun cdv A outer s H vs Q E hr h => ?_)
  · obtain ⟨H0, M, D, kk, v, j, rfl, _⟩ := h
    rfl
  · obtain ⟨H0, M, D, kk, v, j, rfl, S, R, hj, hz, k⟩ := h
    refine ⟨_, PSs.nox (pss_cons (ps_set (i := 3) sc_law_take.nd rfl (Or.inl rfl) (pe_meth (pv 0) T.cl_Network T.m_Network_take_out (ok_Network_take_out T) (hr.mono (by decide)) T.b_Network_take_out .nil passL (pa_cons (pv 2) pa_nil)))
    (pss_one (ps_ret (pe_and (pe_callB call_isi (by rfl) T.z_isinstance (by decide +kernel) (pa_cons (pv 3) (pa_cons (pe_bltn (v := .ty "tuple") (by rfl) T.z_tuple (by decide +kernel) rfl) pa_nil))) (pe_one (pe_cmpR (op_eqD hr.units) (pv 3) (pe_bm PySem.F.plainAttrs_list PySem.F.slot_list_pop PySem.F.type_list_pop mt_popAt (pv 1) (pa_cons (pv 2) pa_nil)) (nomark _))))))), ?_⟩
    obtain ⟨dx, h1⟩ := R.netAt.ob
    have lx := R.lx
    have ly := R.ly
    have nbl : M .bag ≠ M .nl := S.inj _ _ trivial trivial (by intro q; cases q)
    have hb : H (M .bag) = some (.lst v.ys) := R.at_ .bag trivial
    have hj1 : ((j : Nat) : Int) < (v.ps.length : Int) := Int.ofNat_lt.mpr hj
    refine ⟨_, rfl, M .net, dx, _, rfl, h1, netf_no _ (by decide +kernel), _, rfl, M .net, M .nl, v.xs, (j : Int), rfl, R.netAt, by omega, fun z => absurd ⟨by omega, by omega⟩ z, fun j' x ej' hx => ?_⟩
    have ejj : j' = j := by omega
    subst ejj
    obtain ⟨q, hq⟩ : ∃ q, v.ps[j']? = some q := ⟨_, List.getElem?_eq_getElem hj⟩
    obtain ⟨x', hx', a, ex, ha⟩ := R.rx.at_ hq
    obtain ⟨y, hy, b, ey, hbb⟩ := R.ry.at_ hq
    rw [hx] at hx'
    injection hx' with hx'
    subst hx' ex ey
    obtain ⟨ds, td, dep⟩ := Pk.td R.dt (R.gd q (List.mem_of_getElem? hq))
    have F : Fr M [.nl, .bag] H (upd (upd H (M .nl) (.lst (v.xs.eraseIdx j'))) (M .bag) (.lst (v.ys.eraseIdx j'))) := Fr.upd2
    have ts := R.ts (X := [.nl, .bag]) (by intro x hx; simp only [List.mem_cons, List.not_mem_nil, or_false] at hx; rcases hx with rfl | rfl <;> exact trivial) F
    have ha1 : (upd H (M .nl) (.lst (v.xs.eraseIdx j'))) a = some (.tup q.fld) := by rw [upd_ne (ne_of ha (R.at_ .nl trivial) (by intro q; cases q))]; exact ha
    have hb1 : (upd H (M .nl) (.lst (v.xs.eraseIdx j'))) (M .bag) = some (.lst v.ys) := by rw [upd_ne nbl]; exact hb
    refine ⟨_, rfl, _, _, _, _, true, rfl, .ty _, .base (.tup ha1), kit_ty (by decide +kernel), _, rfl, iteT ?_⟩
    have hk : seqIndex? ((j' : Nat) : Int) v.ys.length = some j' := (ixN_seq (n := v.ys.length) (i := (j' : Int)) (by unfold ixN; rw [if_pos (by omega), if_pos (by omega)]; simp)).1
    refine ⟨_, rfl, _, rfl, .inl ⟨rfl, _, SqL.of hb1⟩, _, rfl, M .bag, v.ys, (j' : Int), j', _, rfl, rfl, hb1, by omega, by omega, hk, hy, ?_⟩
    have R2 : Sta K H0 M D kk (upd (upd H (M .nl) (.lst (v.xs.eraseIdx j'))) (M .bag) (.lst (v.ys.eraseIdx j'))) { v with xs := v.xs.eraseIdx j', ys := v.ys.eraseIdx j', ps := v.ps.eraseIdx j' } :=
      R.nets S F (by rw [upd_ne nbl.symm, upd_same]) upd_same (R.rx.mono ts).erase (R.ry.mono ts).erase fun u hu => R.gd u (List.mem_of_mem_eraseIdx hu)
    have tx : TD (upd (upd H (M .nl) (.lst (v.xs.eraseIdx j'))) (M .bag) (.lst (v.ys.eraseIdx j'))) (.ref a) (.tuple ds) := .tup (ts _ _ ha) (TDs.mono ts td)
    have ty : TD (upd (upd H (M .nl) (.lst (v.xs.eraseIdx j'))) (M .bag) (.lst (v.ys.eraseIdx j'))) (.ref b) (.tuple ds) := .tup (ts _ _ hbb) (TDs.mono ts td)
    have sh := shaped_of tx.lay (Nat.le_trans dep (by decide))
    refine ⟨_, _, tx.dp, ty.dp, sh, sh, ?_⟩
    rw [SeqAt.eqv_refl _ tx.lay]
    exact k _ R2
theorem ok_law_holds (T : Txt K mg) : FnOk P w K mg base CX0 4 (He.ga K "_law_holds") T.fd_law_holds ["outs", "ends", "puts", "taken", "acked", "keys"] (spHolds K) := by
  refine T.F_law_holds.ok sc_law_holds (fun vs H Q E h => ?_) (fun cdv A outer s H vs Q E hr h => ?_)
  · obtain ⟨H0, M, D, kk, v, rfl, _⟩ := h
    rfl
  · obtain ⟨H0, M, D, kk, v, rfl, R, hz, k⟩ := h
    refine ⟨_, PSs.nox (pss_cons (ps_for PassesOwn.never rfl (pi_list (pv 5)) (pg_name (i := 6) sc_law_holds.nd rfl (Or.inl rfl))
      (pss_cons (ps_if (PW.pt (pw_or (pt_cmpR (op_neD hr.units) (pe_dget (hu2 hr.units) (pv 3) (pv 6) (fun _ _ => rfl)) (pe_slice sl_list (pe_dget (hu2 hr.units) (pv 2) (pv 6) (fun _ _ => rfl)) po_none (po_some (pe_callB call_len_seq (by rfl) T.z_len (by decide +kernel) (pa_cons (pe_dget (hu2 hr.units) (pv 3) (pv 6) (fun _ _ => rfl)) pa_nil)))) (nomark _)) (pw_or1 (pt_cmpR op_ne (pe_fld (pe_dget (hu2 hr.units) (pv 1) (pv 6) (fun _ _ => rfl)) rfl) (pe_callB call_len_seq (by rfl) T.z_len (by decide +kernel) (pa_cons (pe_dget (hu2 hr.units) (pv 3) (pv 6) (fun _ _ => rfl)) pa_nil)) (nomark _)))))
        (pss_one (ps_ret pe_bl))
        pss_nil)
      (pss_cons (ps_if (PW.pt (pw_or (pt_cmpR op_gt (pe_dget (hu2 hr.units) (pv 4) (pv 6) (fun _ _ => rfl)) (pe_callB call_len_seq (by rfl) T.z_len (by decide +kernel) (pa_cons (pe_dget (hu2 hr.units) (pv 3) (pv 6) (fun _ _ => rfl)) pa_nil)) (nomark _)) (pw_or1 (pt_cmpR op_ne (pe_prop (pe_dget (hu2 hr.units) (pv 0) (pv 6) (fun _ _ => rfl)) T.cl_Outgoing T.p_Outgoing_acknowledged (ok_Outgoing_acknowledged T) (hr.mono (by decide)) T.b_Outgoing_acknowledged .nil pass0 rfl) (pe_dget (hu2 hr.units) (pv 4) (pv 6) (fun _ _ => rfl)) (nomark _)))))
        (pss_one (ps_ret pe_bl))
        pss_nil)
      (pss_one (ps_if (pt_cmpR op_ne (pe_prop (pe_dget (hu2 hr.units) (pv 0) (pv 6) (fun _ _ => rfl)) T.cl_Outgoing T.p_Outgoing_put_count (ok_Outgoing_put_count T) (hr.mono (by decide)) T.b_Outgoing_put_count .nil pass0 rfl) (pe_callB call_len_seq (by rfl) T.z_len (by decide +kernel) (pa_cons (pe_dget (hu2 hr.units) (pv 2) (pv 6) (fun _ _ => rfl)) pa_nil)) (nomark _))
        (pss_one (ps_ret pe_bl))
        pss_nil)))))
    (pss_one (ps_ret pe_bl))), ?_⟩
    refine ⟨_, rfl, M .keys, rfl, ⟨_, SqL.of (R.at_ .keys trivial)⟩, for_list (K := K) (a := M .keys) (xs := six fun i => .ref (kk i)) (fun i σ H2 => ∃ (u : Option V), σ = [some (.ref (M .outs)), some (.ref (M .ends)), some (.ref (M .puts)), some (.ref (M .taken)), some (.ref (M .acked)), some (.ref (M .keys)), u] ∧ Same H H2)
      ⟨none, rfl, Same.refl _⟩ ?_ ?_ ?_⟩
    · rintro i σ H2 hi ⟨u, rfl, s⟩
      exact SqL.of ((R.same s).at_ .keys trivial)
    · rintro i x σ H2 hx ⟨u, rfl, s⟩
      obtain ⟨hi, rfl⟩ := six_ix hx
      have R1 := R.same s
      have kb := R1.kt i hi
      obtain ⟨a1, a2⟩ := R1.at1 i hi
      have tl := R1.tlen hi
      refine ⟨_, rfl, _, rfl, M .taken, _, rfl, R1.gT hi kb, _, rfl, _, rfl, M .puts, _, rfl, R1.gP hi kb, _, rfl, _, rfl, M .taken, _, rfl, R1.gT hi kb, M (.t i), _, rfl, .inl (R1.tl hi), _, rfl, M (.p i), _, rfl, R1.pl hi, fun p hp => ?_⟩
      have s2 : Same H2 (upd H2 p (.lst (cutV (v.P i) none (some (((v.P i).take (v.T i)).length : Int))))) := Same.new hp
      have e2 : (upd H2 p (.lst (cutV (v.P i) none (some (((v.P i).take (v.T i)).length : Int))))) p = some (.lst ((v.P i).take (v.T i))) := by rw [upd_same, cut_take, tl]
      revert s2 e2
      generalize (upd H2 p (.lst (cutV (v.P i) none (some (((v.P i).take (v.T i)).length : Int))))) = H3
      intro s2 e2
      have R2 := R1.same s2
      have kb := R2.kt i hi
      obtain ⟨ds, hds, sh, ev⟩ := lst_dat (K := K) (fun x hx => R2.dt i hi x (List.mem_of_mem_take hx) : ∀ x ∈ (v.P i).take (v.T i), TupD H3 5 x) (by decide)
      refine ⟨_, _, .lst (R2.tl hi) hds, .lst (SqL.of e2) hds, sh, sh, _, rfl, ?_⟩
      rw [ev]
      refine iteF ?_
      refine ⟨_, rfl, _, rfl, M .ends, _, rfl, R2.gE hi kb, M (.e i), _, D (.e i), _, _, rfl, R2.at_ (.e i) hi, T.cl_Incoming, T.n_Incoming_count, inf_count _, _, rfl, _, rfl, M .taken, _, rfl, R2.gT hi kb, M (.t i), _, rfl, .inl (R2.tl hi), rfl, _, rfl, iteNS (by rw [tl]) ?_⟩
      refine ⟨_, rfl, _, rfl, M .acked, _, rfl, R2.gA hi kb, _, rfl, _, rfl, M .taken, _, rfl, R2.gT hi kb, M (.t i), _, rfl, .inl (R2.tl hi), _, _, rfl, rfl, _, rfl, ?_⟩
      rw [decide_eq_false (by omega)]
      refine iteF ?_
      refine ⟨_, rfl, _, rfl, M .outs, _, rfl, R2.gO hi kb, M (.o i), D (.o i), _, rfl, R2.at_ (.o i) hi, M (.o i), M (.ol i), _, _, rfl, R2.outAt hi, _, rfl, _, rfl, M .acked, _, rfl, R2.gA hi kb, rfl, _, rfl, iteNS rfl ?_⟩
      refine ⟨_, rfl, _, rfl, M .outs, _, rfl, R2.gO hi kb, M (.o i), D (.o i), _, rfl, R2.at_ (.o i) hi, M (.o i), M (.ol i), _, _, rfl, R2.outAt hi, _, rfl, _, rfl, M .puts, _, rfl, R2.gP hi kb, M (.p i), _, rfl, .inl (R2.pl hi), rfl, _, rfl, iteNS (by rw [List.length_drop]; congr 1; omega) ?_⟩
      exact ⟨_, rfl, s.trans s2⟩
    · rintro σ H2 ⟨u, rfl, s⟩
      exact k _ s
theorem ok_law_deliver (T : Txt K mg) : FnOk P w K mg base CX0 6 (He.ga K "_law_deliver") T.fd_law_deliver ["outs", "ends", "taken", "acked", "net", "bag", "index"] (spDeliver K) := by
  refine T.F_law_deliver.ok sc_law_deliver (fun vs H Q E h => ?_) (fun cdv A outer s H vs Q E hr h => ?_)
  · obtain ⟨H0, M, D, kk, v, j, rfl, _⟩ := h
    rfl
  · obtain ⟨H0, M, D, kk, v, j, rfl, S, R, hj, hz, hP, k⟩ := h
    refine ⟨_, PSs.nox (pss_cons (ps_asg (pe_ix ix_list (pv 5) (pv 6) (fun _ _ => rfl)) (pg_tup (by rfl) (pgs_cons (pg_name (i := 7) sc_law_deliver.nd rfl (Or.inl rfl)) (pgs_cons (pg_name (i := 8) sc_law_deliver.nd rfl (Or.inl rfl)) (pgs_cons (pg_name (i := 9) sc_law_deliver.nd rfl (Or.inl rfl)) (pgs_cons (pg_name (i := 10) sc_law_deliver.nd rfl (Or.inl rfl)) (pgs_cons (pg_name (i := 11) sc_law_deliver.nd rfl (Or.inl rfl)) pgs_nil)))))))
    (pss_cons (ps_if (pt_not (pt_val (pe_call (ok_law_take T) (hr.mono (by decide)) (by rfl) T.g_law_take T.F_law_take.kp T.b_law_take .nil pass0 (pa_cons (pv 4) (pa_cons (pv 5) (pa_cons (pv 6) pa_nil))))))
      (pss_one (ps_ret pe_bl))
      pss_nil)
    (pss_cons (ps_if (pt_cmpR op_eq (pv 9) pe_str (nomark _))
      (pss_cons (ps_set (i := 12) sc_law_deliver.nd rfl (Or.inl rfl) (pe_tup (pa_cons (pv 8) (pa_cons (pv 7) pa_nil))))
      (pss_cons (ps_expr (pe_meth (pe_dget (hu2 hr.units) (pv 0) (pv 12) (fun _ _ => rfl)) T.cl_Outgoing T.m_Outgoing_acknowledge (ok_Outgoing_acknowledge T) (hr.mono (by decide)) T.b_Outgoing_acknowledge .nil pass0 (pa_cons (pv 10) pa_nil)))
      (pss_cons (ps_dput (hu2 hr.units) (pv 3) (pv 12) (pe_callB (call_max2 rfl) (by rfl) T.z_max (by decide +kernel) (pa_cons (pe_dget (hu2 hr.units) (pv 3) (pv 12) (fun _ _ => rfl)) (pa_cons (pv 10) pa_nil))) rfl)
      (pss_one (ps_ret pe_bl)))))
      pss_nil)
    (pss_cons (ps_set (i := 12) sc_law_deliver.nd rfl (Or.inl rfl) (pe_tup (pa_cons (pv 7) (pa_cons (pv 8) pa_nil))))
    (C8.pss_cut (ps_if (pt_val (pe_meth (pe_dget (hu2 hr.units) (pv 1) (pv 12) (fun _ _ => rfl)) T.cl_Incoming T.m_Incoming_accepts (ok_Incoming_accepts T) (hr.mono (by decide)) T.b_Incoming_accepts .nil pass0 (pa_cons (pv 10) pa_nil)))
      (pss_cons (ps_expr (pe_meth0 (pe_dget (hu2 hr.units) (pv 1) (pv 12) (fun _ _ => rfl)) T.cl_Incoming T.m_Incoming_accept (ok_Incoming_accept T) (hr.mono (by decide)) T.b_Incoming_accept .nil pass0))
      (pss_one (ps_expr (pe_bm PySem.F.plainAttrs_list PySem.F.slot_list_append PySem.F.type_list_append mt_append (pe_dget (hu2 hr.units) (pv 2) (pv 12) (fun _ _ => rfl)) (pa_cons (pv 11) pa_nil)))))
      pss_nil)
    (pss_cons (ps_expr (pe_meth (pv 4) T.cl_Network T.m_Network_post (ok_Network_post T) (hr.mono (by decide)) T.b_Network_post .nil pass0 (pa_cons (pe_tup (pa_cons (pv 8) (pa_cons (pv 7) (pa_cons pe_str (pa_cons (pe_callB call_len_seq (by rfl) T.z_len (by decide +kernel) (pa_cons (pe_dget (hu2 hr.units) (pv 2) (pv 12) (fun _ _ => rfl)) pa_nil)) (pa_cons pe_non pa_nil)))))) pa_nil)))
    (pss_cons (ps_expr (pe_bm PySem.F.plainAttrs_list PySem.F.slot_list_append PySem.F.type_list_append mt_append (pv 5) (pa_cons (pe_tup (pa_cons (pv 8) (pa_cons (pv 7) (pa_cons pe_str (pa_cons (pe_callB call_len_seq (by rfl) T.z_len (by decide +kernel) (pa_cons (pe_dget (hu2 hr.units) (pv 2) (pv 12) (fun _ _ => rfl)) pa_nil)) (pa_cons pe_non pa_nil)))))) pa_nil)))
    (pss_one (ps_ret (pe_cmpR op_eq (pe_fld (pe_dget (hu2 hr.units) (pv 1) (pv 12) (fun _ _ => rfl)) rfl) (pe_callB call_len_seq (by rfl) T.z_len (by decide +kernel) (pa_cons (pe_dget (hu2 hr.units) (pv 2) (pv 12) (fun _ _ => rfl)) pa_nil)) (nomark _))))))))))), ?_⟩
    have hsz : (100000 : Nat) < sizeLine := by decide
    obtain ⟨q, hq⟩ : ∃ q, v.ps[j]? = some q := ⟨_, List.getElem?_eq_getElem hj⟩
    obtain ⟨y, hy, b, ey, hb⟩ := R.ry.at_ hq
    subst ey
    have gq := R.gd q (List.mem_of_getElem? hq)
    cases q with
    | ack i n =>
      obtain ⟨hi, hn⟩ : i < 6 ∧ n ≤ v.T i := gq
      refine ⟨_, rfl, _, rfl, M .bag, _, _, _, rfl, rfl, SqL.of (R.at_ .bag trivial), atI_nat hy, b, _, rfl, SqT.of hb, rfl, _, _, rfl, _, _, rfl, _, _, rfl, _, _, rfl, _, _, rfl, rfl, ?_⟩
      refine ⟨_, rfl, _, rfl, _, rfl, H0, M, D, kk, v, j, rfl, S, R, hj, by omega, fun H1 R1 => ?_⟩
      refine ⟨_, rfl, iteF ?_⟩
      refine ⟨_, rfl, rfl, _, rfl, ?_⟩
      rw [decide_eq_true rfl]
      refine iteT ?_
      refine ⟨_, rfl, _, rfl, (by show 2 ≤ sizeLine; decide), fun t ht => ?_⟩
      have R2 := R1.same (Same.new (o := .tup [.int (sO i : Int), .int (tO i : Int)]) ht)
      have kb : (upd H1 t (.tup [.int (sO i : Int), .int (tO i : Int)])) t = some (.tup ((keyO i).map kV)) := upd_same
      revert R2 kb
      generalize (upd H1 t (.tup [.int (sO i : Int), .int (tO i : Int)])) = H2
      intro R2 kb
      have hA := R2.at1 i hi
      have hAn : v.A i ≤ v.T i ∧ v.T i ≤ (v.P i).length := hA
      refine ⟨_, rfl, _, rfl, M .outs, _, rfl, R2.gO hi kb, M (.o i), D (.o i), _, rfl, R2.at_ (.o i) hi, outf_no _ _ (by decide +kernel) (by decide +kernel), _, rfl, M (.o i), M (.ol i), _, _, (n : Int), rfl, R2.outAt hi, (by show (n : Int) ≤ (v.A i : Int) + (((v.P i).drop (v.A i)).length : Int); rw [List.length_drop]; omega), fun H3 O3 f3 => ?_⟩
      have d3 : H3 (M .acked) = some (.dT (tab fun i => .int (v.A i : Int))) := f3 _ _ (R2.at_ .acked trivial) (S.inj _ _ trivial hi (by intro q; cases q)) (S.inj _ _ trivial hi (by intro q; cases q))
      have kb3 : H3 t = some (.tup ((keyO i).map kV)) := f3 _ _ kb (ne_of kb (R2.at_ (.o i) hi) (by intro q; cases q)) (ne_of kb (R2.at_ (.ol i) hi) (by intro q; cases q))
      refine ⟨_, rfl, _, rfl, M .acked, _, rfl, dgt (f := fun i => .int (v.A i : Int)) d3 kb3 hi, _, rfl, _, _, rfl, ?_⟩
      obtain ⟨D', R4⟩ := Sta.ack S R2 (i := i) (n := n) hi hn O3 f3
      refine ⟨_, rfl, _, rfl, M .acked, _, rfl, dpt (f := fun i => .int (v.A i : Int)) d3 kb3 hi, ?_⟩
      exact k { v with A := put1 v.A i (if n > v.A i then n else v.A i), xs := v.xs.eraseIdx j, ys := v.ys.eraseIdx j, ps := v.ps.eraseIdx j } D' _ ⟨rfl, .inl ⟨i, n, hq, rfl, rfl, rfl⟩⟩ R4
    | data i n x =>
      obtain ⟨hi, n0, hx⟩ : i < 6 ∧ 0 < n ∧ (v.P i)[n - 1]? = some x := gq
      refine ⟨_, rfl, _, rfl, M .bag, _, _, _, rfl, rfl, SqL.of (R.at_ .bag trivial), atI_nat hy, b, _, rfl, SqT.of hb, rfl, _, _, rfl, _, _, rfl, _, _, rfl, _, _, rfl, _, _, rfl, rfl, ?_⟩
      refine ⟨_, rfl, _, rfl, _, rfl, H0, M, D, kk, v, j, rfl, S, R, hj, by omega, fun H1 R1 => ?_⟩
      refine ⟨_, rfl, iteF ?_⟩
      refine ⟨_, rfl, rfl, _, rfl, ?_⟩
      rw [decide_eq_false (by intro q; injection q with q; exact absurd q (by decide +kernel))]
      refine iteF ?_
      refine ⟨_, rfl, _, rfl, (by show 2 ≤ sizeLine; decide), fun t ht => ?_⟩
      have R2 := R1.same (Same.new (o := .tup [.int (sO i : Int), .int (tO i : Int)]) ht)
      have kb : (upd H1 t (.tup [.int (sO i : Int), .int (tO i : Int)])) t = some (.tup ((keyO i).map kV)) := upd_same
      revert R2 kb
      generalize (upd H1 t (.tup [.int (sO i : Int), .int (tO i : Int)])) = H2
      intro R2 kb
      have hA := R2.at1 i hi
      have hAn : v.A i ≤ v.T i ∧ v.T i ≤ (v.P i).length := hA
      have lz : (v.P i).length ≤ 8000 := hP i hi
      have le : (v.ps.eraseIdx j).length ≤ v.ps.length := List.length_eraseIdx_le ..
      refine ⟨fun σ H3 => ∃ (D3 : Sl → Addr) (T3 : Nat → Nat), σ = [some (.ref (M .outs)), some (.ref (M .ends)), some (.ref (M .taken)), some (.ref (M .acked)), some (.ref (M .net)), some (.ref (M .bag)), some (.int (j : Int)), some (.int (sO i : Int)), some (.int (tO i : Int)), some (.str ("data" : Str)), some (.int (n : Int)), some x, some (.ref t)] ∧
        Sta K H0 M D3 kk H3 { v with T := T3, xs := v.xs.eraseIdx j, ys := v.ys.eraseIdx j, ps := v.ps.eraseIdx j } ∧ T3 = put1 v.T i (if n = v.T i + 1 then n else v.T i) ∧ H3 t = some (.tup ((keyO i).map kV)), ?_, ?_⟩
      · refine ⟨_, rfl, _, rfl, M .ends, _, rfl, R2.gE hi kb, M (.e i), D (.e i), _, rfl, R2.at_ (.e i) hi, inf_no _ (by decide +kernel), _, rfl, M (.e i), _, _, rfl, R2.inAt hi, _, rfl, ?_⟩
        refine ite2 (fun c => ?_) (fun c => ?_)
        · have c : n = v.T i + 1 := by
            have c := of_decide_eq_true c
            injection c with c
            have c : (n : Int) = (v.T i : Int) + 1 := c
            omega
          refine ⟨_, rfl, _, rfl, M .ends, _, rfl, R2.gE hi kb, M (.e i), D (.e i), _, rfl, R2.at_ (.e i) hi, inf_no _ (by decide +kernel), M (.e i), _, rfl, R2.inAt hi, fun H3 I3 f3 => ?_⟩
          have d3 : H3 (M .taken) = some (.dT (tab fun i => .ref (M (.t i)))) := f3 _ _ (R2.at_ .taken trivial) (S.inj _ _ trivial hi (by intro q; cases q))
          have kb3 : H3 t = some (.tup ((keyO i).map kV)) := f3 _ _ kb (ne_of kb (R2.at_ (.e i) hi) (by intro q; cases q))
          have t3 : H3 (M (.t i)) = some (.lst ((v.P i).take (v.T i))) := f3 _ _ (R2.at_ (.t i) hi) (S.inj _ _ hi hi (by intro q; cases q))
          have tl : ((v.P i).take (v.T i)).length = v.T i := R2.tlen hi
          refine ⟨_, rfl, _, rfl, M .taken, _, rfl, dgt (f := fun i => .ref (M (.t i))) d3 kb3 hi, .inl ⟨rfl, _, SqL.of t3⟩, _, rfl, M (.t i), _, _, rfl, rfl, t3, by omega, ?_⟩
          obtain ⟨D', R4⟩ := Sta.acc S R2 (i := i) (x := x) hi (by subst c; exact hx) I3 f3
          exact ⟨D', put1 v.T i (v.T i + 1), rfl, R4, by rw [if_pos c, c], by rw [upd_ne (ne_of kb3 t3 (by intro q; cases q))]; exact kb3⟩
        · have c : ¬ n = v.T i + 1 := fun e => c (decide_eq_true (by show V.int (n : Int) = V.int ((v.T i : Int) + 1); rw [e]; rfl))
          refine ⟨D, v.T, rfl, R2, ?_, kb⟩
          rw [if_neg c]
          funext z
          unfold put1
          split
          · rename_i e; rw [e]
          · rfl
      clear R2 kb R1 R hA
      rintro σ H3 ⟨D3, T3, rfl, R3, eT, kb⟩
      have hT3 : v.A i ≤ T3 i ∧ T3 i ≤ (v.P i).length := R3.at1 i hi
      have tl : ((v.P i).take (T3 i)).length = T3 i := R3.tlen hi
      -- net.post((target, source, 'ack', len(taken[key]), None))
      obtain ⟨dx, p1⟩ := R3.netAt.ob
      refine ⟨_, rfl, M .net, dx, _, rfl, p1, netf_no _ (by decide +kernel), _, rfl, _, rfl, _, rfl, _, rfl, M .taken, _, rfl, R3.gT hi kb, M (.t i), _, rfl, .inl (R3.tl hi), (by show 5 ≤ sizeLine; decide), fun a ha => ?_⟩
      rw [tl]
      have s4 : Same H3 (upd H3 a (.tup (Pk.ack i (T3 i)).fld)) := Same.new ha
      have R4 := R3.same s4
      have lx : (v.xs.eraseIdx j).length = (v.ps.eraseIdx j).length := R3.lx
      have ly : (v.ys.eraseIdx j).length = (v.ps.eraseIdx j).length := R3.ly
      refine ⟨M .net, M .nl, v.xs.eraseIdx j, V.ref a, rfl, R4.netAt, by omega, ?_⟩
      have g5 := fun (s : Sl) (hs : Sl.ok s) (h : s ≠ .nl) => R3.mid S (o := .tup (Pk.ack i (T3 i)).fld) ha (L := v.xs.eraseIdx j ++ [.ref a]) hs h
      have kb5 := R3.midT (o := .tup (Pk.ack i (T3 i)).fld) ha (L := v.xs.eraseIdx j ++ [.ref a]) kb
      have t5 : (upd (upd H3 a (.tup (Pk.ack i (T3 i)).fld)) (M .nl) (.lst (v.xs.eraseIdx j ++ [.ref a]))) (M (.t i)) = some (.lst ((v.P i).take (T3 i))) := g5 (.t i) hi (by intro q; cases q)
      -- bag.append(...)
      refine ⟨_, rfl, .inl ⟨rfl, _, SqL.of (g5 .bag trivial (by intro q; cases q))⟩, _, rfl, _, rfl, _, rfl, _, rfl, M .taken, _, rfl, dgt (f := fun i => .ref (M (.t i))) (g5 .taken trivial (by intro q; cases q)) kb5 hi, M (.t i), _, rfl, .inl (SqL.of t5), (by show 5 ≤ sizeLine; decide), fun c hc => ?_⟩
      rw [tl]
      refine ⟨M .bag, v.ys.eraseIdx j, V.ref c, rfl, rfl, ?_, by omega, ?_⟩
      · rw [upd_ne (ne_of_none (g5 .bag trivial (by intro q; cases q)) hc)]
        exact g5 .bag trivial (by intro q; cases q)
      have R6 := R3.post S (q := .ack i (T3 i)) ⟨hi, Nat.le_refl _⟩ ha hc
      -- return ends[key].count == len(taken[key])
      have kb7 : (upd (upd (upd (upd H3 a (.tup (Pk.ack i (T3 i)).fld)) (M .nl) (.lst (v.xs.eraseIdx j ++ [.ref a]))) c (.tup (Pk.ack i (T3 i)).fld)) (M .bag) (.lst (v.ys.eraseIdx j ++ [.ref c]))) t = some (.tup ((keyO i).map kV)) := by
        rw [upd_ne (ne_of kb (R3.at_ .bag trivial) (by intro q; cases q)), upd_ne (ne_of_none kb5 hc)]
        exact kb5
      refine ⟨_, rfl, _, rfl, M .ends, _, rfl, R6.gE hi kb7, M (.e i), _, D3 (.e i), _, _, rfl, R6.at_ (.e i) hi, T.cl_Incoming, T.n_Incoming_count, inf_count _, _, rfl, _, rfl, M .taken, _, rfl, R6.gT hi kb7, M (.t i), _, rfl, .inl (R6.tl hi), rfl, ?_⟩
      rw [decide_eq_true (by show V.int (T3 i : Int) = V.int (((v.P i).take (T3 i)).length : Int); rw [tl])]
      exact k { v with T := T3, xs := v.xs.eraseIdx j ++ [.ref a], ys := v.ys.eraseIdx j ++ [.ref c], ps := v.ps.eraseIdx j ++ [.ack i (T3 i)] } D3 _ ⟨rfl, .inr ⟨i, n, x, hq, rfl, eT, rfl⟩⟩ R6

theorem ok_law_send (T : Txt K mg) : FnOk P w K mg base CX0 5 (He.ga K "_law_send") T.fd_law_send ["outs", "puts", "acked", "net", "bag", "source"] (spSend K) := by
  refine T.F_law_send.ok sc_law_send (fun vs H Q E h => ?_) (fun cdv A outer s H vs Q E hr h => ?_)
  · obtain ⟨H0, M, D, kk, v, s, rfl, _⟩ := h
    rfl
  · obtain ⟨H0, M, D, kk, v, s, rfl, S, R, hs, hP, hz, k⟩ := h
    refine ⟨_, PSs.nox (pss_cons (ps_for PassesOwn.never rfl (pi_range1 (by rfl) T.z_range (pa_cons pe_int pa_nil)) (pg_name (i := 6) sc_law_send.nd rfl (Or.inl rfl))
      (pss_one (ps_if (pt_cmpR op_ne (pv 6) (pv 5) (nomark _))
        (pss_cons (ps_set (i := 7) sc_law_send.nd rfl (Or.inr rfl) (pe_tup (pa_cons (pv 5) (pa_cons (pv 6) pa_nil))))
        (pss_cons (ps_set (i := 8) sc_law_send.nd rfl (Or.inl rfl) (pe_dget (hu2 hr.units) (pv 2) (pv 7) (fun _ _ => rfl)))
        (pss_cons (ps_setLc (i := 9) (own := [("k", 13)]) (g := gName 13) (tt := tYes) (by rfl) sc_law_send.nd rfl rfl (sw_true rfl rfl rfl (by decide +kernel)) (pi_range2 (by rfl) T.z_range (pa_cons (pv 8) (pa_cons (pe_callB call_len_seq (by rfl) T.z_len (by decide +kernel) (pa_cons (pe_dget (hu2 hr.units) (pv 1) (pv 7) (fun _ _ => rfl)) pa_nil)) pa_nil))) (blkOk_by (own := [("k", 13)]) (N := ["outs", "puts", "acked", "net", "bag", "source", "target", "key", "first", "expected", "due", "number", "letter", "k"]) (sc := defScope s_law_send) (by decide +kernel)) (fun _ _ _ _ _ => pg_name (i := 13) sc_law_send.nd rfl (Or.inl rfl)) (fun _ _ _ _ _ => pts_nil) (fun _ _ _ _ _ => (pe_tup (pa_cons (pe_op op_add (pv 13) pe_int) (pa_cons (pe_ix (ix_listK (K := K) rfl) (pe_dget (hu2 hr.units) (pv 1) (pv 7) (fun _ _ => rfl)) (pv 13) (fun _ _ => rfl)) pa_nil)))))
        (pss_cons (ps_set (i := 10) sc_law_send.nd rfl (Or.inl rfl) (pe_meth0 (pe_dget (hu2 hr.units) (pv 0) (pv 7) (fun _ _ => rfl)) T.cl_Outgoing T.m_Outgoing_due (ok_Outgoing_due T) (hr.mono (by decide)) T.b_Outgoing_due .nil pass0))
        (pss_cons (ps_if (PW.pt (pw_or (pt_not (pt_val (pe_callB call_isi (by rfl) T.z_isinstance (by decide +kernel) (pa_cons (pv 10) (pa_cons (pe_bltn (v := .ty "list") (by rfl) T.z_list (by decide +kernel) rfl) pa_nil))))) (pw_or1 (pt_cmpR (op_neD hr.units) (pv 10) (pv 9) (nomark _)))))
          (pss_one (ps_ret pe_bl))
          pss_nil)
        (pss_one (ps_for PassesOwn.never rfl (pi_list (pv 9)) (pg_tup (by rfl) (pgs_cons (pg_name (i := 11) sc_law_send.nd rfl (Or.inl rfl)) (pgs_cons (pg_name (i := 12) sc_law_send.nd rfl (Or.inl rfl)) pgs_nil)))
          (pss_cons (ps_expr (pe_meth (pv 3) T.cl_Network T.m_Network_post (ok_Network_post T) (hr.mono (by decide)) T.b_Network_post .nil pass0 (pa_cons (pe_tup (pa_cons (pv 5) (pa_cons (pv 6) (pa_cons pe_str (pa_cons (pv 11) (pa_cons (pv 12) pa_nil)))))) pa_nil)))
          (pss_one (ps_expr (pe_bm PySem.F.plainAttrs_list PySem.F.slot_list_append PySem.F.type_list_append mt_append (pv 4) (pa_cons (pe_tup (pa_cons (pv 5) (pa_cons (pv 6) (pa_cons pe_str (pa_cons (pv 11) (pa_cons (pv 12) pa_nil)))))) pa_nil))))))))))))
        pss_nil)))
    (pss_one (ps_ret pe_bl))), ?_⟩
    have hsz : (100000 : Nat) < sizeLine := by decide
    refine ⟨_, rfl, by omega, by omega, ?_⟩
    refine for_range (lo := 0) (n := (3 : Int).toNat) (fun t σ H2 => ∃ (u6 u7 u8 u9 u10 u11 u12 u13 : Option V) (xs ys : List V), σ = [some (.ref (M .outs)), some (.ref (M .puts)), some (.ref (M .acked)), some (.ref (M .net)), some (.ref (M .bag)), some (.int (s : Int)), u6, u7, u8, u9, u10, u11, u12, u13] ∧ Sta K H0 M D kk H2 { v with xs := xs, ys := ys, ps := v.ps ++ sent v.P v.A s t })
      ⟨none, none, none, none, none, none, none, none, v.xs, v.ys, rfl, by rw [show v.ps ++ sent v.P v.A s 0 = v.ps from List.append_nil _]; exact R⟩ ?_ ?_
    · rintro t σ H2 ht ⟨u6, u7, u8, u9, u10, u11, u12, u13, xs, ys, rfl, R2⟩
      have ht : t < 3 := ht
      rw [Int.zero_add]
      refine ⟨_, rfl, _, rfl, rfl, _, rfl, ?_⟩
      by_cases c : t = s
      · refine iteNS (by rw [c]) ?_
        exact ⟨_, u7, u8, u9, u10, u11, u12, u13, xs, ys, rfl, by rw [sent_same c]; exact R2⟩
      rw [decide_eq_false (by intro q; injection q with q; exact c (by omega))]
      refine iteT ?_
      obtain ⟨i, hi, es, et, ei⟩ : ∃ i, i < 6 ∧ sO i = s ∧ tO i = t ∧ ixO s t = i := ⟨ixO s t, ixO_lt hs ht c, sO_ix hs ht c, tO_ix hs ht c, rfl⟩
      have hA : v.A i ≤ v.T i ∧ v.T i ≤ (v.P i).length := R.at1 i hi
      have lz := hP i hi
      -- key = (source, target)
      refine ⟨_, rfl, _, rfl, (by show 2 ≤ sizeLine; decide), fun tk htk => ?_⟩
      have R3 := R2.same (Same.new (o := .tup [.int (s : Int), .int (t : Int)]) htk)
      have kb : (upd H2 tk (.tup [.int (s : Int), .int (t : Int)])) tk = some (.tup ((keyO i).map kV)) := by
        rw [upd_same]
        show _ = some (HO.tup [.int (sO i : Int), .int (tO i : Int)])
        rw [es, et]
      clear R2
      revert R3 kb
      generalize (upd H2 tk (.tup [.int (s : Int), .int (t : Int)])) = H3
      intro R3 kb
      refine ⟨_, rfl, _, rfl, M .acked, _, rfl, R3.gA hi kb, ?_⟩
      -- expected = [...]
      have RP : SqL K H3 (M (.p i)) (v.P i) := R3.pl hi
      refine ⟨_, rfl, _, rfl, _, rfl, M .puts, _, rfl, R3.gP hi kb, M (.p i), _, rfl, .inl RP, _, _, rfl, ⟨by show -(2 ^ 62) ≤ (v.A i : Int); omega, by show (v.A i : Int) < 2 ^ 62; omega, by omega, by omega⟩, fun F hF => ?_⟩
      refine lc_range (lo := (v.A i : Int)) (n := (((v.P i).length : Int) - (v.A i : Int)).toNat) (fun m H4 => ∃ ts : List Addr, Same H3 H4 ∧ H4 F = some (.lst (ts.map V.ref)) ∧ ts.length = m ∧ NumAt H4 (v.P i) (v.A i) ts)
        ⟨[], Same.new hF, upd_same, rfl, fun j t e => by cases e⟩ ?_ ?_
      · rintro m H4 hm ⟨ts, s4, hF4, hl, N⟩
        have R4 := R3.same s4
        have kb4 := s4 _ _ kb
        obtain ⟨x, hx⟩ : ∃ x, (v.P i)[v.A i + m]? = some x := ⟨_, List.getElem?_eq_getElem (by omega)⟩
        have P4 : SqL K H4 (M (.p i)) (v.P i) := R4.pl hi
        refine ⟨rfl, _, rfl, _, _, rfl, rfl, _, rfl, _, rfl, M .puts, _, rfl, R4.gP hi kb4, _, rfl, M (.p i), _, _, _, rfl, rfl, P4, at_of (j := v.A i + m) (by omega) hx, (by show 2 ≤ sizeLine; decide), fun u hu => ?_⟩
        have ec : (v.A i : Int) + (m : Int) + 1 = ((v.A i + ts.length + 1 : Nat) : Int) := by omega
        dsimp only
        rw [ec]
        have s5 : Same H4 (upd H4 u (.tup [.int ((v.A i + ts.length + 1 : Nat) : Int), x])) := Same.new hu
        have F5 := s5 _ _ hF4
        have hu5 : (upd H4 u (.tup [.int ((v.A i + ts.length + 1 : Nat) : Int), x])) u = some (.tup [.int ((v.A i + ts.length + 1 : Nat) : Int), x]) := upd_same
        have N5 := (N.mono (TSame.of s5)).snoc (by rw [hl]; exact hx) hu5
        refine ⟨ts.map V.ref, F5, by rw [List.length_map]; omega, ts ++ [u], fun b o e => ?_, ?_, by rw [List.length_append, List.length_singleton, hl], N5.mono fun b o e => ?_⟩
        · rw [upd_ne (ne_of_none e hF)]
          exact s5 _ _ (s4 _ _ e)
        · rw [upd_same, List.map_append]
          rfl
        · rw [upd_ne (ne_of e F5 (by intro q; cases q))]
          exact e
      rintro H4 ⟨ts, s4, hF4, hl, N⟩
      have R4 := R3.same s4
      have kb4 := s4 _ _ kb
      have ltsI : ts.length = (v.P i).length - v.A i := by omega
      -- due = outs[key].due()
      refine ⟨_, rfl, _, rfl, M .outs, _, rfl, R4.gO hi kb4, M (.o i), D (.o i), _, rfl, R4.at_ (.o i) hi, outf_no _ _ (by decide +kernel) (by decide +kernel), M (.o i), M (.ol i), _, _, rfl, R4.outAt hi, by show (0 : Int) ≤ (v.A i : Int); omega, by show (v.A i : Int) < 2 ^ 62; omega, fun H5 q us s5 nq hlen hq hus => ?_⟩
      have hlen : us.length = ((v.P i).drop (v.A i)).length := hlen
      rw [List.length_drop] at hlen
      have hF5 := s5 _ _ hF4
      have N5 := N.mono (TSame.of s5)
      have R5 := R4.same s5
      refine ⟨_, rfl, _, _, _, _, true, rfl, .ty _, .base (.lst hq), kit_ty (by decide +kernel), _, rfl, iteF ?_⟩
      have tw : Tws H5 6 (us.map V.ref) (ts.map V.ref) := by
        refine Tws.of (by rw [List.length_map, List.length_map]; omega) fun j x y ex ey => ?_
        rw [List.getElem?_map] at ex ey
        obtain ⟨a, ea, rfl⟩ := Option.map_eq_some_iff.mp ex
        obtain ⟨b, eb, rfl⟩ := Option.map_eq_some_iff.mp ey
        obtain ⟨x1, g1, g2⟩ := hus j a ea
        obtain ⟨x2, g3, g4⟩ := N5 j b eb
        have g1 : ((v.P i).drop (v.A i))[j]? = some x1 := g1
        rw [List.getElem?_drop, g3] at g1
        injection g1 with g1
        subst g1
        have ec : (v.A i : Int) + 1 + (j : Int) = ((v.A i + j + 1 : Nat) : Int) := by omega
        have g2 : H5 a = some (.tup [.int ((v.A i : Int) + 1 + (j : Int)), x2]) := g2
        rw [ec] at g2
        obtain ⟨c, fs, ds, rfl, k1, k2, k3⟩ := R5.dt i hi x2 (List.mem_of_getElem? g3)
        refine ⟨a, b, _, [.int _, .tuple ds], rfl, rfl, g2, g4, .cons (.int _) (.cons (.tup k1 k2) .nil), ?_⟩
        simp only [PyData.depth, PyData.depthAll] at k3 ⊢
        omega
      obtain ⟨ds, d1, d2, sh, ev⟩ := tw.dat (K := K) (by decide)
      refine ⟨_, rfl, _, rfl, _, _, .lst (SqL.of hq) d1, .lst (SqL.of hF5) d2, sh, sh, _, rfl, ?_⟩
      rw [ev]
      refine iteF ?_
      -- for number, letter in expected
      have lm : (ts.map V.ref).length = ((v.P i).drop (v.A i)).length := by rw [List.length_map, List.length_drop, ltsI]
      refine ⟨_, rfl, F, rfl, ⟨_, SqL.of hF5⟩, for_list (K := K) (a := F) (xs := ts.map V.ref) (fun m σ H6 => ∃ (w11 w12 w13 : Option V) (xs ys : List V), σ = [some (.ref (M .outs)), some (.ref (M .puts)), some (.ref (M .acked)), some (.ref (M .net)), some (.ref (M .bag)), some (.int (s : Int)), some (.int (t : Int)), some (.ref tk), some (.int (v.A i : Int)), some (.ref F), some (.ref q), w11, w12, w13] ∧
          Sta K H0 M D kk H6 { v with xs := xs, ys := ys, ps := (v.ps ++ sent v.P v.A s t) ++ pks i (v.A i) (((v.P i).drop (v.A i)).take m) } ∧ H6 F = some (.lst (ts.map V.ref)) ∧ NumAt H6 (v.P i) (v.A i) ts)
        ⟨_, _, _, xs, ys, rfl, by rw [List.take_zero]; show Sta K H0 M D kk H5 { v with xs := xs, ys := ys, ps := (v.ps ++ sent v.P v.A s t) ++ [] }; rw [List.append_nil]; exact R5, hF5, N5⟩ ?_ ?_ ?_⟩
      · rintro m σ H6 hm ⟨w11, w12, w13, xs, ys, rfl, R6, hF6, N6⟩
        exact SqL.of hF6
      · rintro m y σ H6 hy ⟨w11, w12, w13, xs, ys, rfl, R6, hF6, N6⟩
        rw [List.getElem?_map] at hy
        obtain ⟨u, eu, rfl⟩ := Option.map_eq_some_iff.mp hy
        obtain ⟨x, hx, hu⟩ := N6 m u eu
        have hm : m < (v.P i).length - v.A i := by rw [← ltsI]; exact (List.getElem?_eq_some_iff.mp eu).1
        refine ⟨u, _, rfl, SqT.of hu, rfl, _, _, rfl, _, _, rfl, rfl, ?_⟩
        obtain ⟨dx, p1⟩ := R6.netAt.ob
        have ef : ([.int (s : Int), .int (t : Int), .str ("data" : Str), .int ((v.A i + m + 1 : Nat) : Int), x] : List V) = (Pk.data i (v.A i + m + 1) x).fld := by
          show _ = [V.int (sO i : Int), V.int (tO i : Int), _, _, _]
          rw [es, et]
        refine ⟨_, rfl, M .net, dx, _, rfl, p1, netf_no _ (by decide +kernel), _, rfl, _, rfl, _, rfl, _, rfl, (by show 5 ≤ sizeLine; decide), fun a ha => ?_⟩
        have R7 := R6.same (Same.new (o := .tup [.int (s : Int), .int (t : Int), .str ("data" : Str), .int ((v.A i + m + 1 : Nat) : Int), x]) ha)
        have lps : ((v.ps ++ sent v.P v.A s t) ++ pks i (v.A i) (((v.P i).drop (v.A i)).take m)).length ≤ 96000 := by
          have h1 := sent_len (A := v.A) hs hP t (by omega)
          rw [List.length_append, List.length_append, pks_len, List.length_take]
          have h2 : (t - if s < t then 1 else 0) * 8000 ≤ 8000 := by
            have : t - (if s < t then 1 else 0) ≤ 1 := by split <;> omega
            omega
          omega
        have lx : xs.length ≤ 96000 := by
          have : xs.length = _ := R6.lx
          rw [this]
          exact lps
        have ly : ys.length ≤ 96000 := by
          have : ys.length = _ := R6.ly
          rw [this]
          exact lps
        refine ⟨M .net, M .nl, xs, V.ref a, rfl, R7.netAt, by omega, ?_⟩
        have g5 : (upd (upd H6 a (.tup [.int (s : Int), .int (t : Int), .str ("data" : Str), .int ((v.A i + m + 1 : Nat) : Int), x])) (M .nl) (.lst (xs ++ [.ref a]))) (M .bag) = some (.lst ys) := R6.mid S ha (s := .bag) trivial (by intro q; cases q)
        refine ⟨_, rfl, .inl ⟨rfl, _, SqL.of g5⟩, _, rfl, _, rfl, _, rfl, _, rfl, (by show 5 ≤ sizeLine; decide), fun c hc => ?_⟩
        refine ⟨M .bag, ys, V.ref c, rfl, rfl, ?_, by omega, ?_⟩
        · rw [upd_ne (ne_of_none g5 hc)]
          exact g5
        have nF : ∀ z, Sl.ok z → F ≠ M z := fun z hz => (ne_of_none (R3.at_ z hz) hF).symm
        have R8 := R6.postF S (q := .data i (v.A i + m + 1) x) ⟨hi, Nat.succ_pos _, hx⟩ ef ha hc
        refine ⟨_, _, w13, xs ++ [.ref a], ys ++ [.ref c], rfl, ?_, post_keep ha hc hF6 (nF .nl trivial) (nF .bag trivial), N6.mono fun b o e => post_keep ha hc e (ne_of e (R6.at_ .nl trivial) (by intro q; cases q)) (ne_of e (R6.at_ .bag trivial) (by intro q; cases q))⟩
        have eP : pks i (v.A i) (((v.P i).drop (v.A i)).take (m + 1)) = pks i (v.A i) (((v.P i).drop (v.A i)).take m) ++ [.data i (v.A i + m + 1) x] := by
          have h1 : ((v.P i).drop (v.A i))[m]? = some x := by rw [List.getElem?_drop]; exact hx
          have h2 : (((v.P i).drop (v.A i)).take m).length = m := by rw [List.length_take, List.length_drop]; omega
          rw [List.take_add_one, h1]
          show pks i (v.A i) (((v.P i).drop (v.A i)).take m ++ [x]) = _
          rw [pks_snoc, h2]
        rw [eP, ← List.append_assoc]
        exact R8
      · rintro σ H6 ⟨w11, w12, w13, xs, ys, rfl, R6, hF6, N6⟩
        refine ⟨_, _, _, _, _, w11, w12, w13, xs, ys, rfl, ?_⟩
        rw [lm, List.take_length] at R6
        rw [sent_next c ei, ← List.append_assoc]
        exact R6
    · rintro σ H2 ⟨u6, u7, u8, u9, u10, u11, u12, u13, xs, ys, rfl, R2⟩
      exact k xs ys H2 R2
theorem ok_law_ends_well (T : Txt K mg) : FnOk P w K mg base CX0 8 (He.ga K "_law_ends_well") T.fd_law_ends_well ["outs", "ends", "puts", "taken", "acked", "keys", "net", "bag"] (spEnds K) := by
  refine T.F_law_ends_well.ok sc_law_ends_well (fun vs H Q E h => ?_) (fun cdv A outer s H vs Q E hr h => ?_)
  · obtain ⟨H0, M, D, kk, v, rfl, _⟩ := h
    rfl
  · obtain ⟨H0, M, D, kk, v, rfl, S, R, hP, hz, k⟩ := h
    refine ⟨_, PSs.nox (pss_cons (ps_for PassesOwn.never rfl (pi_range1 (by rfl) T.z_range (pa_cons pe_int pa_nil)) (pg_name (i := 8) sc_law_ends_well.nd rfl (Or.inl rfl))
      (pss_one (ps_if (pt_not (pt_val (pe_call (ok_law_send T) (hr.mono (by decide)) (by rfl) T.g_law_send T.F_law_send.kp T.b_law_send .nil pass0 (pa_cons (pv 0) (pa_cons (pv 2) (pa_cons (pv 4) (pa_cons (pv 6) (pa_cons (pv 7) (pa_cons (pv 8) pa_nil)))))))))
        (pss_one (ps_ret pe_bl))
        pss_nil)))
    (pss_cons (ps_for PassesOwn.never rfl (pi_range1 (by rfl) T.z_range (pa_cons (pe_op op_add (pe_op op_mul pe_int (pe_callB call_len_seq (by rfl) T.z_len (by decide +kernel) (pa_cons (pv 7) pa_nil))) pe_int) pa_nil)) (pg_name (i := 9) sc_law_ends_well.nd rfl (Or.inl rfl))
      (pss_cons (ps_if (pt_not (pt_truth (pv 7) (by intro _; rfl)))
        (pss_one ps_break)
        pss_nil)
      (pss_one (ps_if (pt_not (pt_val (pe_call (ok_law_deliver T) (hr.mono (by decide)) (by rfl) T.g_law_deliver T.F_law_deliver.kp T.b_law_deliver .nil pass0 (pa_cons (pv 0) (pa_cons (pv 1) (pa_cons (pv 3) (pa_cons (pv 4) (pa_cons (pv 6) (pa_cons (pv 7) (pa_cons pe_int pa_nil))))))))))
        (pss_one (ps_ret pe_bl))
        pss_nil))))
    (pss_cons (ps_if (PW.pt (pw_or (pt_truth (pv 7) (by intro _; rfl)) (pw_or (pt_cmpR op_ne (pe_callB (Fh.call_lenO T.cl_Network T.m_Network_len (ok_Network_len T) (hr.mono (by decide)) T.b_Network_len pass0) (by rfl) T.z_len (by decide +kernel) (pa_cons (pv 6) pa_nil)) pe_int (nomark _)) (pw_or1 (pt_cmpR (op_neD hr.units) (pe_meth0 (pv 6) T.cl_Network T.m_Network_packets (ok_Network_packets T) (hr.mono (by decide)) T.b_Network_packets .nil pass0) (pe_lst pa_nil) (nomark _))))))
      (pss_one (ps_ret pe_bl))
      pss_nil)
    (pss_cons (ps_for PassesOwn.never rfl (pi_list (pv 5)) (pg_name (i := 10) sc_law_ends_well.nd rfl (Or.inl rfl))
      (pss_one (ps_if (PW.pt (pw_or (pt_cmpR (op_neD hr.units) (pe_dget (hu2 hr.units) (pv 3) (pv 10) (fun _ _ => rfl)) (pe_dget (hu2 hr.units) (pv 2) (pv 10) (fun _ _ => rfl)) (nomark _)) (pw_or (pt_cmpR op_ne (pe_dget (hu2 hr.units) (pv 4) (pv 10) (fun _ _ => rfl)) (pe_callB call_len_seq (by rfl) T.z_len (by decide +kernel) (pa_cons (pe_dget (hu2 hr.units) (pv 2) (pv 10) (fun _ _ => rfl)) pa_nil)) (nomark _)) (pw_or1 (pt_cmpR (op_neD hr.units) (pe_meth0 (pe_dget (hu2 hr.units) (pv 0) (pv 10) (fun _ _ => rfl)) T.cl_Outgoing T.m_Outgoing_due (ok_Outgoing_due T) (hr.mono (by decide)) T.b_Outgoing_due .nil pass0) (pe_lst pa_nil) (nomark _))))))
        (pss_one (ps_ret pe_bl))
        pss_nil)))
    (pss_one (ps_ret (pe_call (ok_law_holds T) (hr.mono (by decide)) (by rfl) T.g_law_holds T.F_law_holds.kp T.b_law_holds .nil pass0 (pa_cons (pv 0) (pa_cons (pv 1) (pa_cons (pv 2) (pa_cons (pv 3) (pa_cons (pv 4) (pa_cons (pv 5) pa_nil))))))))))))), ?_⟩
    have hsz : (100000 : Nat) < sizeLine := by decide
    refine ⟨_, rfl, by omega, by omega, ?_⟩
    refine for_range (lo := 0) (n := (3 : Int).toNat) (fun s σ H2 => ∃ (u8 : Option V) (xs ys : List V), σ = [some (.ref (M .outs)), some (.ref (M .ends)), some (.ref (M .puts)), some (.ref (M .taken)), some (.ref (M .acked)), some (.ref (M .keys)), some (.ref (M .net)), some (.ref (M .bag)), u8, none, none] ∧ Sta K H0 M D kk H2 { v with xs := xs, ys := ys, ps := v.ps ++ sentU v.P v.A s })
      ⟨none, v.xs, v.ys, rfl, by rw [show v.ps ++ sentU v.P v.A 0 = v.ps from List.append_nil _]; exact R⟩ ?_ ?_
    · rintro s σ H2 hs ⟨u8, xs, ys, rfl, R2⟩
      have hs : s < 3 := hs
      rw [Int.zero_add]
      refine ⟨_, rfl, _, rfl, _, rfl, _, rfl, _, rfl, _, rfl, H0, M, D, kk, { v with xs := xs, ys := ys, ps := v.ps ++ sentU v.P v.A s }, s, rfl, S, R2, hs, hP, ?_, fun xs' ys' H3 R3 => ?_⟩
      · show (v.ps ++ sentU v.P v.A s).length ≤ 80000
        have := sentU_len (A := v.A) hP s (by omega)
        rw [List.length_append]
        omega
      refine ⟨_, rfl, iteF ?_⟩
      exact ⟨_, xs', ys', rfl, by rw [show v.ps ++ sentU v.P v.A (s + 1) = v.ps ++ sentU v.P v.A s ++ sent v.P v.A s 3 from (List.append_assoc _ _ _).symm]; exact R3⟩
    rintro σ H2 ⟨u8, xs, ys, rfl, R2⟩
    have F0 : Fin { v with xs := xs, ys := ys, ps := v.ps ++ sentU v.P v.A (Int.toNat 3) } := Fin.start (qs := v.ps) R.at1 (by show v.ps ++ ((([] ++ sent v.P v.A 0 3) ++ sent v.P v.A 1 3) ++ sent v.P v.A 2 3) = _; simp only [List.append_assoc, List.nil_append])
    have l0 : (v.ps ++ sentU v.P v.A (Int.toNat 3)).length ≤ 68000 := by
      have : (sentU v.P v.A 3).length ≤ 48000 := sentU_len (A := v.A) hP 3 (by omega)
      show (v.ps ++ sentU v.P v.A 3).length ≤ _
      rw [List.length_append]
      omega
    revert R2 F0 l0
    generalize v.ps ++ sentU v.P v.A (Int.toNat 3) = qs
    intro R2 F0 l0
    have ly : ys.length = qs.length := R2.ly
    have hb2 : H2 (M .bag) = some (.lst ys) := R2.at_ .bag trivial
    refine ⟨_, rfl, M .bag, ys, rfl, .inl (SqL.of hb2), _, _, rfl, rfl, .inl ⟨by decide, by decide⟩, _, _, rfl, rfl, _, rfl, by omega, by omega, ?_⟩
    refine for_range (lo := 0) (n := ((2 : Int) * (ys.length : Int) + 1).toNat) (fun m σ H3 => ∃ (u9 : Option V) (v3 : Vs) (D3 : Sl → Addr), σ = [some (.ref (M .outs)), some (.ref (M .ends)), some (.ref (M .puts)), some (.ref (M .taken)), some (.ref (M .acked)), some (.ref (M .keys)), some (.ref (M .net)), some (.ref (M .bag)), u8, u9, none] ∧ Sta K H0 M D3 kk H3 v3 ∧ v3.P = v.P ∧ Fin v3 ∧ v3.ps.length ≤ 68000 ∧ pot v3.ps + m ≤ 2 * qs.length)
      ⟨none, _, D, rfl, R2, rfl, F0, l0, pot_le qs⟩ ?_ ?_
    · rintro m σ H3 hm ⟨u9, v3, D3, rfl, R3, eP, F3, l3, hpot⟩
      have hP3 : ∀ i, i < 6 → (v3.P i).length ≤ 8000 := by rw [eP]; exact hP
      have ly3 : v3.ys.length = v3.ps.length := R3.ly
      have lx3 : v3.xs.length = v3.ps.length := R3.lx
      have hb3 : H3 (M .bag) = some (.lst v3.ys) := R3.at_ .bag trivial
      refine ⟨_, rfl, !v3.ys.isEmpty, .inl ⟨v3.ys, SqL.of hb3, rfl⟩, ?_⟩
      by_cases c : v3.ps = []
      · have ey : v3.ys = [] := List.length_eq_zero_iff.mp (by rw [ly3, c]; rfl)
        have ex : v3.xs = [] := List.length_eq_zero_iff.mp (by rw [lx3, c]; rfl)
        rw [ey]
        refine iteT ?_
        -- if bag or len(net) != 0 or net.packets() != []
        refine ⟨_, rfl, !v3.ys.isEmpty, .inl ⟨v3.ys, SqL.of hb3, rfl⟩, ?_⟩
        rw [ey]
        refine iteF ?_
        obtain ⟨dx, p1⟩ := R3.netAt.ob
        refine ⟨_, rfl, M .net, dx, _, rfl, p1, M .net, M .nl, v3.xs, rfl, R3.netAt, _, rfl, by omega, by omega, rfl, _, rfl, iteNS (by rw [ex]; rfl) ?_⟩
        refine ⟨_, rfl, M .net, dx, _, rfl, p1, netf_no _ (by decide +kernel), M .net, M .nl, v3.xs, rfl, R3.netAt, fun q nq => ?_⟩
        have R4 := R3.same (Same.new (o := .lst v3.xs) nq)
        have hq : (upd H3 q (.lst v3.xs)) q = some (.lst []) := by rw [upd_same, ex]
        refine ⟨Nat.zero_le _, fun e he => ?_⟩
        have R5 := R4.same (Same.new (o := .lst []) he)
        obtain ⟨d1, d2, sh, ev⟩ := no_dat (K := K) (Same.new (o := .lst []) he _ _ hq) upd_same
        refine ⟨_, _, d1, d2, sh, sh, _, rfl, ?_⟩
        rw [ev]
        refine iteF ?_
        clear hq d1 d2
        revert R5
        generalize upd (upd H3 q (.lst v3.xs)) e (.lst []) = H5
        intro R5
        -- for key in keys
        refine ⟨_, rfl, M .keys, rfl, ⟨_, SqL.of (R5.at_ .keys trivial)⟩, for_list (K := K) (a := M .keys) (xs := six fun i => .ref (kk i)) (fun i σ H6 => ∃ (u : Option V), σ = [some (.ref (M .outs)), some (.ref (M .ends)), some (.ref (M .puts)), some (.ref (M .taken)), some (.ref (M .acked)), some (.ref (M .keys)), some (.ref (M .net)), some (.ref (M .bag)), u8, some (.int (0 + (m : Int))), u] ∧ Same H5 H6)
          ⟨none, rfl, Same.refl _⟩ ?_ ?_ ?_⟩
        · rintro i σ H6 hi ⟨u, rfl, s⟩
          exact SqL.of ((R5.same s).at_ .keys trivial)
        · rintro i x σ H6 hx ⟨u, rfl, s⟩
          obtain ⟨hi, rfl⟩ := six_ix hx
          have R6 := R5.same s
          have kb := R6.kt i hi
          obtain ⟨a1, a2⟩ := R6.at1 i hi
          obtain ⟨e1, e2⟩ := F3.over c hi a2
          have lz := hP3 i hi
          obtain ⟨ds, hds, sh, ev⟩ := lst_dat (K := K) (R6.dt i hi) (by decide)
          have tl := R6.tl hi
          rw [e1, List.take_length] at tl
          refine ⟨_, rfl, _, rfl, M .taken, _, rfl, R6.gT hi kb, _, rfl, _, rfl, M .puts, _, rfl, R6.gP hi kb, _, _, .lst tl hds, .lst (R6.pl hi) hds, sh, sh, _, rfl, ?_⟩
          rw [ev]
          refine iteF ?_
          refine ⟨_, rfl, _, rfl, M .acked, _, rfl, R6.gA hi kb, _, rfl, _, rfl, M .puts, _, rfl, R6.gP hi kb, M (.p i), _, rfl, .inl (R6.pl hi), rfl, _, rfl, iteNS (by congr 1; omega) ?_⟩
          refine ⟨_, rfl, _, rfl, M .outs, _, rfl, R6.gO hi kb, M (.o i), D3 (.o i), _, rfl, R6.at_ (.o i) hi, outf_no _ _ (by decide +kernel) (by decide +kernel), M (.o i), M (.ol i), _, _, rfl, R6.outAt hi, by show (0 : Int) ≤ (v3.A i : Int); omega, by show (v3.A i : Int) < 2 ^ 62; omega, fun H7 q us s7 nq hlen hq hus => ?_⟩
          have hus : us = [] := by
            have hlen : us.length = ((v3.P i).drop (v3.A i)).length := hlen
            rw [List.length_drop] at hlen
            exact List.length_eq_zero_iff.mp (by omega)
          rw [hus] at hq
          refine ⟨Nat.zero_le _, fun e he => ?_⟩
          have s8 : Same H7 (upd H7 e (.lst [])) := Same.new he
          obtain ⟨d1, d2, sh, ev⟩ := no_dat (K := K) (s8 _ _ hq) (upd_same (H := H7) (a := e) (o := .lst []))
          refine ⟨_, _, d1, d2, sh, sh, _, rfl, ?_⟩
          rw [ev]
          refine iteF ?_
          exact ⟨_, rfl, (s.trans s7).trans s8⟩
        · rintro σ H6 ⟨u, rfl, s⟩
          exact ⟨_, rfl, _, rfl, _, rfl, _, rfl, _, rfl, _, rfl, H0, M, D3, kk, v3, rfl, R5.same s, hP3, fun H7 s7 => k _⟩
      · have hpos : 0 < v3.ps.length := by
          cases e : v3.ps with
          | nil => exact absurd e c
          | cons q r => exact Nat.succ_pos _
        have ey : v3.ys.isEmpty = false := by
          cases e : v3.ys with
          | nil => rw [e] at ly3; rw [← ly3] at hpos; exact absurd hpos (Nat.lt_irrefl _)
          | cons q r => rfl
        rw [ey]
        refine iteF ?_
        refine ⟨_, rfl, _, rfl, _, rfl, _, rfl, _, rfl, _, rfl, H0, M, D3, kk, v3, 0, rfl, S, R3, hpos, by omega, hP3, fun v4 D4 H4 d R4 => ?_⟩
        refine ⟨_, rfl, iteF ?_⟩
        obtain ⟨F4, ep⟩ := F3.step R3.at1 R3.gd d
        exact ⟨_, v4, D4, rfl, R4, by rw [d.P, eP], F4, Nat.le_trans d.len l3, by omega⟩
    · rintro σ H3 ⟨u9, v3, D3, rfl, R3, eP, F3, l3, hpot⟩
      omega
theorem ok_law (T : Txt K mg) : FnOk P w K mg base CX0 10 (He.ga K "law") T.fd_law ["script"] (spLaw K) := by
  refine T.F_law.ok sc_law (fun vs H Q E h => ?_) (fun cdv A outer s H vs Q E hr h => ?_)
  · obtain ⟨a0, ns, rfl, _⟩ := h
    rfl
  · obtain ⟨a0, ns, rfl, hS, hlen, k⟩ := h
    refine ⟨_, PSs.nox (C8.pss_cut (ps_set (i := 1) sc_law.nd rfl (Or.inl rfl) (pe_lst (pa_cons (pe_tup (pa_cons pe_int (pa_cons pe_int pa_nil))) (pa_cons (pe_tup (pa_cons pe_int (pa_cons pe_int pa_nil))) (pa_cons (pe_tup (pa_cons pe_int (pa_cons pe_int pa_nil))) (pa_cons (pe_tup (pa_cons pe_int (pa_cons pe_int pa_nil))) (pa_cons (pe_tup (pa_cons pe_int (pa_cons pe_int pa_nil))) (pa_cons (pe_tup (pa_cons pe_int (pa_cons pe_int pa_nil))) pa_nil))))))))
    (pss_cons (ps_set (i := 2) sc_law.nd rfl (Or.inl rfl) pe_dnewT)
    (pss_cons (ps_set (i := 3) sc_law.nd rfl (Or.inl rfl) pe_dnewT)
    (pss_cons (ps_set (i := 4) sc_law.nd rfl (Or.inl rfl) pe_dnewT)
    (pss_cons (ps_set (i := 5) sc_law.nd rfl (Or.inl rfl) pe_dnewT)
    (C8.pss_cut (ps_set (i := 6) sc_law.nd rfl (Or.inl rfl) pe_dnewT)
    (pss_cons (ps_for PassesOwn.never rfl (pi_list (pv 1)) (pg_name (i := 7) sc_law.nd rfl (Or.inl rfl))
      (C8.pss_cut (ps_dput (hu2 hr.units) (pv 2) (pv 7) (pe_make0 T.mk_Outgoing (ok_Outgoing_init T) (hr.mono (by decide)) (by rfl) T.mg_Outgoing T.b_Outgoing_init .nil pass0) rfl)
      (C8.pss_cut (ps_dput (hu2 hr.units) (pv 3) (pv 7) (pe_make0 T.mk_Incoming (ok_Incoming_init T) (hr.mono (by decide)) (by rfl) T.mg_Incoming T.b_Incoming_init .nil pass0) rfl)
      (C8.pss_cut (ps_dput (hu2 hr.units) (pv 4) (pv 7) (pe_lst pa_nil) rfl)
      (C8.pss_cut (ps_dput (hu2 hr.units) (pv 5) (pv 7) (pe_lst pa_nil) rfl)
      (pss_one (ps_dput (hu2 hr.units) (pv 6) (pv 7) pe_int rfl)))))))
    (pss_cons (ps_set (i := 8) sc_law.nd rfl (Or.inl rfl) (pe_make0 T.mk_Network (ok_Network_init T) (hr.mono (by decide)) (by rfl) T.mg_Network T.b_Network_init .nil pass0))
    (C8.pss_cut (ps_set (i := 9) sc_law.nd rfl (Or.inl rfl) (pe_lst pa_nil))
    (pss_cons (ps_for PassesOwn.never rfl (pi_range1 (by rfl) T.z_range (pa_cons (pe_callB call_len_seq (by rfl) T.z_len (by decide +kernel) (pa_cons (pv 0) pa_nil)) pa_nil)) (pg_name (i := 10) sc_law.nd rfl (Or.inl rfl))
      (pss_cons (ps_set (i := 11) sc_law.nd rfl (Or.inl rfl) (pe_call (ok_law_number T) (hr.mono (by decide)) (by rfl) T.g_law_number T.F_law_number.kp T.b_law_number .nil pass0 (pa_cons (pe_ix ix_list (pv 0) (pv 10) (fun _ _ => rfl)) (pa_cons (pv 10) pa_nil))))
      (pss_cons (ps_set (i := 12) sc_law.nd rfl (Or.inl rfl) (pe_op op_mod (pe_callTy call_int1 (by rfl) T.z_int (by decide +kernel) (pa_cons (pv 11) pa_nil)) pe_int))
      (pss_cons (ps_set (i := 13) sc_law.nd rfl (Or.inl rfl) (pe_callTy call_int1 (by rfl) T.z_int (by decide +kernel) (pa_cons (pe_op op_fdiv (pv 11) pe_int) pa_nil)))
      (pss_cons (ps_set (i := 14) sc_law.nd rfl (Or.inl rfl) pe_bl)
      (C8.pss_cut (ps_if (pt_cmpR op_lt (pv 12) pe_int (nomark _))
        (pss_cons (ps_set (i := 7) sc_law.nd rfl (Or.inl rfl) (pe_ix ix_list (pv 1) (pe_op op_mod (pv 13) pe_int) (fun _ _ => rfl)))
        (pss_one (ps_set (i := 14) sc_law.nd rfl (Or.inl rfl) (pe_call (ok_law_put T) (hr.mono (by decide)) (by rfl) T.g_law_put T.F_law_put.kp T.b_law_put .nil pass0 (pa_cons (pe_dget (hu2 hr.units) (pv 2) (pv 7) (fun _ _ => rfl)) (pa_cons (pe_dget (hu2 hr.units) (pv 4) (pv 7) (fun _ _ => rfl)) (pa_cons (pe_op op_fdiv (pv 13) pe_int) pa_nil)))))))
        (pss_one (ps_if (pt_cmpR op_eq (pv 12) pe_int (nomark _))
          (pss_one (ps_if (pt_cmpR op_le (pe_callB call_len_seq (by rfl) T.z_len (by decide +kernel) (pa_cons (pv 9) pa_nil)) pe_int (nomark _))
            (pss_one (ps_set (i := 14) sc_law.nd rfl (Or.inl rfl) (pe_call (ok_law_send T) (hr.mono (by decide)) (by rfl) T.g_law_send T.F_law_send.kp T.b_law_send .nil pass0 (pa_cons (pv 2) (pa_cons (pv 4) (pa_cons (pv 6) (pa_cons (pv 8) (pa_cons (pv 9) (pa_cons (pe_op op_mod (pv 13) pe_int) pa_nil)))))))))
            pss_nil))
          (pss_one (ps_if (PW.pt (pw_and (pt_cmpR op_eq (pv 12) pe_int (nomark _)) (pw_and1 (pt_truth (pv 9) (by intro _; rfl)))))
            (pss_one (ps_set (i := 14) sc_law.nd rfl (Or.inl rfl) (pe_call (ok_law_take T) (hr.mono (by decide)) (by rfl) T.g_law_take T.F_law_take.kp T.b_law_take .nil pass0 (pa_cons (pv 8) (pa_cons (pv 9) (pa_cons (pe_op op_mod (pv 13) (pe_callB call_len_seq (by rfl) T.z_len (by decide +kernel) (pa_cons (pv 9) pa_nil))) pa_nil))))))
            (pss_one (ps_if (PW.pt (pw_and (pt_cmpR op_eq (pv 12) pe_int (nomark _)) (pw_and1 (pt_truth (pv 9) (by intro _; rfl)))))
              (pss_cons (ps_expr (pe_meth (pv 8) T.cl_Network T.m_Network_repeat (ok_Network_repeat T) (hr.mono (by decide)) T.b_Network_repeat .nil passL (pa_cons (pe_op op_mod (pv 13) (pe_callB call_len_seq (by rfl) T.z_len (by decide +kernel) (pa_cons (pv 9) pa_nil))) pa_nil)))
              (pss_one (ps_expr (pe_bm PySem.F.plainAttrs_list PySem.F.slot_list_append PySem.F.type_list_append mt_append (pv 9) (pa_cons (pe_ix ix_list (pv 9) (pe_op op_mod (pv 13) (pe_callB call_len_seq (by rfl) T.z_len (by decide +kernel) (pa_cons (pv 9) pa_nil))) (fun _ _ => rfl)) pa_nil)))))
              (pss_one (ps_if (pt_cmpR op_gt (pv 12) pe_int (nomark _))
                (pss_one (ps_for PassesOwn.never rfl (pi_range1 (by rfl) T.z_range (pa_cons (pe_op op_add pe_int (pe_op op_mod (pv 13) pe_int)) pa_nil)) (pg_name (i := 15) sc_law.nd rfl (Or.inl rfl))
                  (pss_one (ps_if (PW.pt (pw_and (pt_truth (pv 9) (by intro _; rfl)) (pw_and1 (pt_val (pv 14)))))
                    (pss_one (ps_set (i := 14) sc_law.nd rfl (Or.inl rfl) (pe_call (ok_law_deliver T) (hr.mono (by decide)) (by rfl) T.g_law_deliver T.F_law_deliver.kp T.b_law_deliver .nil pass0 (pa_cons (pv 2) (pa_cons (pv 3) (pa_cons (pv 5) (pa_cons (pv 6) (pa_cons (pv 8) (pa_cons (pv 9) (pa_cons (pe_op op_mod (pe_op op_add (pe_op op_fdiv (pv 13) pe_int) (pe_op op_mul pe_int (pv 15))) (pe_callB call_len_seq (by rfl) T.z_len (by decide +kernel) (pa_cons (pv 9) pa_nil))) pa_nil))))))))))
                    pss_nil))))
                pss_nil)))))))))
      (pss_cons (ps_if (PW.pt (pw_or (pt_not (pt_val (pv 14))) (pw_or1 (pt_cmpR (op_neD hr.units) (pe_meth0 (pv 8) T.cl_Network T.m_Network_packets (ok_Network_packets T) (hr.mono (by decide)) T.b_Network_packets .nil pass0) (pv 9) (nomark _)))))
        (pss_one (ps_ret pe_bl))
        pss_nil)
      (pss_one (ps_if (pt_not (pt_val (pe_call (ok_law_holds T) (hr.mono (by decide)) (by rfl) T.g_law_holds T.F_law_holds.kp T.b_law_holds .nil pass0 (pa_cons (pv 2) (pa_cons (pv 3) (pa_cons (pv 4) (pa_cons (pv 5) (pa_cons (pv 6) (pa_cons (pv 1) pa_nil)))))))))
        (pss_one (ps_ret pe_bl))
        pss_nil)))))))))
    (pss_one (ps_ret (pe_call (ok_law_ends_well T) (hr.mono (by decide)) (by rfl) T.g_law_ends_well T.F_law_ends_well.kp T.b_law_ends_well .nil pass0 (pa_cons (pv 2) (pa_cons (pv 3) (pa_cons (pv 4) (pa_cons (pv 5) (pa_cons (pv 6) (pa_cons (pv 1) (pa_cons (pv 8) (pa_cons (pv 9) pa_nil))))))))))))))))))))), ?_⟩
    -- keys = [...]
    refine ⟨fun σ H' => ∃ (kl : Addr) (kk : Nat → Addr), σ = [some (.ref a0), some (.ref (kl)), none, none, none, none, none, none, none, none, none, none, none, none, none, none] ∧ Same H H' ∧ H kl = none ∧ H' kl = some (.lst (six fun i => .ref (kk i))) ∧ ∀ j, j < 6 → H' (kk j) = some (.tup ((keyO j).map kV)), ?_, ?_⟩
    · skip
      refine ⟨(by show 2 ≤ sizeLine; decide), fun t0 h0 => ?_⟩
      refine ⟨(by show 2 ≤ sizeLine; decide), fun t1 h1 => ?_⟩
      refine ⟨(by show 2 ≤ sizeLine; decide), fun t2 h2 => ?_⟩
      refine ⟨(by show 2 ≤ sizeLine; decide), fun t3 h3 => ?_⟩
      refine ⟨(by show 2 ≤ sizeLine; decide), fun t4 h4 => ?_⟩
      refine ⟨(by show 2 ≤ sizeLine; decide), fun t5 h5 => ?_⟩
      refine ⟨(by show 6 ≤ sizeLine; decide), fun kl hk => ?_⟩
      have s0 := Same.new (o := .tup [.int 0, .int 1]) h0
      have s1 := Same.new (o := .tup [.int 0, .int 2]) h1
      have s2 := Same.new (o := .tup [.int 1, .int 0]) h2
      have s3 := Same.new (o := .tup [.int 1, .int 2]) h3
      have s4 := Same.new (o := .tup [.int 2, .int 0]) h4
      have s5 := Same.new (o := .tup [.int 2, .int 1]) h5
      have s6 := Same.new (o := .lst [.ref t0, .ref t1, .ref t2, .ref t3, .ref t4, .ref t5]) hk
      refine ⟨kl, fun i => match i with | 0 => t0 | 1 => t1 | 2 => t2 | 3 => t3 | 4 => t4 | _ => t5, rfl, ((((((s0.trans s1).trans s2).trans s3).trans s4).trans s5).trans s6), (((((s0.trans s1).trans s2).trans s3).trans s4).trans s5).free hk, upd_same, fun j hj => ?_⟩
      match j, hj with
      | 0, _ => exact (((((s1.trans s2).trans s3).trans s4).trans s5).trans s6) _ _ upd_same
      | 1, _ => exact ((((s2.trans s3).trans s4).trans s5).trans s6) _ _ upd_same
      | 2, _ => exact (((s3.trans s4).trans s5).trans s6) _ _ upd_same
      | 3, _ => exact ((s4.trans s5).trans s6) _ _ upd_same
      | 4, _ => exact (s5.trans s6) _ _ upd_same
      | 5, _ => exact s6 _ _ upd_same
    rintro σ H1 ⟨kl, kk, rfl, s1, nk, hkl, kt⟩
    refine fun a1 n1 => ?_
    refine fun a2 n2 => ?_
    refine fun a3 n3 => ?_
    refine fun a4 n4 => ?_
    refine ⟨fun σ H' => ∃ (d : Ad), σ = [some (.ref a0), some (.ref (d.keys)), some (.ref (d.outs)), some (.ref (d.ends)), some (.ref (d.puts)), some (.ref (d.taken)), some (.ref (d.acked)), none, none, none, none, none, none, none, none, none] ∧ BS H kk (okU 0) d.M (cB K kk d 0) H', ?_, ?_⟩
    · refine fun a5 n5 => ?_
      refine ⟨⟨kl, a1, a2, a3, a4, a5, kl, kl, kl, kl, fun _ => kl, fun _ => kl, fun _ => kl, fun _ => kl, fun _ => kl, fun _ => kl, fun _ => kl⟩, rfl, ?_⟩
      have B0 : BS H kk (fun _ => False) (fun _ => kl) (fun _ => .lst []) H1 := ⟨⟨fun _ h => h.elim, fun _ _ h => h.elim, fun _ h => h.elim, s1⟩, kt⟩
      have B1 := B0.add (s0 := .keys) (fun h => h) (fun _ h => h.elim) nk hkl
      have B2 := B1.fresh (s0 := .outs) (.dT []) (by simp) n1
      have B3 := B2.fresh (s0 := .ends) (.dT []) (by simp) n2
      have B4 := B3.fresh (s0 := .puts) (.dT []) (by simp) n3
      have B5 := B4.fresh (s0 := .taken) (.dT []) (by simp) n4
      have B6 := B5.fresh (s0 := .acked) (.dT []) (by simp) n5
      refine ⟨B6.pl.conv ?_ ?_ ?_, B6.kt⟩
      · intro s h
        cases s <;> simp [okU] at h ⊢
      · intro s h
        cases s <;> simp [okU] at h <;> simp [ins, Ad.M]
      · intro s h
        cases s <;> simp [okU] at h <;> simp [ins, cB]
    rintro σ H2 ⟨d0, rfl, B0⟩
    -- for key in keys
    refine ⟨_, rfl, d0.keys, rfl, ⟨_, SqL.of (B0.get .keys trivial rfl rfl)⟩, for_list (K := K) (a := d0.keys) (xs := six fun i => .ref (kk i)) (fun i σ H3 => ∃ (d : Ad) (u7 : Option V), σ = [some (.ref a0), some (.ref (d.keys)), some (.ref (d.outs)), some (.ref (d.ends)), some (.ref (d.puts)), some (.ref (d.taken)), some (.ref (d.acked)), u7, none, none, none, none, none, none, none, none] ∧ d.keys = d0.keys ∧ BS H kk (okU i) d.M (cB K kk d i) H3) ⟨d0, none, rfl, rfl, B0⟩ ?_ ?_ ?_⟩
    · rintro i σ H3 hi ⟨d, u7, rfl, ek, B⟩
      rw [← ek]
      exact SqL.of (B.get .keys trivial rfl rfl)
    · rintro i y σ H3 hy ⟨d, u7, rfl, ek, B⟩
      obtain ⟨hi, rfl⟩ := six_ix hy
      -- outs[key] = Outgoing()
      refine ⟨fun σ H4 => ∃ x l dx : Addr, σ = [some (.ref a0), some (.ref (d.keys)), some (.ref (d.outs)), some (.ref (d.ends)), some (.ref (d.puts)), some (.ref (d.taken)), some (.ref (d.acked)), some (.ref (kk i)), none, none, none, none, none, none, none, none] ∧ BS H kk (fun s => (okU i s ∨ s = .o i) ∨ s = .ol i) (ins (ins d.M (.o i) x) (.ol i) l) (ins (ins (ins (cB K kk d i) (.o i) (.ins (cO K) dx (outf l 0))) (.ol i) (.lst [])) .outs (.dT ((tab fun j => .ref (d.o j)).take i ++ [(keyO i, .ref x)]))) H4, ?_, ?_⟩
      · intro x0 d1 nx0 nd0 e0
        refine ⟨x0, d1, rfl, upd_same, fun l0 H4 R0 fl0 k1 => ⟨rfl, ?_⟩⟩
        have s1 : Same H3 H4 := Same.made nx0 nd0 k1
        obtain ⟨⟨y0, I0⟩, J0⟩ := R0
        have f0 : H3 l0 = Option.none := (Same.trans (Same.new (o := .own x0) nd0) (Same.new (o := .ins (cO K) d1 []) (by rw [upd_ne e0.symm]; exact nx0))).free fl0
        have B1 := B.same s1
        have B3 := B.add2 s1 (s1 := .o i) (s2 := .ol i) (Nat.lt_irrefl i) (Nat.lt_irrefl i) (by intro q; cases q) nx0 f0 (ne_of I0 J0 (by intro q; cases q)) I0 J0
        have B4 := B3.dset .outs (.inl (.inl trivial)) ((tab fun j => .ref (d.o j)).take i ++ [(keyO i, .ref x0)]) (a := d.outs) (kvs := (tab fun j => .ref (d.o j)).take i) (by first | rfl | simp [ins, Ad.M, cB]) (by first | rfl | simp [ins, Ad.M, cB])
        refine ⟨_, rfl, _, rfl, d.outs, _, rfl, dnew (f := fun j => .ref (d.o j)) (.ref x0) (B1.get .outs trivial rfl rfl) (B1.kt i hi) hi, ?_⟩
        exact ⟨x0, l0, y0, rfl, B4⟩
      clear B
      rintro σ H4 ⟨x, l, dx, rfl, B⟩
      -- ends[key] = Incoming()
      refine ⟨fun σ H5 => ∃ y dy : Addr, σ = [some (.ref a0), some (.ref (d.keys)), some (.ref (d.outs)), some (.ref (d.ends)), some (.ref (d.puts)), some (.ref (d.taken)), some (.ref (d.acked)), some (.ref (kk i)), none, none, none, none, none, none, none, none] ∧ BS H kk (fun s => ((okU i s ∨ s = .o i) ∨ s = .ol i) ∨ s = .e i) (ins (ins (ins d.M (.o i) x) (.ol i) l) (.e i) y) (ins (ins (ins (ins (ins (cB K kk d i) (.o i) (.ins (cO K) dx (outf l 0))) (.ol i) (.lst [])) .outs (.dT ((tab fun j => .ref (d.o j)).take i ++ [(keyO i, .ref x)]))) (.e i) (.ins (cI K) dy (inf 0))) .ends (.dT ((tab fun j => .ref (d.e j)).take i ++ [(keyO i, .ref y)]))) H5, ?_, ?_⟩
      · intro x0 d1 nx0 nd0 e0
        refine ⟨x0, d1, rfl, upd_same, fun H5 R0 k1 => ⟨rfl, ?_⟩⟩
        have s1 : Same H4 H5 := Same.made nx0 nd0 k1
        obtain ⟨y0, I0⟩ := R0
        have B1 := B.same s1
        have B3 := B1.add (s0 := .e i) (by simp [okU]) (fun s h => ne_of_none (B.pl.at_ s h) nx0) (B.pl.sm.free nx0) I0
        have B4 := B3.dset .ends (.inl (.inl (.inl trivial))) ((tab fun j => .ref (d.e j)).take i ++ [(keyO i, .ref x0)]) (a := d.ends) (kvs := (tab fun j => .ref (d.e j)).take i) (by first | rfl | simp [ins, Ad.M, cB]) (by first | rfl | simp [ins, Ad.M, cB])
        refine ⟨_, rfl, _, rfl, d.ends, _, rfl, dnew (f := fun j => .ref (d.e j)) (.ref x0) (B1.get .ends (.inl (.inl trivial)) (by first | rfl | simp [ins, Ad.M, cB]) (by first | rfl | simp [ins, Ad.M, cB])) (B1.kt i hi) hi, ?_⟩
        exact ⟨x0, y0, rfl, B4⟩
      clear B
      rintro σ H5 ⟨y, dy, rfl, B⟩
      -- puts[key] = []
      refine ⟨fun σ H6 => ∃ p : Addr, σ = [some (.ref a0), some (.ref (d.keys)), some (.ref (d.outs)), some (.ref (d.ends)), some (.ref (d.puts)), some (.ref (d.taken)), some (.ref (d.acked)), some (.ref (kk i)), none, none, none, none, none, none, none, none] ∧ BS H kk (fun s => (((okU i s ∨ s = .o i) ∨ s = .ol i) ∨ s = .e i) ∨ s = .p i) (ins (ins (ins (ins d.M (.o i) x) (.ol i) l) (.e i) y) (.p i) p) (ins (ins (ins (ins (ins (ins (ins (cB K kk d i) (.o i) (.ins (cO K) dx (outf l 0))) (.ol i) (.lst [])) .outs (.dT ((tab fun j => .ref (d.o j)).take i ++ [(keyO i, .ref x)]))) (.e i) (.ins (cI K) dy (inf 0))) .ends (.dT ((tab fun j => .ref (d.e j)).take i ++ [(keyO i, .ref y)]))) (.p i) (.lst [])) .puts (.dT ((tab fun j => .ref (d.p j)).take i ++ [(keyO i, .ref p)]))) H6, ?_, ?_⟩
      · refine ⟨Nat.zero_le _, fun p hp => ?_⟩
        have B3 := B.fresh (s0 := .p i) (.lst []) (by simp [okU]) hp
        have B4 := B3.dset .puts (.inl (.inl (.inl (.inl trivial)))) ((tab fun j => .ref (d.p j)).take i ++ [(keyO i, .ref p)]) (a := d.puts) (kvs := (tab fun j => .ref (d.p j)).take i) (by first | rfl | simp [ins, Ad.M, cB]) (by first | rfl | simp [ins, Ad.M, cB])
        refine ⟨_, rfl, _, rfl, d.puts, _, rfl, dnew (f := fun j => .ref (d.p j)) (.ref p) (B3.get .puts (.inl (.inl (.inl (.inl trivial)))) (by first | rfl | simp [ins, Ad.M, cB]) (by first | rfl | simp [ins, Ad.M, cB])) (B3.kt i hi) hi, ?_⟩
        exact ⟨p, rfl, B4⟩
      clear B
      rintro σ H6 ⟨p, rfl, B⟩
      -- taken[key] = []
      refine ⟨fun σ H7 => ∃ t : Addr, σ = [some (.ref a0), some (.ref (d.keys)), some (.ref (d.outs)), some (.ref (d.ends)), some (.ref (d.puts)), some (.ref (d.taken)), some (.ref (d.acked)), some (.ref (kk i)), none, none, none, none, none, none, none, none] ∧ BS H kk (fun s => ((((okU i s ∨ s = .o i) ∨ s = .ol i) ∨ s = .e i) ∨ s = .p i) ∨ s = .t i) (ins (ins (ins (ins (ins d.M (.o i) x) (.ol i) l) (.e i) y) (.p i) p) (.t i) t) (ins (ins (ins (ins (ins (ins (ins (ins (ins (cB K kk d i) (.o i) (.ins (cO K) dx (outf l 0))) (.ol i) (.lst [])) .outs (.dT ((tab fun j => .ref (d.o j)).take i ++ [(keyO i, .ref x)]))) (.e i) (.ins (cI K) dy (inf 0))) .ends (.dT ((tab fun j => .ref (d.e j)).take i ++ [(keyO i, .ref y)]))) (.p i) (.lst [])) .puts (.dT ((tab fun j => .ref (d.p j)).take i ++ [(keyO i, .ref p)]))) (.t i) (.lst [])) .taken (.dT ((tab fun j => .ref (d.t j)).take i ++ [(keyO i, .ref t)]))) H7, ?_, ?_⟩
      · refine ⟨Nat.zero_le _, fun t ht => ?_⟩
        have B3 := B.fresh (s0 := .t i) (.lst []) (by simp [okU]) ht
        have B4 := B3.dset .taken (.inl (.inl (.inl (.inl (.inl trivial))))) ((tab fun j => .ref (d.t j)).take i ++ [(keyO i, .ref t)]) (a := d.taken) (kvs := (tab fun j => .ref (d.t j)).take i) (by first | rfl | simp [ins, Ad.M, cB]) (by first | rfl | simp [ins, Ad.M, cB])
        refine ⟨_, rfl, _, rfl, d.taken, _, rfl, dnew (f := fun j => .ref (d.t j)) (.ref t) (B3.get .taken (.inl (.inl (.inl (.inl (.inl trivial))))) (by first | rfl | simp [ins, Ad.M, cB]) (by first | rfl | simp [ins, Ad.M, cB])) (B3.kt i hi) hi, ?_⟩
        exact ⟨t, rfl, B4⟩
      clear B
      rintro σ H7 ⟨t, rfl, B⟩
      -- acked[key] = 0
      have B4 := B.dset .acked (.inl (.inl (.inl (.inl (.inl trivial))))) ((tab fun _ => .int 0).take i ++ [(keyO i, .int 0)]) (a := d.acked) (kvs := (tab fun _ => .int 0).take i) (by first | rfl | simp [ins, Ad.M, cB]) (by first | rfl | simp [ins, Ad.M, cB])
      refine ⟨_, rfl, _, rfl, d.acked, _, rfl, dnew (f := fun _ => .int 0) (.int 0) (B.get .acked (.inl (.inl (.inl (.inl (.inl trivial))))) (by first | rfl | simp [ins, Ad.M, cB]) (by first | rfl | simp [ins, Ad.M, cB])) (B.kt i hi) hi, ?_⟩
      exact ⟨{ d with o := put1 d.o i x, ol := put1 d.ol i l, e := put1 d.e i y, p := put1 d.p i p, t := put1 d.t i t, dO := put1 d.dO i dx, dE := put1 d.dE i dy }, _, rfl, ek, B4.turn hi⟩
    rintro σ H3 ⟨d, u7, rfl, ek, B⟩
    -- net = Network()
    intro x0 d1 nx0 nd0 e0
    refine ⟨x0, d1, rfl, upd_same, fun l0 H4 R0 fl0 k1 => ⟨rfl, ?_⟩⟩
    have s1 : Same H3 H4 := Same.made nx0 nd0 k1
    obtain ⟨⟨y0, I0⟩, J0⟩ := R0
    have f0 : H3 l0 = Option.none := (Same.trans (Same.new (o := .own x0) nd0) (Same.new (o := .ins (cN K) d1 []) (by rw [upd_ne e0.symm]; exact nx0))).free fl0
    have B3 := B.add2 s1 (s1 := .net) (s2 := .nl) (fun h => h) (fun h => h) (by intro q; cases q) nx0 f0 (ne_of I0 J0 (by intro q; cases q)) I0 J0
    -- bag = []
    refine ⟨fun σ H5 => ∃ (M D : Sl → Addr), σ = [some (.ref a0), some (.ref (M .keys)), some (.ref (M .outs)), some (.ref (M .ends)), some (.ref (M .puts)), some (.ref (M .taken)), some (.ref (M .acked)), u7, some (.ref (M .net)), some (.ref (M .bag)), none, none, none, none, none, none] ∧ Sep H M ∧ Sta K H M D kk H5 v00, ?_, ?_⟩
    · refine ⟨Nat.zero_le _, fun b hb => ?_⟩
      have B5 := B3.fresh (s0 := .bag) (.lst []) (by simp [okU]) hb
      obtain ⟨M, D, S, R, e1, e2, e3, e4, e5, e6, e7, e8⟩ := BS.done B5
      exact ⟨M, D, by rw [e1, e2, e3, e4, e5, e6, e7, e8]; rfl, S, R⟩
    clear B B3
    rintro σ H5 ⟨M, D, rfl, S, R⟩
    -- for j in range(len(script))
    have el : (ns.map V.int).length = ns.length := List.length_map ..
    have hsz : (100000 : Nat) < sizeLine := by decide
    refine ⟨_, rfl, a0, _, rfl, .inl (R.sm.seq hS), ?_⟩
    refine ⟨_, rfl, by rw [el]; omega, by rw [el]; omega, ?_⟩
    refine for_range (lo := 0) (n := ((ns.map V.int).length : Int).toNat) (fun j σ H5 => ∃ (u7 u10 u11 u12 u13 u14 u15 : Option V) (v : Vs) (D : Sl → Addr), σ = [some (.ref a0), some (.ref (M .keys)), some (.ref (M .outs)), some (.ref (M .ends)), some (.ref (M .puts)), some (.ref (M .taken)), some (.ref (M .acked)), u7, some (.ref (M .net)), some (.ref (M .bag)), u10, u11, u12, u13, u14, u15] ∧ Sta K H M D kk H5 v ∧ (∀ i, i < 6 → (v.P i).length ≤ 126 * j) ∧ v.ps.length ≤ 16400 + j)
      ⟨_, none, none, none, none, none, none, v00, D, rfl, R, fun i hi => Nat.le_refl _, Nat.zero_le _⟩ ?_ ?_
    · clear R
      rintro j σ H5 hj ⟨u7, u10, u11, u12, u13, u14, u15, v, D, rfl, R, hb, hz⟩
      have hjl : j < ns.length := by rw [el] at hj; omega
      obtain ⟨c, hc⟩ : ∃ c, ns[j]? = some c := ⟨ns[j], List.getElem?_eq_getElem hjl⟩
      refine ⟨_, rfl, _, rfl, a0, _, _, _, rfl, rfl, R.sm.seq hS, at_map (j := j) (by omega) hc, _, rfl, _, _, rfl, fun part => ?_⟩
      refine ⟨_, rfl, .inl ⟨_, rfl, _, _, rfl, rfl, (by show (0 : Int) < 9; decide), ?_⟩⟩
      refine ⟨_, rfl, _, _, rfl, rfl, ⟨by decide, by decide⟩, .inl ⟨_, rfl, ?_⟩⟩
      have hP8 : ∀ i, i < 6 → (v.P i).length ≤ 8000 := fun i hi => by have := hb i hi; omega
      have hbag : H5 (M .bag) = some (.lst v.ys) := R.at_ .bag trivial
      have ly : v.ys.length = v.ps.length := R.ly
      have lx : v.xs.length = v.ps.length := R.lx
      have nbl : M .bag ≠ M .nl := S.inj _ _ trivial trivial (by intro q; cases q)
      refine ⟨fun σ H6 => ∃ (w7 w15 : Option V) (v' : Vs) (D' : Sl → Addr), σ = [some (.ref a0), some (.ref (M .keys)), some (.ref (M .outs)), some (.ref (M .ends)), some (.ref (M .puts)), some (.ref (M .taken)), some (.ref (M .acked)), w7, some (.ref (M .net)), some (.ref (M .bag)), some (.int (0 + (j : Int))), some (.int part), some (.int (part % 9)), some (.int (part / 9)), some (.bl true), w15] ∧ Sta K H M D' kk H6 v' ∧ (∀ i, i < 6 → (v'.P i).length ≤ 126 * (j + 1)) ∧ v'.ps.length ≤ 16400 + (j + 1), ?_, ?_⟩
      · refine ⟨_, rfl, _, _, rfl, rfl, _, rfl, ?_⟩
        refine ite2 (fun c1 => ?_) (fun c1 => ?_)
        · obtain ⟨i, hi, ei⟩ : ∃ i : Nat, i < 6 ∧ part / 9 % 6 = (i : Int) := by
            have a1 : 0 ≤ part / 9 % 6 := Int.emod_nonneg _ (by decide)
            have a2 : part / 9 % 6 < 6 := Int.emod_lt_of_pos _ (by decide)
            exact ⟨(part / 9 % 6).toNat, by omega, by omega⟩
          have kb := R.kt i hi
          refine ⟨_, rfl, _, rfl, _, _, rfl, rfl, (by show (0 : Int) < 6; decide), M .keys, _, _, _, rfl, rfl, SqL.of (R.at_ .keys trivial), at_of (j := i) ei (six_at _ hi), ?_⟩
          refine ⟨_, rfl, _, rfl, M .outs, _, rfl, R.gO hi kb, _, rfl, _, rfl, M .puts, _, rfl, R.gP hi kb, _, rfl, _, _, rfl, rfl, ⟨by decide, by decide⟩, M (.o i), M (.ol i), M (.p i), v.P i, v.A i, _, rfl, ⟨R.outAt hi, R.at_ (.p i) hi, R.dt i hi, fun _ _ e _ _ => e⟩, S.inj _ _ hi hi (by intro q; cases q), Nat.le_trans (R.at1 i hi).1 (R.at1 i hi).2, hP8 i hi, fun ws H6 hw B => ?_⟩
          obtain ⟨D', R'⟩ := R.put S hi B
          refine ⟨_, _, { v with P := put1 v.P i (v.P i ++ ws) }, D', rfl, R', fun i' hi' => ?_, by show v.ps.length ≤ _; omega⟩
          show (put1 v.P i (v.P i ++ ws) i').length ≤ _
          have h1 := hb i' hi'
          by_cases e : i' = i
          · subst e
            rw [put1_same, List.length_append]
            omega
          · rw [put1_ne _ _ e]
            omega
        have c1 : ¬ part % 9 < 3 := fun z => c1 (decide_eq_true z)
        refine ⟨_, rfl, rfl, _, rfl, ?_⟩
        refine ite2 (fun c2 => ?_) (fun c2 => ?_)
        · -- if len(bag) <= 400
          refine ⟨_, rfl, M .bag, _, rfl, .inl (SqL.of hbag), _, _, rfl, rfl, _, rfl, ?_⟩
          refine ite2 (fun c3 => ?_) (fun c3 => ?_)
          · have c3 : (v.ys.length : Int) ≤ 400 := of_decide_eq_true c3
            obtain ⟨s, hs, es⟩ : ∃ s : Nat, s < 3 ∧ part / 9 % 3 = (s : Int) := by
              have a1 : 0 ≤ part / 9 % 3 := Int.emod_nonneg _ (by decide)
              have a2 : part / 9 % 3 < 3 := Int.emod_lt_of_pos _ (by decide)
              exact ⟨(part / 9 % 3).toNat, by omega, by omega⟩
            refine ⟨_, rfl, _, rfl, _, rfl, _, rfl, _, rfl, _, rfl, _, _, rfl, rfl, (by show (0 : Int) < 3; decide), H, M, D, kk, v, s, congrArg (fun z : Int => ([V.ref (M .outs), V.ref (M .puts), V.ref (M .acked), V.ref (M .net), V.ref (M .bag), V.int z] : List V)) es, S, R, hs, hP8, by omega, fun xs ys H6 R6 => ?_⟩
            refine ⟨_, _, { v with xs := xs, ys := ys, ps := v.ps ++ sent v.P v.A s 3 }, D, rfl, R6, fun i hi => by have := hb i hi; show (v.P i).length ≤ _; omega, ?_⟩
            have l := sent_len (A := v.A) hs hP8 3 (by omega)
            rw [if_pos hs] at l
            show (v.ps ++ sent v.P v.A s 3).length ≤ _
            rw [List.length_append]
            omega
          · exact ⟨_, _, v, D, rfl, R, fun i hi => by have := hb i hi; omega, by omega⟩
        have c2 : ¬ part % 9 = 3 := fun z => c2 (decide_eq_true (by show V.int (part % 9) = V.int 3; rw [z]))
        obtain ⟨be, hbe⟩ : ∃ be, v.ys.isEmpty = be := ⟨_, rfl⟩
        have hpos : be = false → 0 < v.ps.length := fun z => by
          subst z
          cases e : v.ys with
          | nil => rw [e] at hbe; cases hbe
          | cons q r => rw [← ly, e]; exact Nat.succ_pos _
        obtain ⟨dx, p1⟩ := R.netAt.ob
        refine ⟨_, rfl, rfl, _, rfl, ?_⟩
        refine ite2 (fun c4 => ?_) (fun c4 => ?_)
        · have c4 : part % 9 = 4 := by
            have q := of_decide_eq_true c4
            injection q
          refine ⟨_, rfl, !v.ys.isEmpty, .inl ⟨v.ys, SqL.of hbag, rfl⟩, ?_⟩
          rw [hbe]
          cases be with
          | true =>
            refine iteF ?_
            refine ⟨_, rfl, rfl, _, rfl, ?_⟩
            rw [decide_eq_false (by intro q; injection q with q; omega)]
            refine iteF ?_
            refine ⟨_, rfl, _, _, rfl, rfl, _, rfl, ?_⟩
            rw [decide_eq_false (by omega)]
            refine iteF ?_
            exact ⟨_, _, v, D, rfl, R, fun i hi => by have := hb i hi; omega, by omega⟩
          | false =>
            refine iteT ?_
            have hp := hpos rfl
            obtain ⟨jx, hjx, ej⟩ : ∃ jx : Nat, jx < v.ps.length ∧ part / 9 % (v.ys.length : Int) = (jx : Int) := by
              have a1 : 0 ≤ part / 9 % (v.ys.length : Int) := Int.emod_nonneg _ (by omega)
              have a2 : part / 9 % (v.ys.length : Int) < (v.ys.length : Int) := Int.emod_lt_of_pos _ (by omega)
              exact ⟨(part / 9 % (v.ys.length : Int)).toNat, by omega, by omega⟩
            refine ⟨_, rfl, _, rfl, _, rfl, _, rfl, M .bag, _, rfl, .inl (SqL.of hbag), _, _, rfl, rfl, (by show (0 : Int) < (v.ys.length : Int); omega), H, M, D, kk, v, jx, congrArg (fun z : Int => ([V.ref (M .net), V.ref (M .bag), V.int z] : List V)) ej, S, R, hjx, by omega, fun H6 R6 => ?_⟩
            have := List.length_eraseIdx_le v.ps jx
            exact ⟨_, _, { v with xs := v.xs.eraseIdx jx, ys := v.ys.eraseIdx jx, ps := v.ps.eraseIdx jx }, D, rfl, R6, fun i hi => by have := hb i hi; show (v.P i).length ≤ _; omega, by show (v.ps.eraseIdx jx).length ≤ _; omega⟩
        have c4 : ¬ part % 9 = 4 := fun z => c4 (decide_eq_true (by show V.int (part % 9) = V.int 4; rw [z]))
        refine ⟨_, rfl, rfl, _, rfl, ?_⟩
        refine ite2 (fun c5 => ?_) (fun c5 => ?_)
        · have c5 : part % 9 = 5 := by
            have q := of_decide_eq_true c5
            injection q
          refine ⟨_, rfl, !v.ys.isEmpty, .inl ⟨v.ys, SqL.of hbag, rfl⟩, ?_⟩
          rw [hbe]
          cases be with
          | true =>
            refine iteF ?_
            refine ⟨_, rfl, _, _, rfl, rfl, _, rfl, ?_⟩
            rw [decide_eq_false (by omega)]
            refine iteF ?_
            exact ⟨_, _, v, D, rfl, R, fun i hi => by have := hb i hi; omega, by omega⟩
          | false =>
            refine iteT ?_
            have hp := hpos rfl
            obtain ⟨jx, hjx, ej⟩ : ∃ jx : Nat, jx < v.ps.length ∧ part / 9 % (v.ys.length : Int) = (jx : Int) := by
              have a1 : 0 ≤ part / 9 % (v.ys.length : Int) := Int.emod_nonneg _ (by omega)
              have a2 : part / 9 % (v.ys.length : Int) < (v.ys.length : Int) := Int.emod_lt_of_pos _ (by omega)
              exact ⟨(part / 9 % (v.ys.length : Int)).toNat, by omega, by omega⟩
            refine ⟨_, rfl, M .net, dx, _, rfl, p1, netf_no _ (by decide +kernel), _, rfl, _, rfl, M .bag, _, rfl, .inl (SqL.of hbag), _, _, rfl, rfl, (by show (0 : Int) < (v.ys.length : Int); omega), M .net, M .nl, v.xs, part / 9 % (v.ys.length : Int), rfl, R.netAt, by omega, fun z => absurd ⟨by omega, by omega⟩ z, fun j' x ej' hx => ?_⟩
            have ejj : j' = jx := by omega
            subst ejj
            obtain ⟨q, hq⟩ : ∃ q, v.ps[j']? = some q := ⟨_, List.getElem?_eq_getElem hjx⟩
            obtain ⟨y, hy⟩ : ∃ y, v.ys[j']? = some y := ⟨_, List.getElem?_eq_getElem (by omega)⟩
            have hb' : (upd H5 (M .nl) (.lst (v.xs ++ [x]))) (M .bag) = some (.lst v.ys) := by rw [upd_ne nbl]; exact hbag
            refine ⟨_, rfl, .inl ⟨rfl, _, SqL.of hb'⟩, _, rfl, _, rfl, _, rfl, M .bag, _, rfl, .inl (SqL.of hb'), _, _, rfl, rfl, (by show (0 : Int) < (v.ys.length : Int); omega), M .bag, _, _, y, rfl, rfl, SqL.of hb', at_of ej hy, M .bag, _, _, rfl, rfl, hb', by omega, ?_⟩
            exact ⟨_, _, { v with xs := v.xs ++ [x], ys := v.ys ++ [y], ps := v.ps ++ [q] }, D, rfl, R.rep S hq hx hy, fun i hi => by have := hb i hi; show (v.P i).length ≤ _; omega, by show (v.ps ++ [q]).length ≤ _; rw [List.length_append, List.length_singleton]; omega⟩
        have c5 : ¬ part % 9 = 5 := fun z => c5 (decide_eq_true (by show V.int (part % 9) = V.int 5; rw [z]))
        refine ⟨_, rfl, _, _, rfl, rfl, _, rfl, ?_⟩
        refine ite2 (fun c6 => ?_) (fun c6 => ?_)
        · have b1 : 0 ≤ part / 9 % 4 := Int.emod_nonneg _ (by decide)
          have b2 : part / 9 % 4 < 4 := Int.emod_lt_of_pos _ (by decide)
          refine ⟨_, rfl, _, _, rfl, rfl, (by show (0 : Int) < 4; decide), _, _, rfl, rfl, _, rfl, by omega, by omega, ?_⟩
          refine for_range (lo := 0) (n := (1 + part / 9 % 4).toNat) (fun m σ H6 => ∃ (w15 : Option V) (v' : Vs) (D' : Sl → Addr), σ = [some (.ref a0), some (.ref (M .keys)), some (.ref (M .outs)), some (.ref (M .ends)), some (.ref (M .puts)), some (.ref (M .taken)), some (.ref (M .acked)), u7, some (.ref (M .net)), some (.ref (M .bag)), some (.int (0 + (j : Int))), some (.int part), some (.int (part % 9)), some (.int (part / 9)), some (.bl true), w15] ∧ Sta K H M D' kk H6 v' ∧ v'.P = v.P ∧ v'.ps.length ≤ v.ps.length) ⟨_, v, D, rfl, R, rfl, Nat.le_refl _⟩ ?_ ?_
          · rintro m σ H6 hm ⟨w15, v', D', rfl, R', eP, hl⟩
            have hbag' : H6 (M .bag) = some (.lst v'.ys) := R'.at_ .bag trivial
            have ly' : v'.ys.length = v'.ps.length := R'.ly
            refine ⟨_, rfl, !v'.ys.isEmpty, .inl ⟨v'.ys, SqL.of hbag', rfl⟩, ?_⟩
            cases e : v'.ys with
            | nil =>
              refine iteF ?_
              exact ⟨_, v', D', rfl, R', eP, hl⟩
            | cons y0 r0 =>
              have hp : 0 < v'.ps.length := by rw [← ly', e]; exact Nat.succ_pos _
              refine iteT ⟨_, rfl, true, rfl, iteT ?_⟩
              obtain ⟨jx, hjx, ej⟩ : ∃ jx : Nat, jx < v'.ps.length ∧ (part / 9 / 4 + 7 * (0 + (m : Int))) % (v'.ys.length : Int) = (jx : Int) := by
                have a1 : 0 ≤ (part / 9 / 4 + 7 * (0 + (m : Int))) % (v'.ys.length : Int) := Int.emod_nonneg _ (by omega)
                have a2 : (part / 9 / 4 + 7 * (0 + (m : Int))) % (v'.ys.length : Int) < (v'.ys.length : Int) := Int.emod_lt_of_pos _ (by omega)
                exact ⟨((part / 9 / 4 + 7 * (0 + (m : Int))) % (v'.ys.length : Int)).toNat, by omega, by omega⟩
              refine ⟨_, rfl, _, rfl, _, rfl, _, rfl, _, rfl, _, rfl, _, rfl, _, _, rfl, rfl, ⟨by decide, by decide⟩, _, rfl, _, _, rfl, rfl, .inl ⟨by decide, by decide⟩, _, _, rfl, rfl, _, rfl, M .bag, _, rfl, .inl (SqL.of hbag'), _, _, rfl, rfl, (by show (0 : Int) < (v'.ys.length : Int); omega), H, M, D', kk, v', jx, congrArg (fun z : Int => ([V.ref (M .outs), V.ref (M .ends), V.ref (M .taken), V.ref (M .acked), V.ref (M .net), V.ref (M .bag), V.int z] : List V)) ej, S, R', hjx, by omega, by rw [eP]; exact hP8, fun v2 D2 H7 d R2 => ?_⟩
              exact ⟨_, v2, D2, rfl, R2, by rw [d.P, eP], Nat.le_trans d.len hl⟩
          · rintro σ H6 ⟨w15, v', D', rfl, R', eP, hl⟩
            exact ⟨_, _, v', D', rfl, R', fun i hi => by have := hb i hi; rw [eP]; omega, by omega⟩
        · exact ⟨_, _, v, D, rfl, R, fun i hi => by have := hb i hi; omega, by omega⟩
      clear R hb hz hP8 hbag ly lx
      rintro σ H6 ⟨w7, w15, v, D, rfl, R, hb, hz⟩
      have hP8 : ∀ i, i < 6 → (v.P i).length ≤ 8000 := fun i hi => by have := hb i hi; omega
      -- if not good or net.packets() != bag
      refine ⟨_, rfl, true, rfl, iteF ?_⟩
      obtain ⟨dx, p1⟩ := R.netAt.ob
      refine ⟨_, rfl, M .net, dx, _, rfl, p1, netf_no _ (by decide +kernel), M .net, M .nl, v.xs, rfl, R.netAt, fun q nq => ?_⟩
      have R7 := R.same (Same.new (o := .lst v.xs) nq)
      have hq : (upd H6 q (.lst v.xs)) q = some (.lst v.xs) := upd_same
      revert R7 hq
      generalize upd H6 q (.lst v.xs) = H7
      intro R7 hq
      obtain ⟨ds, d1, d2, sh, ev⟩ := (Rep.tws R7.dt R7.rx R7.ry R7.gd).dat (K := K) (by decide)
      refine ⟨_, rfl, _, _, .lst (SqL.of hq) d1, .lst (SqL.of (R7.at_ .bag trivial)) d2, sh, sh, _, rfl, ?_⟩
      rw [ev]
      refine iteF ?_
      refine ⟨_, rfl, _, rfl, _, rfl, _, rfl, _, rfl, _, rfl, H, M, D, kk, v, rfl, R7, hP8, fun H8 s8 => ?_⟩
      refine ⟨_, rfl, iteF ?_⟩
      exact ⟨_, _, _, _, _, _, _, v, D, rfl, R7.same s8, hb, hz⟩
    · clear R
      rintro σ H5 ⟨u7, u10, u11, u12, u13, u14, u15, v, D, rfl, R, hb, hz⟩
      rw [el] at hb hz
      exact ⟨_, rfl, _, rfl, _, rfl, _, rfl, _, rfl, _, rfl, _, rfl, _, rfl, H, M, D, kk, v, rfl, S, R, fun i hi => by have := hb i hi; omega, by omega, fun H6 => k _⟩
end
/-! ### the head -/
def d_check_index : Fh.Dx := ⟨fun K => (He.ga K "check_index"), "check_index", "check_index", defArgs s_check_index, defBody s_check_index, defScope s_check_index, [], []⟩
def d_Outgoing_init : Fh.Dx := ⟨fun K => (He.ma K (He.ga K "Outgoing") "__init__"), "__init__", "Outgoing.__init__", defArgs s_Outgoing_init, defBody s_Outgoing_init, defScope s_Outgoing_init, [], []⟩
def d_Outgoing_put : Fh.Dx := ⟨fun K => (He.ma K (He.ga K "Outgoing") "put"), "put", "Outgoing.put", defArgs s_Outgoing_put, defBody s_Outgoing_put, defScope s_Outgoing_put, [], []⟩
def d_Outgoing_due : Fh.Dx := ⟨fun K => (He.ma K (He.ga K "Outgoing") "due"), "due", "Outgoing.due", defArgs s_Outgoing_due, defBody s_Outgoing_due, defScope s_Outgoing_due, [], []⟩
def d_Outgoing_acknowledge : Fh.Dx := ⟨fun K => (He.ma K (He.ga K "Outgoing") "acknowledge"), "acknowledge", "Outgoing.acknowledge", defArgs s_Outgoing_acknowledge, defBody s_Outgoing_acknowledge, defScope s_Outgoing_acknowledge, [], []⟩
def d_Outgoing_put_count : Fh.Dx := ⟨fun K => (Fh.pgA K (He.ga K "Outgoing") "put_count"), "put_count", "Outgoing.put_count", defArgs s_Outgoing_put_count, defBody s_Outgoing_put_count, defScope s_Outgoing_put_count, [], []⟩
def d_Outgoing_acknowledged : Fh.Dx := ⟨fun K => (Fh.pgA K (He.ga K "Outgoing") "acknowledged"), "acknowledged", "Outgoing.acknowledged", defArgs s_Outgoing_acknowledged, defBody s_Outgoing_acknowledged, defScope s_Outgoing_acknowledged, [], []⟩
def d_Incoming_init : Fh.Dx := ⟨fun K => (He.ma K (He.ga K "Incoming") "__init__"), "__init__", "Incoming.__init__", defArgs s_Incoming_init, defBody s_Incoming_init, defScope s_Incoming_init, [], []⟩
def d_Incoming_accepts : Fh.Dx := ⟨fun K => (He.ma K (He.ga K "Incoming") "accepts"), "accepts", "Incoming.accepts", defArgs s_Incoming_accepts, defBody s_Incoming_accepts, defScope s_Incoming_accepts, [], []⟩
def d_Incoming_accept : Fh.Dx := ⟨fun K => (He.ma K (He.ga K "Incoming") "accept"), "accept", "Incoming.accept", defArgs s_Incoming_accept, defBody s_Incoming_accept, defScope s_Incoming_accept, [], []⟩
def d_Network_init : Fh.Dx := ⟨fun K => (He.ma K (He.ga K "Network") "__init__"), "__init__", "Network.__init__", defArgs s_Network_init, defBody s_Network_init, defScope s_Network_init, [], []⟩
def d_Network_len : Fh.Dx := ⟨fun K => (He.ma K (He.ga K "Network") "__len__"), "__len__", "Network.__len__", defArgs s_Network_len, defBody s_Network_len, defScope s_Network_len, [], []⟩
def d_Network_iter : Fh.Dx := ⟨fun K => (He.ma K (He.ga K "Network") "__iter__"), "__iter__", "Network.__iter__", defArgs s_Network_iter, defBody s_Network_iter, defScope s_Network_iter, [], []⟩
def d_Network_post : Fh.Dx := ⟨fun K => (He.ma K (He.ga K "Network") "post"), "post", "Network.post", defArgs s_Network_post, defBody s_Network_post, defScope s_Network_post, [], []⟩
def d_Network_take_out : Fh.Dx := ⟨fun K => (He.ma K (He.ga K "Network") "take_out"), "take_out", "Network.take_out", defArgs s_Network_take_out, defBody s_Network_take_out, defScope s_Network_take_out, [], []⟩
def d_Network_repeat : Fh.Dx := ⟨fun K => (He.ma K (He.ga K "Network") "repeat"), "repeat", "Network.repeat", defArgs s_Network_repeat, defBody s_Network_repeat, defScope s_Network_repeat, [], []⟩
def d_Network_packets : Fh.Dx := ⟨fun K => (He.ma K (He.ga K "Network") "packets"), "packets", "Network.packets", defArgs s_Network_packets, defBody s_Network_packets, defScope s_Network_packets, [], []⟩
def d_law_number : Fh.Dx := ⟨fun K => (He.ga K "_law_number"), "_law_number", "_law_number", defArgs s_law_number, defBody s_law_number, defScope s_law_number, [], []⟩
def d_law_send : Fh.Dx := ⟨fun K => (He.ga K "_law_send"), "_law_send", "_law_send", defArgs s_law_send, defBody s_law_send, defScope s_law_send, [], []⟩
def d_law_take : Fh.Dx := ⟨fun K => (He.ga K "_law_take"), "_law_take", "_law_take", defArgs s_law_take, defBody s_law_take, defScope s_law_take, [], []⟩
def d_law_deliver : Fh.Dx := ⟨fun K => (He.ga K "_law_deliver"), "_law_deliver", "_law_deliver", defArgs s_law_deliver, defBody s_law_deliver, defScope s_law_deliver, [], []⟩
def d_law_holds : Fh.Dx := ⟨fun K => (He.ga K "_law_holds"), "_law_holds", "_law_holds", defArgs s_law_holds, defBody s_law_holds, defScope s_law_holds, [], []⟩
def d_law_put : Fh.Dx := ⟨fun K => (He.ga K "_law_put"), "_law_put", "_law_put", defArgs s_law_put, defBody s_law_put, defScope s_law_put, [], []⟩
def d_law_ends_well : Fh.Dx := ⟨fun K => (He.ga K "_law_ends_well"), "_law_ends_well", "_law_ends_well", defArgs s_law_ends_well, defBody s_law_ends_well, defScope s_law_ends_well, [], []⟩
def d_law : Fh.Dx := ⟨fun K => (He.ga K "law"), "law", "law", defArgs s_law, defBody s_law, defScope s_law, [], []⟩
def fn : List Fh.Dx := [d_check_index, d_Outgoing_init, d_Outgoing_put, d_Outgoing_due, d_Outgoing_acknowledge, d_Outgoing_put_count, d_Outgoing_acknowledged, d_Incoming_init, d_Incoming_accepts, d_Incoming_accept, d_Network_init, d_Network_len, d_Network_iter, d_Network_post, d_Network_take_out, d_Network_repeat, d_Network_packets, d_law_number, d_law_send, d_law_take, d_law_deliver, d_law_holds, d_law_put, d_law_ends_well, d_law]
def ex : List (PySem.W.Frag → Bool) := [Fh.propB "Outgoing" "put_count", Fh.propB "Outgoing" "acknowledged"]
def fa : List He.Fa := [.glo "FarheapError", .glo "Unknown", .glo "Outgoing", .cls "Outgoing", .noat "Outgoing" "_letters", .noat "Outgoing" "_acknowledged", .glo "Incoming", .cls "Incoming", .noat "Incoming" "count", .glo "Network", .cls "Network", .noat "Network" "_packets", .glo "check_index", .mkr "Outgoing", .meth "Outgoing" "put", .meth "Outgoing" "due", .meth "Outgoing" "acknowledge", .mkr "Incoming", .meth "Incoming" "accepts", .meth "Incoming" "accept", .mkr "Network", .meth "Network" "__len__", .meth "Network" "__iter__", .meth "Network" "post", .meth "Network" "take_out", .meth "Network" "repeat", .meth "Network" "packets", .glo "_law_number", .glo "_law_send", .glo "_law_take", .glo "_law_deliver", .glo "_law_holds", .glo "_law_put", .glo "_law_ends_well", .glo "law", .free "list", .free "enumerate", .free "min", .free "len", .free "property", .free "iter", .free "int", .free "range", .free "isinstance", .free "tuple", .free "max", .exc "Unknown"]
abbrev R : PySem.W.OpenRow := PySem.W.OpenLaw.row PySem.Challenge.rw_farheap_k04_whole_letters_once_in_order
abbrev hk : PySem.W.Hook := Fh.hookX 7 fa ex fn
def ob (s : PySem.W.SharedT) : He.AlD := Fh.obsXG 7 fa ex fn (HandSHeadRun.getT s)
theorem ob_eq (s : PySem.W.SharedT) : ob s = hk.obs s.abs := Fh.obsXG_eq (HandSHeadRun.getT_eq s)
theorem run (w : World) : HandSHeadRun.RunEq R (PySem.W.view R.prog [17]) hk ob 3000 ["FarheapError", "Unknown", "check_index", "Outgoing", "Incoming", "Network", "_law_number", "_law_send", "_law_take", "_law_deliver", "_law_holds", "_law_put", "_law_ends_well"] w := by
  intro os
  kernel_rfl
theorem mkTxt {K : PySem.W.Frag} {h : Heap} {mg : Str → Option Value} (X : K.In h) (G : h.Ns mainGlobals mg) (c : Fh.SaysX fa ex fn K) : Nonempty (Txt K mg) := by
  obtain ⟨fd_check_index, F_check_index⟩ := c.def_ 0 (d := d_check_index) rfl
  obtain ⟨fd_Outgoing_init, F_Outgoing_init⟩ := c.def_ 1 (d := d_Outgoing_init) rfl
  obtain ⟨fd_Outgoing_put, F_Outgoing_put⟩ := c.def_ 2 (d := d_Outgoing_put) rfl
  obtain ⟨fd_Outgoing_due, F_Outgoing_due⟩ := c.def_ 3 (d := d_Outgoing_due) rfl
  obtain ⟨fd_Outgoing_acknowledge, F_Outgoing_acknowledge⟩ := c.def_ 4 (d := d_Outgoing_acknowledge) rfl
  obtain ⟨fd_Outgoing_put_count, F_Outgoing_put_count⟩ := c.def_ 5 (d := d_Outgoing_put_count) rfl
  obtain ⟨fd_Outgoing_acknowledged, F_Outgoing_acknowledged⟩ := c.def_ 6 (d := d_Outgoing_acknowledged) rfl
  obtain ⟨fd_Incoming_init, F_Incoming_init⟩ := c.def_ 7 (d := d_Incoming_init) rfl
  obtain ⟨fd_Incoming_accepts, F_Incoming_accepts⟩ := c.def_ 8 (d := d_Incoming_accepts) rfl
  obtain ⟨fd_Incoming_accept, F_Incoming_accept⟩ := c.def_ 9 (d := d_Incoming_accept) rfl
  obtain ⟨fd_Network_init, F_Network_init⟩ := c.def_ 10 (d := d_Network_init) rfl
  obtain ⟨fd_Network_len, F_Network_len⟩ := c.def_ 11 (d := d_Network_len) rfl
  obtain ⟨fd_Network_iter, F_Network_iter⟩ := c.def_ 12 (d := d_Network_iter) rfl
  obtain ⟨fd_Network_post, F_Network_post⟩ := c.def_ 13 (d := d_Network_post) rfl
  obtain ⟨fd_Network_take_out, F_Network_take_out⟩ := c.def_ 14 (d := d_Network_take_out) rfl
  obtain ⟨fd_Network_repeat, F_Network_repeat⟩ := c.def_ 15 (d := d_Network_repeat) rfl
  obtain ⟨fd_Network_packets, F_Network_packets⟩ := c.def_ 16 (d := d_Network_packets) rfl
  obtain ⟨fd_law_number, F_law_number⟩ := c.def_ 17 (d := d_law_number) rfl
  obtain ⟨fd_law_send, F_law_send⟩ := c.def_ 18 (d := d_law_send) rfl
  obtain ⟨fd_law_take, F_law_take⟩ := c.def_ 19 (d := d_law_take) rfl
  obtain ⟨fd_law_deliver, F_law_deliver⟩ := c.def_ 20 (d := d_law_deliver) rfl
  obtain ⟨fd_law_holds, F_law_holds⟩ := c.def_ 21 (d := d_law_holds) rfl
  obtain ⟨fd_law_put, F_law_put⟩ := c.def_ 22 (d := d_law_put) rfl
  obtain ⟨fd_law_ends_well, F_law_ends_well⟩ := c.def_ 23 (d := d_law_ends_well) rfl
  obtain ⟨fd_law, F_law⟩ := c.def_ 24 (d := d_law) rfl
  exact ⟨⟨He.glo_ok X G (c.fact 0 (f := .glo "FarheapError") rfl), He.glo_ok X G (c.fact 1 (f := .glo "Unknown") rfl), He.glo_ok X G (c.fact 2 (f := .glo "Outgoing") rfl), He.cls_ok (c.fact 3 (f := .cls "Outgoing") rfl), He.noat_ok (c.fact 4 (f := .noat "Outgoing" "_letters") rfl), He.noat_ok (c.fact 5 (f := .noat "Outgoing" "_acknowledged") rfl), He.glo_ok X G (c.fact 6 (f := .glo "Incoming") rfl), He.cls_ok (c.fact 7 (f := .cls "Incoming") rfl), He.noat_ok (c.fact 8 (f := .noat "Incoming" "count") rfl), He.glo_ok X G (c.fact 9 (f := .glo "Network") rfl), He.cls_ok (c.fact 10 (f := .cls "Network") rfl), He.noat_ok (c.fact 11 (f := .noat "Network" "_packets") rfl), He.glo_ok X G (c.fact 12 (f := .glo "check_index") rfl), He.mkr_ok (c.fact 13 (f := .mkr "Outgoing") rfl), He.meth_ok (c.fact 14 (f := .meth "Outgoing" "put") rfl), He.meth_ok (c.fact 15 (f := .meth "Outgoing" "due") rfl), He.meth_ok (c.fact 16 (f := .meth "Outgoing" "acknowledge") rfl), He.mkr_ok (c.fact 17 (f := .mkr "Incoming") rfl), He.meth_ok (c.fact 18 (f := .meth "Incoming" "accepts") rfl), He.meth_ok (c.fact 19 (f := .meth "Incoming" "accept") rfl), He.mkr_ok (c.fact 20 (f := .mkr "Network") rfl), He.meth_ok (c.fact 21 (f := .meth "Network" "__len__") rfl), He.meth_ok (c.fact 22 (f := .meth "Network" "__iter__") rfl), He.meth_ok (c.fact 23 (f := .meth "Network" "post") rfl), He.meth_ok (c.fact 24 (f := .meth "Network" "take_out") rfl), He.meth_ok (c.fact 25 (f := .meth "Network" "repeat") rfl), He.meth_ok (c.fact 26 (f := .meth "Network" "packets") rfl), He.glo_ok X G (c.fact 27 (f := .glo "_law_number") rfl), He.glo_ok X G (c.fact 28 (f := .glo "_law_send") rfl), He.glo_ok X G (c.fact 29 (f := .glo "_law_take") rfl), He.glo_ok X G (c.fact 30 (f := .glo "_law_deliver") rfl), He.glo_ok X G (c.fact 31 (f := .glo "_law_holds") rfl), He.glo_ok X G (c.fact 32 (f := .glo "_law_put") rfl), He.glo_ok X G (c.fact 33 (f := .glo "_law_ends_well") rfl), He.glo_ok X G (c.fact 34 (f := .glo "law") rfl), He.free_ok X G (c.fact 35 (f := .free "list") rfl), He.free_ok X G (c.fact 36 (f := .free "enumerate") rfl), He.free_ok X G (c.fact 37 (f := .free "min") rfl), He.free_ok X G (c.fact 38 (f := .free "len") rfl), He.free_ok X G (c.fact 39 (f := .free "property") rfl), He.free_ok X G (c.fact 40 (f := .free "iter") rfl), He.free_ok X G (c.fact 41 (f := .free "int") rfl), He.free_ok X G (c.fact 42 (f := .free "range") rfl), He.free_ok X G (c.fact 43 (f := .free "isinstance") rfl), He.free_ok X G (c.fact 44 (f := .free "tuple") rfl), He.free_ok X G (c.fact 45 (f := .free "max") rfl), He.exc_ok (c.fact 46 (f := .exc "Unknown") rfl), Fh.prop_ok (c.ext 0 (f := Fh.propB "Outgoing" "put_count") rfl), Fh.prop_ok (c.ext 1 (f := Fh.propB "Outgoing" "acknowledged") rfl), fd_check_index, F_check_index, fd_Outgoing_init, F_Outgoing_init, fd_Outgoing_put, F_Outgoing_put, fd_Outgoing_due, F_Outgoing_due, fd_Outgoing_acknowledge, F_Outgoing_acknowledge, fd_Outgoing_put_count, F_Outgoing_put_count, fd_Outgoing_acknowledged, F_Outgoing_acknowledged, fd_Incoming_init, F_Incoming_init, fd_Incoming_accepts, F_Incoming_accepts, fd_Incoming_accept, F_Incoming_accept, fd_Network_init, F_Network_init, fd_Network_len, F_Network_len, fd_Network_iter, F_Network_iter, fd_Network_post, F_Network_post, fd_Network_take_out, F_Network_take_out, fd_Network_repeat, F_Network_repeat, fd_Network_packets, F_Network_packets, fd_law_number, F_law_number, fd_law_send, F_law_send, fd_law_take, F_law_take, fd_law_deliver, F_law_deliver, fd_law_holds, F_law_holds, fd_law_put, F_law_put, fd_law_ends_well, F_law_ends_well, fd_law, F_law⟩⟩
theorem facts {P : Program} {w : World} {K : PySem.W.Frag} {h : Heap} {mg : Str → Option Value} {f : Addr} (X : K.In h) (G : h.Ns mainGlobals mg) (hfa : mg ("law" : Str) = some (.ref f)) (c : Fh.SaysX fa ex fn K) :
    ∃ fd : FuncData, (∀ (s : Shared) (v : Value), BindsTo s fd ⟨[v], []⟩ [("script", v)]) ∧ ∀ base : Heap, K.In base → base.Ns mainGlobals mg → FnOk P w K mg base CX0 10 f fd ["script"] (spLaw K) := by
  obtain ⟨T⟩ := mkTxt X G c
  have e := hfa.symm.trans T.g_law
  cases e
  have b := FunD.bindsA (ps := ["script"]) T.F_law fun _ _ _ _ _ _ us hl => match us, hl with | [_], _ => rfl
  exact ⟨T.fd_law, fun s v => b s [v] rfl, fun base _ _ => ok_law T⟩
end K04
open PySem PySem.W PySem.Calls PyProof.Rows
set_option maxRecDepth 100000 in
set_option maxHeartbeats 0 in
theorem PySem.Challenge.cw_farheap_k04_whole_letters_once_in_order_holds : PySem.Challenge.rw_farheap_k04_whole_letters_once_in_order.Holds := by
  w_on; o_law
  refine HandSHeadRun.head_any (r := OpenLaw.row PySem.Challenge.rw_farheap_k04_whole_letters_once_in_order) (q := view (OpenLaw.row PySem.Challenge.rw_farheap_k04_whole_letters_once_in_order).prog [17]) (H := K04.hk) (ob := K04.ob) (M := 3000) (loose := ["FarheapError", "Unknown", "check_index", "Outgoing", "Incoming", "Network", "_law_number", "_law_send", "_law_take", "_law_deliver", "_law_holds", "_law_put", "_law_ends_well"]) (d := HandSHeadRun.topDef (OpenLaw.row PySem.Challenge.rw_farheap_k04_whole_letters_once_in_order).prog 17) (kwd := []) K04.ob_eq
    (by kernel_rfl) (fun s => by kernel_rfl) K04.run (by kernel_rfl) (by kernel_rfl) (by kernel_rfl) (by rfl) (by first | assumption | decide +kernel) (by decide +kernel) ⟨rfl, rfl, rfl, rfl, rfl, by decide +kernel⟩ ?hw ?hc
  case hw => w_witness2
  case hc =>
    refine L2.walk_ofE (l := PySem.Challenge.rw_farheap_k04_whole_letters_once_in_order) (n := 63) (k := 10) (x := "script") (CX := L2.CX0) rfl (by decide) (by kernel_rfl) ⟨rfl, by decide, by decide⟩ ?F (fun _ _ _ _ z => z)
    intro w mg fa h Y G hmg0
    obtain ⟨K, KX, c⟩ := Y
    have hmg : mg ("law" : PySem.Str) = some (.ref fa) := by
      have e : (HandSHeadRun.topDef (OpenLaw.row PySem.Challenge.rw_farheap_k04_whole_letters_once_in_order).prog 17).name = ("law" : PySem.Str) := by kernel_rfl
      rw [← e]
      exact hmg0
    obtain ⟨fd, hb, hF⟩ := K04.facts (P := (PySem.Challenge.rw_farheap_k04_whole_letters_once_in_order).prog) (w := w) KX G hmg c
    exact ⟨K, fd, K04.spLaw K, KX, hb, fun H a ns hl _ hS => ⟨a, ns, rfl, hS, hl, fun _ => rfl⟩, hF⟩
#print axioms PySem.Challenge.cw_farheap_k04_whole_letters_once_in_order_holds
