import PyProof.Rows.All
import Wide.All
import OpenK.AllK
import Wide.FinOn
import KE.KStateDown
import HandS.Base
import HandS.Call
import HandS.Exc
import HandS.Property
import HandS.Defaults
import HandS.Head0
import HandS.Head1
import HandS.Head2
import HandS.HeadEnd
import HandS.HeadHook1
import HandS.HeadHook2
import HandS.List
import HandS.Words
import KE.KOwnIter
import HandS.More
import HandS.IterNext
import HandS.IterVal
import HandS.ExcOwn
import HandS.ExcIs
import HandS.IsInst
import HandS.WordsExc
import HandS.ForMost
import HandS.Codes
import HandS.Flow
import HandS.FStr
import HandS.Small
import PySem.Challenge.RW_farheap_k03_network_is_a_list
set_option Elab.async false
set_option linter.all false
set_option maxRecDepth 100000
set_option maxHeartbeats 4000000
/-! The head's facts, with facts of one's own (a Bool of the written part) and defs found by a way of one's own (a property's getter). -/
namespace Fh
open PySem PySem.Spec PyProof.Rows L2 He
/-- one def: where it stands, its text, its defaults -/
structure Dx where
  ad : PySem.W.Frag → Addr
  name : Str
  qual : Str
  params : Arguments
  body : List Stmt
  scope : Scope
  dfl : List Dv := []
  kwd : List (Str × Dv) := []
def fnX (K : PySem.W.Frag) (a : Addr) : FnW := match K.lookup a with
  | some ⟨_, _, .func fd, _⟩ => some (fd.name, fd.qualname, fd.params, fd.body, fd.scope, fd.globals, fd.closure, fd.builtins)
  | _ => none
def Dx.val (d : Dx) : FnW := some (d.name, d.qual, d.params, .stmts d.body, d.scope, mainGlobals, [], builtinsNs)
def Dx.dvs (K : PySem.W.Frag) (d : Dx) : List V := d.dfl.map (Dv.v K)
def Dx.kws (K : PySem.W.Frag) (d : Dx) : List (Str × V) := d.kwd.map fun q => (q.1, q.2.v K)
def Dx.ok (K : PySem.W.Frag) (d : Dx) : Bool := PySem.W.keepIn K (.ref (d.ad K)) && (match K.lookup (d.ad K) with
  | some ⟨_, _, .func fd, _⟩ => PySem.W.codeIn K fd.code d.qual && (dflB K fd.defaults (d.dvs K) && kwdB K fd.kwdefaults (d.kws K))
  | _ => false)
theorem Dx.funD {K : PySem.W.Frag} {d : Dx} (e : fnX K (d.ad K) = d.val) (c : d.ok K = true) : ∃ fd, FunD K d.name d.qual d.params d.body d.scope (d.dvs K) (d.kws K) (d.ad K) fd := by
  obtain ⟨kp, c2⟩ := ba c
  unfold fnX at e
  cases q : K.lookup (d.ad K) with
  | none =>
    rw [q] at c2
    cases c2
  | some o =>
    obtain ⟨oc, od, dt, osl⟩ := o
    rw [q] at c2 e
    cases dt with
    | func fd =>
      obtain ⟨n1, n2, n3, n4, n5, n6, n7, n8, n9, n10, n11, n12, n13, n14, n15⟩ := fd
      have e2 : (some (n1, n2, n3, n4, n5, n6, n7, n15) : FnW) = some (d.name, d.qual, d.params, .stmts d.body, d.scope, mainGlobals, [], builtinsNs) := e
      simp only [Option.some.injEq, Prod.mk.injEq] at e2
      obtain ⟨h1, h2, h3, h4, h5, h6, h7, h8⟩ := e2
      subst h1 h2 h3 h4 h5 h6 h7 h8
      have c3 : (PySem.W.codeIn K n13 d.qual && (dflB K n8 (d.dvs K) && kwdB K n9 (d.kws K))) = true := c2
      obtain ⟨k1, k2⟩ := ba c3
      obtain ⟨k3, k4⟩ := ba k2
      exact ⟨_, ⟨oc, od, n8, n9, n10, n11, n12, n13, n14, osl, rfl, q, k1, dflB_ok k3, kwdB_ok k4⟩, kp⟩
    | _ => cases c2
def obsX (fa : List Fa) (ex : List (PySem.W.Frag → Bool)) (fn : List Dx) (K : PySem.W.Frag) : AlD := ((fa.all fun f => f.ok K) && ((ex.all fun f => f K) && fn.all fun d => d.ok K), fn.map fun d => fnX K (d.ad K))
def valX (fn : List Dx) : AlD := (true, fn.map Dx.val)
def SaysX (fa : List Fa) (ex : List (PySem.W.Frag → Bool)) (fn : List Dx) (K : PySem.W.Frag) : Prop := obsX fa ex fn K = valX fn
def obsXG (n : Nat) (fa : List Fa) (ex : List (PySem.W.Frag → Bool)) (fn : List Dx) (g : Addr → Option Obj) : AlD := obsX fa ex fn (frG g (asD g n))
def hookX (n : Nat) (fa : List Fa) (ex : List (PySem.W.Frag → Bool)) (fn : List Dx) : PySem.W.Hook where
  α := AlD
  obs := fun s => obsXG n fa ex fn s.heap.get?
  val := fun _ => valX fn
  says := fun _ h => ∃ K : PySem.W.Frag, K.In h ∧ SaysX fa ex fn K
  of := fun _ _ e => ⟨_, frG_in, e⟩
  keeps := fun _ _ _ ⟨K, hK, c⟩ k => ⟨K, PySem.W.Frag.In.keeps hK k, c⟩
theorem obsXG_eq {n : Nat} {fa : List Fa} {ex : List (PySem.W.Frag → Bool)} {fn : List Dx} {g : Addr → Option Obj} {s : Shared} (h : ∀ a, g a = s.heap.get? a) : obsXG n fa ex fn g = (hookX n fa ex fn).obs s := by
  have e : g = s.heap.get? := funext h
  rw [e] <;> rfl
section
variable {fa : List Fa} {ex : List (PySem.W.Frag → Bool)} {fn : List Dx} {K : PySem.W.Frag}
theorem SaysX.all (c : SaysX fa ex fn K) : ((fa.all fun f => f.ok K) && ((ex.all fun f => f K) && fn.all fun d => d.ok K)) = true := congrArg (fun z : AlD => z.1) c
theorem SaysX.fact (c : SaysX fa ex fn K) (i : Nat) {f : Fa} (h : fa[i]? = some f := by rfl) : f.ok K = true := List.all_eq_true.mp (ba c.all).1 f (List.mem_of_getElem? h)
theorem SaysX.ext (c : SaysX fa ex fn K) (i : Nat) {f : PySem.W.Frag → Bool} (h : ex[i]? = some f := by rfl) : f K = true := List.all_eq_true.mp (ba (ba c.all).2).1 f (List.mem_of_getElem? h)
theorem SaysX.def_ (c : SaysX fa ex fn K) (i : Nat) {d : Dx} (h : fn[i]? = some d := by rfl) : ∃ fd, FunD K d.name d.qual d.params d.body d.scope (d.dvs K) (d.kws K) (d.ad K) fd := by
  have e : fn.map (fun d => fnX K (d.ad K)) = fn.map Dx.val := congrArg (fun z : AlD => z.2) c
  have e2 : (fn.map fun d => fnX K (d.ad K))[i]? = (fn.map Dx.val)[i]? := by rw [e]
  rw [List.getElem?_map, List.getElem?_map, h] at e2
  exact Dx.funD (Option.some.inj e2) (List.all_eq_true.mp (ba (ba c.all).2).2 d (List.mem_of_getElem? h))
end
/-! ### a property of an own class -/
/-- its getter -/
def pgA (K : PySem.W.Frag) (C : Addr) (f : Str) : Addr := match PySem.W.recIn K (ma K C f) "property" with
  | some (.ref g :: _) => g
  | _ => 0
def propB (C f : Str) (K : PySem.W.Frag) : Bool := eqO (PySem.W.findIn K (.ref (ga K C)) f) (some (some (.ref (ma K (ga K C) f)))) &&
  (eqO (PySem.W.specialIn K (.ref (ma K (ga K C) f)) "__get__") (some (some (.builtin "property.__get__"))) && (decide (PySem.W.takesIn K (.ref (ma K (ga K C) f)) = some true) && (match PySem.W.recIn K (ma K (ga K C) f) "property" with
  | some (.ref _ :: _) => true
  | _ => false)))
theorem prop_ok {K : PySem.W.Frag} {C f : Str} (h : propB C f K = true) : PropOf K (ga K C) f (ma K (ga K C) f) (pgA K (ga K C) f) := by
  obtain ⟨h1, h⟩ := ba h
  obtain ⟨h2, h⟩ := ba h
  obtain ⟨h3, h4⟩ := ba h
  refine ⟨eqO_ok h1, eqO_ok h2, of_decide_eq_true h3, ?_⟩
  unfold pgA
  cases q : PySem.W.recIn K (ma K (ga K C) f) "property" with
  | none =>
    rw [q] at h4
    cases h4
  | some l =>
    rw [q] at h4
    cases l with
    | nil => cases h4
    | cons v r =>
      cases v with
      | ref g => exact ⟨r, rfl⟩
      | _ => cases h4
end Fh

/-! Data made of tuples: it stays as it is while lists and objects change. -/
namespace Fh
open PySem PySem.Spec PyProof.Rows L2
mutual
inductive TD (H : Hp) : V → PyData → Prop
  | non : TD H .non .none
  | bl (b : Bool) : TD H (.bl b) (.bool b)
  | int (i : Int) : TD H (.int i) (.int i)
  | str (x : Str) (ok : PyData.strOk x = true) : TD H (.str x) (.str x)
  | tup {a : Addr} {xs : List V} {ds : List PyData} : H a = some (.tup xs) → TDs H xs ds → TD H (.ref a) (.tuple ds)
inductive TDs (H : Hp) : List V → List PyData → Prop
  | nil : TDs H [] []
  | cons {v : V} {vs : List V} {d : PyData} {ds : List PyData} : TD H v d → TDs H vs ds → TDs H (v :: vs) (d :: ds)
end
/-- the tuples stand as they stood -/
def TSame (H H' : Hp) : Prop := ∀ b xs, H b = some (.tup xs) → H' b = some (.tup xs)
theorem TSame.refl (H : Hp) : TSame H H := fun _ _ h => h
theorem TSame.trans {H H1 H2 : Hp} (a : TSame H H1) (b : TSame H1 H2) : TSame H H2 := fun c o h => b c o (a c o h)
theorem TSame.of {H H' : Hp} (s : Same H H') : TSame H H' := fun b xs h => s b _ h
mutual
theorem TD.mono {H H' : Hp} (s : TSame H H') : ∀ {v : V} {d : PyData}, TD H v d → TD H' v d
  | _, _, .non => .non
  | _, _, .bl b => .bl b
  | _, _, .int i => .int i
  | _, _, .str x ok => .str x ok
  | _, _, .tup h hs => .tup (s _ _ h) (TDs.mono s hs)
theorem TDs.mono {H H' : Hp} (s : TSame H H') : ∀ {vs : List V} {ds : List PyData}, TDs H vs ds → TDs H' vs ds
  | _, _, .nil => .nil
  | _, _, .cons h hs => .cons (TD.mono s h) (TDs.mono s hs)
end
mutual
theorem TD.dp {K : PySem.W.Frag} {H : Hp} : ∀ {v : V} {d : PyData}, TD H v d → Dp K H v d
  | _, _, .non => .non
  | _, _, .bl b => .bl b
  | _, _, .int i => .int i
  | _, _, .str x _ => .str x
  | _, _, .tup h hs => .tup (SqT.of h) (TDs.dp hs)
theorem TDs.dp {K : PySem.W.Frag} {H : Hp} : ∀ {vs : List V} {ds : List PyData}, TDs H vs ds → DpAll K H vs ds
  | _, _, .nil => .nil
  | _, _, .cons h hs => .cons (TD.dp h) (TDs.dp hs)
end
mutual
theorem TD.lay {H : Hp} : ∀ {v : V} {d : PyData}, TD H v d → d.canLay0 = true
  | _, _, .non => rfl
  | _, _, .bl b => rfl
  | _, _, .int i => rfl
  | _, _, .str x ok => by simp only [PyData.canLay0]; exact ok
  | _, _, .tup _ hs => by rw [PyData.canLay0]; exact TDs.lay hs
theorem TDs.lay {H : Hp} : ∀ {vs : List V} {ds : List PyData}, TDs H vs ds → PyData.canLayAll0 ds = true
  | _, _, .nil => rfl
  | _, _, .cons h hs => by rw [PyData.canLayAll0, TD.lay h, TDs.lay hs]; rfl
end
/-- a tuple of data, at most n deep -/
def TupD (H : Hp) (n : Nat) (v : V) : Prop := ∃ (a : Addr) (xs : List V) (ds : List PyData), v = .ref a ∧ H a = some (.tup xs) ∧ TDs H xs ds ∧ (PyData.tuple ds).depth ≤ n
theorem TupD.mono {H H' : Hp} (s : TSame H H') {n : Nat} {v : V} (h : TupD H n v) : TupD H' n v := by
  obtain ⟨a, xs, ds, e, h1, h2, h3⟩ := h
  exact ⟨a, xs, ds, e, s _ _ h1, TDs.mono s h2, h3⟩
theorem shaped_of {d : PyData} (h1 : d.canLay0 = true) (h2 : d.depth ≤ 64) : SeqAt.shaped d = true := by
  unfold SeqAt.shaped
  rw [h1, decide_eq_true h2]
  rfl
theorem TupD.dat {K : PySem.W.Frag} {H : Hp} {n : Nat} {v : V} (h : TupD H n v) (hn : n ≤ 64) : ∃ d, Dp K H v d ∧ SeqAt.shaped d = true ∧ PyData.eqv d d = true := by
  obtain ⟨a, xs, ds, rfl, h1, h2, h3⟩ := h
  have td : TD H (.ref a) (.tuple ds) := .tup h1 h2
  exact ⟨_, td.dp, shaped_of td.lay (Nat.le_trans h3 hn), SeqAt.eqv_refl _ td.lay⟩
/-- a new tuple of data -/
theorem TupD.new {H : Hp} {n : Nat} {a : Addr} {xs : List V} {ds : List PyData} (ha : H a = none) (hs : TDs H xs ds) (hd : (PyData.tuple ds).depth ≤ n) : TupD (upd H a (.tup xs)) n (.ref a) :=
  ⟨a, xs, ds, rfl, upd_same, TDs.mono (fun b ys e => by rw [upd_ne (ne_of_none e ha)]; exact e) hs, hd⟩
theorem Same.new {H : Hp} {a : Addr} {o : HO} (ha : H a = none) : Same H (upd H a o) := fun b u e => by
  rw [upd_ne (ne_of_none e ha)]
  exact e
theorem Same.none' {H H' : Hp} (s : Same H H') {a : Addr} (h : H' a = none) : H a = none := s.free h
/-- addresses of objects, all different -/
structure Alive (H : Hp) (xs : List Addr) : Prop where
  nd : xs.Nodup
  at_ : ∀ b ∈ xs, ∃ o, H b = some o
theorem Alive.nil {H : Hp} : Alive H [] := ⟨List.nodup_nil, fun b h => by cases h⟩
theorem Alive.same {H H' : Hp} {xs : List Addr} (A : Alive H xs) (s : Same H H') : Alive H' xs := ⟨A.nd, fun b hb => by
  obtain ⟨o, e⟩ := A.at_ b hb
  exact ⟨o, s _ _ e⟩⟩
theorem Alive.cons {H H' : Hp} {xs : List Addr} {c : Addr} {o : HO} (A : Alive H xs) (hc : H c = none) (s : Same H H') (h : H' c = some o) : Alive H' (c :: xs) := by
  refine ⟨List.nodup_cons.mpr ⟨fun hm => ?_, A.nd⟩, fun b hb => ?_⟩
  · obtain ⟨u, e⟩ := A.at_ c hm
    rw [hc] at e
    cases e
  · rcases List.mem_cons.mp hb with e | hb
    · rw [e]
      exact ⟨o, h⟩
    · obtain ⟨u, e⟩ := A.at_ b hb
      exact ⟨u, s _ _ e⟩
theorem Alive.new {H : Hp} {xs : List Addr} {c : Addr} {o : HO} (A : Alive H xs) (hc : H c = none) : Alive (upd H c o) (c :: xs) := A.cons hc (Same.new hc) upd_same
/-- a list of two, by place -/
theorem two_at {α : Type} (f : Nat → α) {j : Nat} (hj : j < 2) : [f 0, f 1][j]? = some (f j) := by
  match j, hj with
  | 0, _ => rfl
  | 1, _ => rfl
end Fh

/-! len(o), for x in o, of an own class whose __len__ gives a number, whose __iter__ gives a list's iterator. -/
namespace Fh
open PySem PySem.Spec PyProof.Rows L2
section
variable {X : Cx} {CX : CXT} {k : Nat} {C f : Addr} {fd : FuncData} {sp : Sp} {E : XK}
/-- len(o) -/
theorem call_lenO (cl : Cls X.K C) (hm : Meth X.K C "__len__" f) (F : FnOk X.prog X.w X.K X.mg X.base CX k f fd ["self"] sp) (hr : Room (k + 1) X.A) (hb : Binds X.K fd ["self"] []) (hx : Passes CX X E) :
    CallR X (.builtin "len") (fun xs H Q => ∃ (a dx : Addr) (fs : List (Str × V)), xs = [.ref a] ∧ H a = some (.ins C dx fs) ∧ sp [.ref a] H (fun v H' => ∃ n : Int, v = .int n ∧ 0 ≤ n ∧ n < 2 ^ 63 ∧ Q (.int n) H') E) := by
  intro pins s σ H xs us Q I r h
  obtain ⟨a, dx, fs, rfl, ha, hq⟩ := h
  obtain ⟨u, rfl, ru⟩ := vals1 r
  cases ru
  obtain ⟨mA, J, _⟩ := ins_get I.hok ha
  obtain ⟨od, J, _⟩ := J.look
  obtain ⟨m0, hF⟩ := I.fr
  refine PySem.W.len_K hF I.ok.mod.kin J hm.at_ hm.fn ?_
  have hl := F.len _ _ _ _ hq
  have b := hb s [.ref a] I.kIn rfl
  refine wpAny_call (codeAny_mono (F.run X.A.in1 X.stack s H ⟨[.ref a], []⟩ [.ref a] [.ref a] _ E hr.in1 I.env0.in1 b (.cons rfl .nil) hq) fun r s' hq' => ?_)
  cases r with
  | error e => exact hx pins σ H s e s' I hq'
  | ok fl =>
    cases fl with
    | next => exact False.elim hq'
    | brk => exact False.elim hq'
    | cont => exact False.elim hq'
    | ret u =>
      obtain ⟨v, H', I', rv, n, rfl, h0, h1, q⟩ := I.after hq'
      obtain ⟨t, rfl⟩ := (show ∃ t, u = Value.int n t from rv)
      exact ⟨⟨h0, h1⟩, .int n, H', I'.tok _, ⟨_, rfl⟩, q⟩
end
/-- the list's iterator at it has ended -/
theorem pyNext_over {prog : Program} {w : World} {A : Around} {E : Value → Shared → Prop} {s : Shared} {it l : Addr} {i : Nat} {items : Array Value} {Q : Option Value → Shared → Prop} (hh : A.handled = none)
    (ho : s.heap.get? it = some (GNX.itObj l i)) (hl : s.heap.IsList l items) (hx : items[i]? = none)
    (hQ : ∀ h1 h', h1.get? it = some (GNX.itEnd i) → Heap.SameBut it s.heap h1 → (∀ b o, h1.get? b = some o → h'.get? b = some o) → Q none { s with heap := h' }) : wpAny (model prog w) A (pyNext (.ref it)) Q E s := by
  have hT : s.TypeIs (.ref it) "list_iterator" := ⟨_, ho, rfl⟩
  unfold pyNext
  refine wpAny_bind (wpAny_attempt (wpAny_callSpecial?_slot (name := Str.ofString "__next__") hT slot_listiter_next
    (wpAny_call_entry slot_listiter_next hT entry_listiter_next ?_ (args_listiter_next _))))
  refine wpAny_mono (Q := fun fin s' => ∃ v, fin = .done (.ret v) ∧ False) (GNX.next_end (A := A) hh ho hl hx fun h1 h' e vs e1 sb k ne he hv => ?_) (fun fin s' h => by obtain ⟨_, _, z⟩ := h; exact z.elim) fun _ _ z => z
  refine wpAny_bind (wpAny_isInstance (T := "StopIteration") (b := true) ⟨_, he, rfl⟩ isSubtype_stop ?_)
  exact wpAny_pure (hQ h1 h' e1 sb k)
theorem pyNext_next {prog : Program} {w : World} {A : Around} {E : Value → Shared → Prop} {s : Shared} {it l : Addr} {i : Nat} {items : Array Value} {x : Value} {Q : Option Value → Shared → Prop}
    (ho : s.heap.get? it = some (GNX.itObj l i)) (hl : s.heap.IsList l items) (hx : items[i]? = some x)
    (hQ : ∀ h', h'.get? it = some (GNX.itObj l (i + 1)) → Heap.SameBut it s.heap h' → Q (some x) { s with heap := h' }) : wpAny (model prog w) A (pyNext (.ref it)) Q E s := by
  have hT : s.TypeIs (.ref it) "list_iterator" := ⟨_, ho, rfl⟩
  unfold pyNext
  refine wpAny_bind (wpAny_attempt (wpAny_callSpecial?_slot (name := Str.ofString "__next__") hT slot_listiter_next
    (wpAny_call_entry slot_listiter_next hT entry_listiter_next ?_ (args_listiter_next _))))
  refine wpAny_mono (GNX.next_item (Q := fun v s' => v = x ∧ Q (some x) s') ho hl hx fun h' e sb => ⟨rfl, hQ h' e sb⟩) (fun fin s' h => ?_) fun _ _ z => z
  obtain ⟨v, e, ev, q⟩ := h
  subst ev
  exact ⟨_, e, wpAny_pure q⟩
/-- for x in o: __iter__'s promise gives an iterator of the list at l; a turn: the iterator moves on, the item, the body -/
def tForO (K : PySem.W.Frag) (C : Addr) (sp : Sp) (E : XK) (te : TE) (g : TG) (tb : TS) : TS := fun D σ H => te σ H fun x H1 => ∃ (a dx : Addr) (fs : List (Str × V)), x = .ref a ∧ H1 a = some (.ins C dx fs) ∧
  sp [.ref a] H1 (fun v H2 => ∃ it l, v = .ref it ∧ H2 it = some (ItO l it 0) ∧ ∃ W : Nat → Nat → L2.St → Hp → Prop, (∃ m, W 0 m σ H2) ∧ ∀ i m σ H, W i m σ H → H it = some (ItO l it i) ∧ ∃ xs, SqL K H l xs ∧
    ((xs.length ≤ i ∧ D.nx σ (upd H it (ItE it i))) ∨ ∃ x, xs[i]? = some x ∧ ∃ N : L2.St → Hp → Prop, (∀ σ' H', N σ' H' → ∃ m', m' < m ∧ W (i + 1) m' σ' H') ∧
      g x σ (upd H it (ItO l it (i + 1))) fun σ2 H3 => tb { D with nx := N, ct := N, bk := D.nx } σ2 H3)) E
section
variable {X : Cx} {CX : CXT} {k : Nat} {C f : Addr} {fd : FuncData} {sp : Sp} {E : XK}
theorem ps_forO {tg iter : Expr} {body : List Stmt} {te : TE} {g : TG} {tb : TS} {pos : Pos} (hp : PassesOwn (model X.prog X.w) X.A X.env X.xe) (hc : X.calm = true) (he : PE X iter te) (cl : Cls X.K C) (hm : Meth X.K C "__iter__" f)
    (F : FnOk X.prog X.w X.K X.mg X.base CX k f fd ["self"] sp) (hr : Room k X.A) (hb : Binds X.K fd ["self"] []) (hx : Passes CX X E) (hg : PG X tg g) (hbd : PSs X body tb)
    (hs : ∀ x, foldedSetIterable iter X.env x = pure x := by intro _; rfl) : PS X (.For tg iter body [] pos) (tForO X.K C sp E te g tb) := by
  refine ⟨fun pins s σ H D I h => ?_⟩
  refine wpAny_For (thn (he.run pins s σ H _ I h) fun v s1 ⟨x, H1, I1, r1, a, dx, fs, ex, ha, hq⟩ => ?_) hs
  subst ex
  obtain rfl : v = Value.ref a := r1
  obtain ⟨mA, J, _⟩ := ins_get I1.hok ha
  obtain ⟨od, J, _⟩ := J.look
  obtain ⟨m0, hF⟩ := I1.fr
  refine PySem.W.owit_iter hF I1.ok.mod.kin J hm.at_ hm.fn ?_
  refine thn (run_fn F hr hb .nil hx I1 (.cons (show L2.RelV (V.ref a) (Value.ref a) from rfl) .nil) hq) fun u s2 ⟨v, H2, I2, r2, it, l, ev, hit, W, ⟨n0, w0⟩, turn⟩ => ?_
  subst ev
  obtain rfl : u = Value.ref it := r2
  have eo := itO_get I2 hit
  have hT : s2.TypeIs (.ref it) "list_iterator" := ⟨_, eo, rfl⟩
  unfold PySem.W.OwitIt
  refine wpAny_specialOf (name := Str.ofString "__next__") hT slot_listiter_next.lookup ?_
  show codeAny (model X.prog X.w) X.A (.forLoop tg (.ref it) body [] X.env) _ s2
  refine codeAny_forLoop_any (fun n s' => ∃ i σ' H', Inv X pins σ' H' s' ∧ W i n σ' H') ?_ n0 ⟨0, σ, H2, I2, w0⟩
  rintro n s3 ⟨i, σ3, H3, I3, w3⟩
  obtain ⟨hit3, xs, hl3, cases3⟩ := turn i n σ3 H3 w3
  have eo3 := itO_get I3 hit3
  obtain ⟨its, rv, pl, hz⟩ := I3.list hl3
  have lz := rv.length
  have mu : Mut (H3 it) := by rw [hit3]; exact True.intro
  have st3 : s3.heap.IsListIter it l i := ⟨_, eo3, rfl, rfl⟩
  rcases cases3 with ⟨stop, qn⟩ | ⟨y, hy, N, hN, step⟩
  · refine wpAny_passesOwn hp (pyNext_over (I3.ok.hd hc) eo3 pl.isList (by rw [List.getElem?_toArray]; exact rv.none_of (List.getElem?_eq_none stop)) fun h1 h' e1 sb kk => ?_)
    have I4 : Inv X pins σ3 (upd H3 it (ItE it i)) { s3 with heap := h1 } := I3.write (x := it) (e := it) (t' := s3.toks) mu (.inl rfl) (fun b o nb z => (sb.2 b nb).trans z) ⟨_, e1⟩ (itE_ok e1)
    exact wpAny_execs_nil ⟨σ3, _, I4.kept (t' := s3.toks) kk, qn⟩
  · obtain ⟨u, hu, ru⟩ := rv.get hy
    refine wpAny_passesOwn hp (pyNext_next eo3 pl.isList (x := u) (by rw [List.getElem?_toArray]; exact hu) fun h' eo4 sb => ?_)
    have I4 : Inv X pins σ3 (upd H3 it (ItO l it (i + 1))) { s3 with heap := h' } := I3.write (x := it) (e := it) (t' := s3.toks) mu (.inl rfl) (fun b o nb z => (sb.2 b nb).trans z) ⟨_, eo4⟩ (itO_ok eo4)
    refine go_of (s := { s3 with heap := h' }) eo4 rfl rfl (by decide) ?_
    refine wpAny_passesOwn hp (thn (hg.run _ { s3 with heap := h' } σ3 _ y u _ I4 ru step) fun _ s6 ⟨σ6, H6, I6, q6⟩ => ?_)
    refine wpAny_passesOwn hp (thn (hbd.run _ s6 σ6 H6 _ I6 q6) fun f s7 q7 => ?_)
    have again : ∀ {σ7 : L2.St} {H7 : Hp}, Inv X pins σ7 H7 s7 → N σ7 H7 → ∃ m, m < n ∧ ∃ i σ' H', Inv X pins σ' H' s7 ∧ W i m σ' H' := fun {σ7 H7} I7 n7 => by
      obtain ⟨m', hm', w7⟩ := hN σ7 H7 n7
      exact ⟨m', hm', i + 1, σ7, H7, I7, w7⟩
    cases f with
    | next => obtain ⟨σ7, H7, I7, n7⟩ := q7; exact again I7 n7
    | cont => obtain ⟨σ7, H7, I7, n7⟩ := q7; exact again I7 n7
    | brk => obtain ⟨σ7, H7, I7, q7⟩ := q7; exact ⟨σ7, H7, I7, q7⟩
    | ret v => obtain ⟨x7, σ7, H7, I7, r7, q7⟩ := q7; exact ⟨x7, σ7, H7, I7, r7, q7⟩
end
end Fh

/-! Own errors: methods that may raise within a try, what is known of the error in its suite. -/
namespace Fh
open PySem PySem.Spec PyProof.Rows L2 He
section
variable {X : Cx} {CX : CXT} {k : Nat} {f C : Addr} {fd : FuncData} {ps : List Str} {sp : Sp} {E : L2.St → XK} {m : Str} {apos pos : Pos} {e o : Expr} {es : List Expr} {ta : TE} {t : TA}
def tMethW (C : Addr) (m : Str) (sp : Sp) (E : L2.St → XK) (ta : TE) (t : TA) : TE := fun σ H Q => ta σ H fun x H1 => ∃ a dx fs, x = .ref a ∧ H1 a = some (.ins C dx fs) ∧ fs.lookup m = none ∧ t σ H1 fun vs H2 => sp (x :: vs) H2 Q (E σ)
/-- o.m(e, ..), what it raises is wished for at the caller's slots -/
theorem pe_methW {pl : Sem Bool} (he : PE X o ta) (c : Cls X.K C) (hm : Meth X.K C m f) (F : FnOk X.prog X.w X.K X.mg X.base CX k f fd ps sp) (hr : Room k X.A) (hb : Binds X.K fd ps []) (hx : ∀ σ, PassesAt CX X σ (E σ)) (ha : PA X (e :: es) t)
    (hst : starEach (e :: es) X.env = (false, eval e X.env) :: starEach es X.env := by rfl) (hpl : (backTo pos (starEach es X.env)).any (·.1) = false := by rfl)
    (ht : eval (.Call (.Attribute o m apos) (e :: es) [] pos) X.env = (do
      let ov ← eval o X.env
      standAt apos.atName
      let (f, first) ← holding [ov] (getMethod ov m pl)
      callWith pos f first (backTo pos (starEach (e :: es) X.env)) (backToKw pos (keywordEach [] X.env))) := by rfl) :
    PE X (.Call (.Attribute o m apos) (e :: es) [] pos) (tMethW C m sp E ta t) := by
  refine ⟨fun pins s σ H Q I h => ?_⟩
  refine PySem.W.methodCall_KW (pl := pl) (thn (he.run pins s σ H _ I h) fun u s1 ⟨x, H1, I1, rx, a, dx, fs, ex, ea, l, q⟩ => ?_) ht
  subst ex
  obtain rfl : u = Value.ref a := rx
  refine getmeth_ok I1 ea c hm l ?_
  refine PySem.W.callWith_K (first := [.ref a]) (h₀ := X.base) I.ok.mod.kin hm.kp (thn (ha.run pos pins s1 σ H1 _ I1 q) fun us s2 ⟨vs, H2, I2, r, q2⟩ => ⟨I2.kIn, ?_⟩) hst hpl
  exact run_fnS (us := .ref a :: us) (vs := .ref a :: vs) F hr hb (hx σ) I2 (.cons rfl r) q2
end
/-- a block whose term leans on something that the reading says -/
theorem pss_when {X : Cx} {st : List Stmt} {t : TS} {p : Prop} (h : p → PSs X st t) : PSs X st (fun D σ H => p ∧ t D σ H) := ⟨fun pins s σ H D I q => (h q.1).run pins s σ H D I q.2⟩
/-- an own error class, as isinstance asks its instances -/
def excCB (x : Str) (K : PySem.W.Frag) : Bool := eqO (PySem.W.findIn K (.ref (ga K x)) "__getattribute__") (some (some (.builtin "BaseException.__getattribute__"))) && (eqO (PySem.W.findIn K (.ref (ga K x)) "__getattr__") (some none) &&
  (decide (PySem.W.subIn K (.ref (ga K x)) (.type "BaseException") = some true) && (PySem.W.hasDictIn K (ga K x) && (eqO (PySem.W.findIn K (.ref (ga K x)) "__class__") (some (some (.builtin "object.__class__"))) &&
  (eqO (PySem.W.specialIn K (.builtin "object.__class__") "__get__") (some (some (.builtin "getset_descriptor.__get__"))) && (decide (PySem.W.takesIn K (.builtin "object.__class__") = some true) && decide (PySem.W.mroIn K (ga K x) (.type "object") = some true)))))))
theorem excC_ok {K : PySem.W.Frag} {x : Str} (h : excCB x K = true) : ExcC K (ga K x) := by
  obtain ⟨h1, h⟩ := ba h
  obtain ⟨h2, h⟩ := ba h
  obtain ⟨h3, h⟩ := ba h
  obtain ⟨h4, h⟩ := ba h
  obtain ⟨h5, h⟩ := ba h
  obtain ⟨h6, h⟩ := ba h
  obtain ⟨h7, h8⟩ := ba h
  exact ⟨eqO_ok h1, eqO_ok h2, of_decide_eq_true h3, h4, eqO_ok h5, eqO_ok h6, of_decide_eq_true h7, of_decide_eq_true h8⟩
/-- is an instance of the class x one of the class y | of the built-in class n -/
def kitOB (x y : Str) (b : Bool) (K : PySem.W.Frag) : Bool := decide (PySem.W.kitOne K (.ref (ga K x)) (.ref (ga K y)) = some b)
theorem kitO_ok {K : PySem.W.Frag} {x y : Str} {b : Bool} (h : kitOB x y b K = true) : PySem.W.kitOne K (.ref (ga K x)) (.ref (ga K y)) = some b := of_decide_eq_true h
def kitTB (x : Str) (n : String) (b : Bool) (K : PySem.W.Frag) : Bool := decide (PySem.W.kitOne K (.ref (ga K x)) (.type n) = some b)
theorem kitT_ok {K : PySem.W.Frag} {x : Str} {n : String} {b : Bool} (h : kitTB x n b K = true) : PySem.W.kitOne K (.ref (ga K x)) (.type n) = some b := of_decide_eq_true h
end Fh

/-! Two networks are lists of packets. -/
namespace K03
open PySem PySem.Spec PyProof.Rows L2 Fh
/-! ### the text by places -/
def top (i : Nat) : Stmt := PySem.Challenge.pw_farheap_k03_network_is_a_list.main.body.getD i (.Pass ⟨0, 0, 0, 0⟩)
abbrev s_check_index : Stmt := top 7
abbrev s_Network_init : Stmt := inClass (top 9) 0
abbrev s_Network_len : Stmt := inClass (top 9) 1
abbrev s_Network_iter : Stmt := inClass (top 9) 2
abbrev s_Network_post : Stmt := inClass (top 9) 3
abbrev s_Network_take_out : Stmt := inClass (top 9) 4
abbrev s_Network_repeat : Stmt := inClass (top 9) 5
abbrev s_Network_packets : Stmt := inClass (top 9) 6
abbrev s_law_number : Stmt := top 11
abbrev s_law_packet : Stmt := top 12
abbrev s_law_holds : Stmt := top 13
abbrev s_law_refuses : Stmt := top 14
abbrev s_law_bad_index : Stmt := top 15
abbrev s_law_posts : Stmt := top 16
abbrev s_law_deed : Stmt := top 17
abbrev s_law : Stmt := top 18
theorem sc_check_index : FnScope ["index", "count", "what"] ["index", "count", "what"] (defScope s_check_index) := ⟨rfl, rfl, rfl, by decide +kernel, rfl, by decide +kernel, by decide +kernel⟩
theorem sc_Network_init : FnScope ["self"] ["self"] (defScope s_Network_init) := ⟨rfl, rfl, rfl, by decide +kernel, rfl, by decide +kernel, by decide +kernel⟩
theorem sc_Network_len : FnScope ["self"] ["self"] (defScope s_Network_len) := ⟨rfl, rfl, rfl, by decide +kernel, rfl, by decide +kernel, by decide +kernel⟩
theorem sc_Network_iter : FnScope ["self"] ["self"] (defScope s_Network_iter) := ⟨rfl, rfl, rfl, by decide +kernel, rfl, by decide +kernel, by decide +kernel⟩
theorem sc_Network_post : FnScope ["self", "packet"] ["self", "packet"] (defScope s_Network_post) := ⟨rfl, rfl, rfl, by decide +kernel, rfl, by decide +kernel, by decide +kernel⟩
theorem sc_Network_take_out : FnScope ["self", "index"] ["self", "index"] (defScope s_Network_take_out) := ⟨rfl, rfl, rfl, by decide +kernel, rfl, by decide +kernel, by decide +kernel⟩
theorem sc_Network_repeat : FnScope ["self", "index"] ["self", "index"] (defScope s_Network_repeat) := ⟨rfl, rfl, rfl, by decide +kernel, rfl, by decide +kernel, by decide +kernel⟩
theorem sc_Network_packets : FnScope ["self"] ["self"] (defScope s_Network_packets) := ⟨rfl, rfl, rfl, by decide +kernel, rfl, by decide +kernel, by decide +kernel⟩
theorem sc_law_number : FnScope ["cell", "k", "first", "second"] ["cell", "k"] (defScope s_law_number) := ⟨rfl, rfl, rfl, by decide +kernel, rfl, by decide +kernel, by decide +kernel⟩
theorem sc_law_packet : FnScope ["part", "source", "target", "number"] ["part"] (defScope s_law_packet) := ⟨rfl, rfl, rfl, by decide +kernel, rfl, by decide +kernel, by decide +kernel⟩
theorem sc_law_holds : FnScope ["net", "bag", "packets", "seen", "packet"] ["net", "bag"] (defScope s_law_holds) := ⟨rfl, rfl, rfl, by decide +kernel, rfl, by decide +kernel, by decide +kernel⟩
theorem sc_law_refuses : FnScope ["net", "index", "repeats", "e"] ["net", "index", "repeats"] (defScope s_law_refuses) := ⟨rfl, rfl, rfl, by decide +kernel, rfl, by decide +kernel, by decide +kernel⟩
theorem sc_law_bad_index : FnScope ["part", "many", "choice", "large"] ["part", "many"] (defScope s_law_bad_index) := ⟨rfl, rfl, rfl, by decide +kernel, rfl, by decide +kernel, by decide +kernel⟩
theorem sc_law_posts : FnScope ["net", "bag", "part", "count", "packet", "k"] ["net", "bag", "part"] (defScope s_law_posts) := ⟨rfl, rfl, rfl, by decide +kernel, rfl, by decide +kernel, by decide +kernel⟩
theorem sc_law_deed : FnScope ["net", "bag", "part", "deed", "rest", "index", "packet", "expected"] ["net", "bag", "part"] (defScope s_law_deed) := ⟨rfl, rfl, rfl, by decide +kernel, rfl, by decide +kernel, by decide +kernel⟩
theorem sc_law : FnScope ["script", "nets", "bags", "k", "part", "at", "spoilt"] ["script"] (defScope s_law) := ⟨rfl, rfl, rfl, by decide +kernel, rfl, by decide +kernel, by decide +kernel⟩
/-! ### what the top has written -/
/-- what the top has written -/
structure Txt (K : PySem.W.Frag) (mg : Str → Option Value) where
  mg_FarheapError : mg "FarheapError" = some (.ref (He.ga K "FarheapError"))
  mg_Unknown : mg "Unknown" = some (.ref (He.ga K "Unknown"))
  mg_Empty : mg "Empty" = some (.ref (He.ga K "Empty"))
  mg_NotNear : mg "NotNear" = some (.ref (He.ga K "NotNear"))
  mg_NotFar : mg "NotFar" = some (.ref (He.ga K "NotFar"))
  mg_Network : mg "Network" = some (.ref (He.ga K "Network"))
  cl_Network : Cls K (He.ga K "Network")
  n_Network__packets : NoAttr K (He.ga K "Network") "_packets"
  g_check_index : mg "check_index" = some (.ref (He.ga K "check_index"))
  mk_Network : Mk K (He.ga K "Network") (He.ma K (He.ga K "Network") "__init__")
  m_Network_len : Meth K (He.ga K "Network") "__len__" (He.ma K (He.ga K "Network") "__len__")
  m_Network_iter : Meth K (He.ga K "Network") "__iter__" (He.ma K (He.ga K "Network") "__iter__")
  m_Network_post : Meth K (He.ga K "Network") "post" (He.ma K (He.ga K "Network") "post")
  m_Network_take_out : Meth K (He.ga K "Network") "take_out" (He.ma K (He.ga K "Network") "take_out")
  m_Network_repeat : Meth K (He.ga K "Network") "repeat" (He.ma K (He.ga K "Network") "repeat")
  m_Network_packets : Meth K (He.ga K "Network") "packets" (He.ma K (He.ga K "Network") "packets")
  g_law_number : mg "_law_number" = some (.ref (He.ga K "_law_number"))
  g_law_packet : mg "_law_packet" = some (.ref (He.ga K "_law_packet"))
  g_law_holds : mg "_law_holds" = some (.ref (He.ga K "_law_holds"))
  g_law_refuses : mg "_law_refuses" = some (.ref (He.ga K "_law_refuses"))
  g_law_bad_index : mg "_law_bad_index" = some (.ref (He.ga K "_law_bad_index"))
  g_law_posts : mg "_law_posts" = some (.ref (He.ga K "_law_posts"))
  g_law_deed : mg "_law_deed" = some (.ref (He.ga K "_law_deed"))
  g_law : mg "law" = some (.ref (He.ga K "law"))
  z_len : mg "len" = none
  z_iter : mg "iter" = none
  z_list : mg "list" = none
  z_int : mg "int" = none
  z_isinstance : mg "isinstance" = none
  z_tuple : mg "tuple" = none
  z_ValueError : mg "ValueError" = none
  z_range : mg "range" = none
  x_Unknown : PySem.W.excIn K (He.ga K "Unknown") He.veBase "ValueError.__new__" = true ∧ PySem.W.keepIn K (.ref (He.ga K "Unknown")) = true ∧ PySem.W.subIn K (.ref (He.ga K "Unknown")) (.type "BaseException") = some true ∧ PySem.W.typeIn K (.ref (He.ga K "Unknown")) = some (.type "type")
  u_Unknown : PySem.W.exmOne K (.ref (He.ga K "Unknown")) (.ref (He.ga K "Unknown")) = some true
  ec_Unknown : ExcC K (He.ga K "Unknown")
  k_Empty : PySem.W.kitOne K (.ref (He.ga K "Unknown")) (.ref (He.ga K "Empty")) = some false
  k_NotNear : PySem.W.kitOne K (.ref (He.ga K "Unknown")) (.ref (He.ga K "NotNear")) = some false
  k_NotFar : PySem.W.kitOne K (.ref (He.ga K "Unknown")) (.ref (He.ga K "NotFar")) = some false
  k_FarheapError : PySem.W.kitOne K (.ref (He.ga K "Unknown")) (.ref (He.ga K "FarheapError")) = some true
  k_ValueError : PySem.W.kitOne K (.ref (He.ga K "Unknown")) (.type "ValueError") = some true
  fd_check_index : FuncData
  F_check_index : FunD K "check_index" "check_index" (defArgs s_check_index) (defBody s_check_index) (defScope s_check_index) [] [] (He.ga K "check_index") fd_check_index
  fd_Network_init : FuncData
  F_Network_init : FunD K "__init__" "Network.__init__" (defArgs s_Network_init) (defBody s_Network_init) (defScope s_Network_init) [] [] (He.ma K (He.ga K "Network") "__init__") fd_Network_init
  fd_Network_len : FuncData
  F_Network_len : FunD K "__len__" "Network.__len__" (defArgs s_Network_len) (defBody s_Network_len) (defScope s_Network_len) [] [] (He.ma K (He.ga K "Network") "__len__") fd_Network_len
  fd_Network_iter : FuncData
  F_Network_iter : FunD K "__iter__" "Network.__iter__" (defArgs s_Network_iter) (defBody s_Network_iter) (defScope s_Network_iter) [] [] (He.ma K (He.ga K "Network") "__iter__") fd_Network_iter
  fd_Network_post : FuncData
  F_Network_post : FunD K "post" "Network.post" (defArgs s_Network_post) (defBody s_Network_post) (defScope s_Network_post) [] [] (He.ma K (He.ga K "Network") "post") fd_Network_post
  fd_Network_take_out : FuncData
  F_Network_take_out : FunD K "take_out" "Network.take_out" (defArgs s_Network_take_out) (defBody s_Network_take_out) (defScope s_Network_take_out) [] [] (He.ma K (He.ga K "Network") "take_out") fd_Network_take_out
  fd_Network_repeat : FuncData
  F_Network_repeat : FunD K "repeat" "Network.repeat" (defArgs s_Network_repeat) (defBody s_Network_repeat) (defScope s_Network_repeat) [] [] (He.ma K (He.ga K "Network") "repeat") fd_Network_repeat
  fd_Network_packets : FuncData
  F_Network_packets : FunD K "packets" "Network.packets" (defArgs s_Network_packets) (defBody s_Network_packets) (defScope s_Network_packets) [] [] (He.ma K (He.ga K "Network") "packets") fd_Network_packets
  fd_law_number : FuncData
  F_law_number : FunD K "_law_number" "_law_number" (defArgs s_law_number) (defBody s_law_number) (defScope s_law_number) [] [] (He.ga K "_law_number") fd_law_number
  fd_law_packet : FuncData
  F_law_packet : FunD K "_law_packet" "_law_packet" (defArgs s_law_packet) (defBody s_law_packet) (defScope s_law_packet) [] [] (He.ga K "_law_packet") fd_law_packet
  fd_law_holds : FuncData
  F_law_holds : FunD K "_law_holds" "_law_holds" (defArgs s_law_holds) (defBody s_law_holds) (defScope s_law_holds) [] [] (He.ga K "_law_holds") fd_law_holds
  fd_law_refuses : FuncData
  F_law_refuses : FunD K "_law_refuses" "_law_refuses" (defArgs s_law_refuses) (defBody s_law_refuses) (defScope s_law_refuses) [] [] (He.ga K "_law_refuses") fd_law_refuses
  fd_law_bad_index : FuncData
  F_law_bad_index : FunD K "_law_bad_index" "_law_bad_index" (defArgs s_law_bad_index) (defBody s_law_bad_index) (defScope s_law_bad_index) [] [] (He.ga K "_law_bad_index") fd_law_bad_index
  fd_law_posts : FuncData
  F_law_posts : FunD K "_law_posts" "_law_posts" (defArgs s_law_posts) (defBody s_law_posts) (defScope s_law_posts) [] [] (He.ga K "_law_posts") fd_law_posts
  fd_law_deed : FuncData
  F_law_deed : FunD K "_law_deed" "_law_deed" (defArgs s_law_deed) (defBody s_law_deed) (defScope s_law_deed) [] [] (He.ga K "_law_deed") fd_law_deed
  fd_law : FuncData
  F_law : FunD K "law" "law" (defArgs s_law) (defBody s_law) (defScope s_law) [] [] (He.ga K "law") fd_law
section
variable {K : PySem.W.Frag} {mg : Str → Option Value}
theorem Txt.b_check_index (T : Txt K mg) : Binds K T.fd_check_index ["index", "count", "what"] [] := T.F_check_index.bindsN fun _ _ _ _ _ _ us hl => match us, hl with | [_, _, _], _ => rfl
theorem Txt.b_Network_init (T : Txt K mg) : Binds K T.fd_Network_init ["self"] [] := T.F_Network_init.bindsN fun _ _ _ _ _ _ us hl => match us, hl with | [_], _ => rfl
theorem Txt.b_Network_len (T : Txt K mg) : Binds K T.fd_Network_len ["self"] [] := T.F_Network_len.bindsN fun _ _ _ _ _ _ us hl => match us, hl with | [_], _ => rfl
theorem Txt.b_Network_iter (T : Txt K mg) : Binds K T.fd_Network_iter ["self"] [] := T.F_Network_iter.bindsN fun _ _ _ _ _ _ us hl => match us, hl with | [_], _ => rfl
theorem Txt.b_Network_post (T : Txt K mg) : Binds K T.fd_Network_post ["self", "packet"] [] := T.F_Network_post.bindsN fun _ _ _ _ _ _ us hl => match us, hl with | [_, _], _ => rfl
theorem Txt.b_Network_take_out (T : Txt K mg) : Binds K T.fd_Network_take_out ["self", "index"] [] := T.F_Network_take_out.bindsN fun _ _ _ _ _ _ us hl => match us, hl with | [_, _], _ => rfl
theorem Txt.b_Network_repeat (T : Txt K mg) : Binds K T.fd_Network_repeat ["self", "index"] [] := T.F_Network_repeat.bindsN fun _ _ _ _ _ _ us hl => match us, hl with | [_, _], _ => rfl
theorem Txt.b_Network_packets (T : Txt K mg) : Binds K T.fd_Network_packets ["self"] [] := T.F_Network_packets.bindsN fun _ _ _ _ _ _ us hl => match us, hl with | [_], _ => rfl
theorem Txt.b_law_number (T : Txt K mg) : Binds K T.fd_law_number ["cell", "k"] [] := T.F_law_number.bindsN fun _ _ _ _ _ _ us hl => match us, hl with | [_, _], _ => rfl
theorem Txt.b_law_packet (T : Txt K mg) : Binds K T.fd_law_packet ["part"] [] := T.F_law_packet.bindsN fun _ _ _ _ _ _ us hl => match us, hl with | [_], _ => rfl
theorem Txt.b_law_holds (T : Txt K mg) : Binds K T.fd_law_holds ["net", "bag"] [] := T.F_law_holds.bindsN fun _ _ _ _ _ _ us hl => match us, hl with | [_, _], _ => rfl
theorem Txt.b_law_refuses (T : Txt K mg) : Binds K T.fd_law_refuses ["net", "index", "repeats"] [] := T.F_law_refuses.bindsN fun _ _ _ _ _ _ us hl => match us, hl with | [_, _, _], _ => rfl
theorem Txt.b_law_bad_index (T : Txt K mg) : Binds K T.fd_law_bad_index ["part", "many"] [] := T.F_law_bad_index.bindsN fun _ _ _ _ _ _ us hl => match us, hl with | [_, _], _ => rfl
theorem Txt.b_law_posts (T : Txt K mg) : Binds K T.fd_law_posts ["net", "bag", "part"] [] := T.F_law_posts.bindsN fun _ _ _ _ _ _ us hl => match us, hl with | [_, _, _], _ => rfl
theorem Txt.b_law_deed (T : Txt K mg) : Binds K T.fd_law_deed ["net", "bag", "part"] [] := T.F_law_deed.bindsN fun _ _ _ _ _ _ us hl => match us, hl with | [_, _, _], _ => rfl
theorem Txt.b_law (T : Txt K mg) : Binds K T.fd_law ["script"] [] := T.F_law.bindsN fun _ _ _ _ _ _ us hl => match us, hl with | [_], _ => rfl
end
/-! ### the data -/
def netf (l : Addr) : List (Str × V) := putF "_packets" (.ref l) []
theorem netf_p (l : Addr) : (netf l).lookup ("_packets" : Str) = some (.ref l) := by
  unfold netf
  rw [lookup_putF, if_pos rfl]
theorem netf_no (l : Addr) {m : Str} (h : ¬ m = "_packets") : (netf l).lookup m = none := by
  unfold netf
  rw [lookup_putF, if_neg h]
  all_goals rfl
abbrev cN (K : PySem.W.Frag) : Addr := He.ga K "Network"
abbrev cU (K : PySem.W.Frag) : Addr := He.ga K "Unknown"
/-- a network stands at p, its list at l holds the packets xs -/
structure NetAt (C : Addr) (H : Hp) (p l : Addr) (xs : List V) : Prop where
  ob : ∃ dx, H p = some (.ins C dx (netf l))
  ls : H l = some (.lst xs)
theorem NetAt.same {C : Addr} {H H' : Hp} {p l : Addr} {xs : List V} (R : NetAt C H p l xs) (s : Same H H') : NetAt C H' p l xs := by
  obtain ⟨⟨dx, h⟩, h2⟩ := R
  exact ⟨⟨dx, s _ _ h⟩, s _ _ h2⟩
theorem at_map {α : Type} {f : α → V} {xs : List α} {i : Int} {j : Nat} {a : α} (e : i = (j : Int)) (h : xs[j]? = some a) : atI (xs.map f) i = some (f a) :=
  at_of e (by rw [List.getElem?_map, h]; all_goals rfl)
theorem tds_all {H : Hp} {n : Nat} : ∀ {xs : List V}, (∀ v ∈ xs, TupD H n v) → ∃ ds, TDs H xs ds ∧ PyData.depthAll ds ≤ n
  | [], _ => ⟨[], .nil, by simp [PyData.depthAll]⟩
  | x :: xs, h => by
    obtain ⟨a, ys, ds, rfl, h1, h2, h3⟩ := h x (List.mem_cons_self ..)
    obtain ⟨es, h4, h5⟩ := tds_all fun v hv => h v (List.mem_cons_of_mem _ hv)
    exact ⟨.tuple ds :: es, .cons (.tup h1 h2) h4, by rw [PyData.depthAll]; exact Nat.max_le.mpr ⟨h3, h5⟩⟩
theorem lst_dat {K : PySem.W.Frag} {H : Hp} {n : Nat} {xs : List V} (h : ∀ v ∈ xs, TupD H n v) (hn : n ≤ 60) : ∃ ds, DpAll K H xs ds ∧ SeqAt.shaped (.list ds) = true ∧ PyData.eqv (.list ds) (.list ds) = true := by
  obtain ⟨ds, h1, h2⟩ := tds_all h
  have lay : (PyData.list ds).canLay0 = true := by rw [PyData.canLay0]; exact TDs.lay h1
  exact ⟨ds, h1.dp, shaped_of lay (by rw [PyData.depth]; omega), SeqAt.eqv_refl _ lay⟩
/-! ### the promises -/
def spInit (K : PySem.W.Frag) : Sp := fun vs H Q _ => ∃ (p dx : Addr), vs = [.ref p] ∧ H p = some (.ins (cN K) dx []) ∧ ∀ (l : Addr) (H' : Hp), NetAt (cN K) H' p l [] → H l = none → (∀ b o, H b = some o → b ≠ p → H' b = some o) → Q .non H'
def spLen (K : PySem.W.Frag) : Sp := fun vs H Q _ => ∃ (p l : Addr) (xs : List V), vs = [.ref p] ∧ NetAt (cN K) H p l xs ∧ Q (.int (xs.length : Int)) H
def spIter (K : PySem.W.Frag) : Sp := fun vs H Q _ => ∃ (p l : Addr) (xs : List V), vs = [.ref p] ∧ NetAt (cN K) H p l xs ∧ ∀ it, H it = none → Q (.ref it) (upd H it (ItO l it 0))
def spPost (K : PySem.W.Frag) : Sp := fun vs H Q _ => ∃ (p l : Addr) (xs : List V) (v : V), vs = [.ref p, v] ∧ NetAt (cN K) H p l xs ∧ xs.length < sizeLine ∧ Q .non (upd H l (.lst (xs ++ [v])))
def spPackets (K : PySem.W.Frag) : Sp := fun vs H Q _ => ∃ (p l : Addr) (xs : List V), vs = [.ref p] ∧ NetAt (cN K) H p l xs ∧ ∀ q, H q = none → Q (.ref q) (upd H q (.lst xs))
def spCheck (K : PySem.W.Frag) : Sp := fun vs H Q E => ∃ (i n : Int) (z : Str), vs = [.int i, .int n, .str z] ∧ z.length ≤ 100 ∧ (¬ (0 ≤ i ∧ i < n) → E (.ref (cU K)) none H) ∧ (0 ≤ i ∧ i < n → Q .non H)
def spTake (K : PySem.W.Frag) : Sp := fun vs H Q E => ∃ (p l : Addr) (xs : List V) (i : Int), vs = [.ref p, .int i] ∧ NetAt (cN K) H p l xs ∧ xs.length ≤ 100000 ∧ (¬ (0 ≤ i ∧ i < (xs.length : Int)) → E (.ref (cU K)) none H) ∧
  (∀ (j : Nat) (v : V), i = (j : Int) → xs[j]? = some v → Q v (upd H l (.lst (xs.eraseIdx j))))
def spRepeat (K : PySem.W.Frag) : Sp := fun vs H Q E => ∃ (p l : Addr) (xs : List V) (i : Int), vs = [.ref p, .int i] ∧ NetAt (cN K) H p l xs ∧ xs.length ≤ 100000 ∧ (¬ (0 ≤ i ∧ i < (xs.length : Int)) → E (.ref (cU K)) none H) ∧
  (∀ (j : Nat) (v : V), i = (j : Int) → xs[j]? = some v → Q .non (upd H l (.lst (xs ++ [v]))))
def spNumber : Sp := fun vs H Q _ => ∃ z k : Int, vs = [.int z, .int k] ∧ ∀ r : Int, Q (.int r) H
def spPacket : Sp := fun vs H Q _ => ∃ z : Int, vs = [.int z] ∧ ∀ (a : Addr) (H' : Hp), Same H H' → TupD H' 5 (.ref a) → Q (.ref a) H'
def spBad : Sp := fun vs H Q _ => ∃ z n : Int, vs = [.int z, .int n] ∧ 0 ≤ n ∧ ∀ r : Int, ¬ (0 ≤ r ∧ r < n) → Q (.int r) H
def spHolds (K : PySem.W.Frag) : Sp := fun vs H Q _ => ∃ (p l b : Addr) (L : List V), vs = [.ref p, .ref b] ∧ NetAt (cN K) H p l L ∧ H b = some (.lst L) ∧ L.length ≤ 100000 ∧ (∀ v ∈ L, TupD H 5 v) ∧ ∀ H' : Hp, Same H H' → Q (.bl true) H'
def spRefuses (K : PySem.W.Frag) : Sp := fun vs H Q _ => ∃ (p l : Addr) (xs : List V) (i : Int) (r : Bool), vs = [.ref p, .int i, .bl r] ∧ NetAt (cN K) H p l xs ∧ xs.length ≤ 100000 ∧ ¬ (0 ≤ i ∧ i < (xs.length : Int)) ∧ Q (.bl true) H
/-- a network and the law's own list of its packets, while a deed is done -/
structure BagAt (C : Addr) (H0 H : Hp) (p l b : Addr) (L : List V) : Prop where
  net : NetAt C H p l L
  ls : H b = some (.lst L)
  dt : ∀ v ∈ L, TupD H 5 v
  kp : ∀ c o, H0 c = some o → c ≠ b → c ≠ l → H c = some o
def spPosts (K : PySem.W.Frag) : Sp := fun vs H Q _ => ∃ (p l b : Addr) (L : List V) (part : Int), vs = [.ref p, .ref b, .int part] ∧ BagAt (cN K) H H p l b L ∧ b ≠ l ∧ L.length ≤ 90000 ∧
  ∀ (L' : List V) (H' : Hp), L'.length ≤ L.length + 1000 → BagAt (cN K) H H' p l b L' → Q (.bl true) H'
def spDeed (K : PySem.W.Frag) : Sp := fun vs H Q _ => ∃ (p l b : Addr) (L : List V) (part : Int), vs = [.ref p, .ref b, .int part] ∧ BagAt (cN K) H H p l b L ∧ b ≠ l ∧ L.length ≤ 90000 ∧
  ∀ (L' : List V) (H' : Hp), L'.length ≤ L.length + 1000 → BagAt (cN K) H H' p l b L' → Q (.bl true) H'
def spLaw (K : PySem.W.Frag) : Sp := fun vs H Q _ => ∃ (a : Addr) (ns : List Int), vs = [.ref a] ∧ SqL K H a (ns.map V.int) ∧ ns.length ≤ 63 ∧ ∀ H', Q (.bl true) H'
section
variable {P : Program} {w : World} {K : PySem.W.Frag} {mg : Str → Option Value} {base : Heap}
theorem ok_Network_init (T : Txt K mg) : FnOk P w K mg base CX0 1 (He.ma K (He.ga K "Network") "__init__") T.fd_Network_init ["self"] (spInit K) := by
  refine T.F_Network_init.ok sc_Network_init (fun vs H Q E h => ?_) (fun cdv A outer s H vs Q E hr h => ?_)
  · obtain ⟨p, dx, rfl, _⟩ := h
    rfl
  · obtain ⟨p, dx, rfl, hp, k⟩ := h
    refine ⟨_, PSs.nox (pss_one (ps_fld (pv 0) (pe_lst pa_nil) rfl)), ?_⟩
    refine ⟨Nat.zero_le _, fun l hl => ?_⟩
    have npl : p ≠ l := ne_of_none hp hl
    refine ⟨_, rfl, p, _, dx, [], rfl, (by rw [upd_ne npl]; exact hp), T.cl_Network, T.n_Network__packets, (by show 0 < 1000; decide), ?_⟩
    refine k l _ ⟨⟨dx, upd_same⟩, by rw [upd_ne npl.symm, upd_same]⟩ hl fun b o e hb => ?_
    rw [upd_ne hb, upd_ne (ne_of_none e hl)]
    exact e
theorem ok_Network_len (T : Txt K mg) : FnOk P w K mg base CX0 1 (He.ma K (He.ga K "Network") "__len__") T.fd_Network_len ["self"] (spLen K) := by
  refine T.F_Network_len.ok sc_Network_len (fun vs H Q E h => ?_) (fun cdv A outer s H vs Q E hr h => ?_)
  · obtain ⟨p, l, xs, rfl, _⟩ := h
    rfl
  · obtain ⟨p, l, xs, rfl, ⟨⟨dx, h1⟩, h2⟩, q⟩ := h
    refine ⟨_, PSs.nox (pss_one (ps_ret (pe_callB call_len_seq (by rfl) T.z_len (by decide +kernel) (pa_cons (pe_fld (pv 0) rfl) pa_nil)))), ?_⟩
    exact ⟨_, rfl, p, _, dx, _, _, rfl, h1, T.cl_Network, T.n_Network__packets, netf_p _, l, _, rfl, .inl (SqL.of h2), q⟩
theorem ok_Network_iter (T : Txt K mg) : FnOk P w K mg base CX0 1 (He.ma K (He.ga K "Network") "__iter__") T.fd_Network_iter ["self"] (spIter K) := by
  refine T.F_Network_iter.ok sc_Network_iter (fun vs H Q E h => ?_) (fun cdv A outer s H vs Q E hr h => ?_)
  · obtain ⟨p, l, xs, rfl, _⟩ := h
    rfl
  · obtain ⟨p, l, xs, rfl, ⟨⟨dx, h1⟩, h2⟩, q⟩ := h
    refine ⟨_, PSs.nox (pss_one (ps_ret (pe_callB call_iterL (by rfl) T.z_iter (by decide +kernel) (pa_cons (pe_fld (pv 0) rfl) pa_nil)))), ?_⟩
    exact ⟨_, rfl, p, _, dx, _, _, rfl, h1, T.cl_Network, T.n_Network__packets, netf_p _, l, _, rfl, SqL.of h2, q⟩
theorem ok_Network_post (T : Txt K mg) : FnOk P w K mg base CX0 1 (He.ma K (He.ga K "Network") "post") T.fd_Network_post ["self", "packet"] (spPost K) := by
  refine T.F_Network_post.ok sc_Network_post (fun vs H Q E h => ?_) (fun cdv A outer s H vs Q E hr h => ?_)
  · obtain ⟨p, l, xs, v, rfl, _⟩ := h
    rfl
  · obtain ⟨p, l, xs, v, rfl, ⟨⟨dx, h1⟩, h2⟩, hz, q⟩ := h
    refine ⟨_, PSs.nox (pss_one (ps_expr (pe_bm PySem.F.plainAttrs_list PySem.F.slot_list_append PySem.F.type_list_append mt_append (pe_fld (pv 0) rfl) (pa_cons (pv 1) pa_nil)))), ?_⟩
    exact ⟨_, rfl, p, _, dx, _, _, rfl, h1, T.cl_Network, T.n_Network__packets, netf_p _, .inl ⟨rfl, _, SqL.of h2⟩, _, rfl, l, _, _, rfl, rfl, h2, hz, q⟩
theorem ok_Network_packets (T : Txt K mg) : FnOk P w K mg base CX0 1 (He.ma K (He.ga K "Network") "packets") T.fd_Network_packets ["self"] (spPackets K) := by
  refine T.F_Network_packets.ok sc_Network_packets (fun vs H Q E h => ?_) (fun cdv A outer s H vs Q E hr h => ?_)
  · obtain ⟨p, l, xs, rfl, _⟩ := h
    rfl
  · obtain ⟨p, l, xs, rfl, ⟨⟨dx, h1⟩, h2⟩, q⟩ := h
    refine ⟨_, PSs.nox (pss_one (ps_ret (pe_callTy call_list_of (by rfl) T.z_list (by decide +kernel) (pa_cons (pe_fld (pv 0) rfl) pa_nil)))), ?_⟩
    exact ⟨_, rfl, p, _, dx, _, _, rfl, h1, T.cl_Network, T.n_Network__packets, netf_p _, l, _, rfl, .inl (SqL.of h2), q⟩
theorem ok_check_index (T : Txt K mg) : FnOk P w K mg base (L2.CX P w) 1 (He.ga K "check_index") T.fd_check_index ["index", "count", "what"] (spCheck K) := by
  refine T.F_check_index.ok sc_check_index (fun vs H Q E h => ?_) (fun cdv A outer s H vs Q E hr h => ?_)
  · obtain ⟨i, n, z, rfl, _⟩ := h
    rfl
  · obtain ⟨i, n, z, rfl, hz, qe, q⟩ := h
    refine ⟨_, (pss_one (ps_if (PW.pt (pw_or (pt_cmpR op_lt (pv 0) pe_int (nomark _)) (pw_or1 (pt_cmpR op_ge (pv 0) (pv 1) (nomark _)))))
      (pss_one (ps_raise rfl (takes_of rfl rfl rfl rfl) (pmk_ownA PySem.F.excBase_ValueError T.x_Unknown.1 T.mg_Unknown T.x_Unknown.2.1 (raises_own T.x_Unknown.2.2.1 T.x_Unknown.2.2.2) rfl (pa_cons (pe_joined (.cons pe_str (.cons (pe_fmt (pv 2)) .nil))) pa_nil))))
      pss_nil)), ?_⟩
    have lz : z.length ≤ sizeLine := Nat.le_trans hz (by decide)
    have lj : (Str.empty ++ (Str.ofString "there is no such ") ++ z).length ≤ sizeLine := by
      rw [Str.length_append, Str.length_append]
      exact Nat.le_trans (Nat.add_le_add_left hz _) (by decide)
    refine ⟨_, rfl, _, _, rfl, rfl, _, rfl, ?_⟩
    refine ite2 (fun c => ?_) (fun c => ?_)
    · refine iteT ?_
      refine ⟨_, rfl, (by decide), _, rfl, .inl ⟨z, rfl, lz, _, rfl, lj, (by show 1 ≤ sizeLine; decide), qe fun y => ?_⟩⟩
      have := of_decide_eq_true c
      omega
    · refine ⟨_, rfl, _, rfl, _, _, rfl, rfl, _, rfl, ?_⟩
      refine ite2 (fun c2 => ?_) (fun c2 => ?_)
      · refine ⟨_, rfl, (by decide), _, rfl, .inl ⟨z, rfl, lz, _, rfl, lj, (by show 1 ≤ sizeLine; decide), qe fun y => ?_⟩⟩
        have := of_decide_eq_true c2
        omega
      · refine q ⟨?_, ?_⟩
        · have : ¬ i < 0 := fun y => c (decide_eq_true y)
          omega
        · have : ¬ n ≤ i := fun y => c2 (decide_eq_true y)
          omega
theorem ok_Network_take_out (T : Txt K mg) : FnOk P w K mg base (L2.CX P w) 3 (He.ma K (He.ga K "Network") "take_out") T.fd_Network_take_out ["self", "index"] (spTake K) := by
  refine T.F_Network_take_out.ok sc_Network_take_out (fun vs H Q E h => ?_) (fun cdv A outer s H vs Q E hr h => ?_)
  · obtain ⟨p, l, xs, i, rfl, _⟩ := h
    rfl
  · obtain ⟨p, l, xs, i, rfl, ⟨⟨dx, h1⟩, h2⟩, hz, qe, q⟩ := h
    refine ⟨_, (pss_cons (ps_expr (pe_call (ok_check_index T) (hr.mono (by decide)) (by rfl) T.g_check_index T.F_check_index.kp T.b_check_index .nil (passes_call (takes_of rfl rfl rfl rfl) (fun _ _ _ _ h => h)) (pa_cons (pv 1) (pa_cons (pe_callB call_len_seq (by rfl) T.z_len (by decide +kernel) (pa_cons (pe_fld (pv 0) rfl) pa_nil)) (pa_cons pe_str pa_nil)))))
    (pss_one (ps_ret (pe_bm PySem.F.plainAttrs_list PySem.F.slot_list_pop PySem.F.type_list_pop mt_popAt (pe_fld (pv 0) rfl) (pa_cons (pv 1) pa_nil))))), ?_⟩
    refine ⟨_, rfl, _, rfl, p, _, dx, _, _, rfl, h1, T.cl_Network, T.n_Network__packets, netf_p _, l, _, rfl, .inl (SqL.of h2), i, _, _, rfl, (by decide), qe, fun hi => ?_⟩
    obtain ⟨j, ej⟩ : ∃ j : Nat, i = (j : Int) := ⟨i.toNat, by omega⟩
    have hj : j < xs.length := by omega
    obtain ⟨v, hv⟩ : ∃ v, xs[j]? = some v := ⟨xs[j], List.getElem?_eq_getElem hj⟩
    have hk : seqIndex? i xs.length = some j := (ixN_seq (n := xs.length) (i := i) (by unfold ixN; rw [if_pos (by omega), if_pos (by omega), ej]; simp)).1
    exact ⟨_, rfl, p, _, dx, _, _, rfl, h1, T.cl_Network, T.n_Network__packets, netf_p _, .inl ⟨rfl, _, SqL.of h2⟩, _, rfl, l, xs, i, j, v, rfl, rfl, h2, by omega, by omega, hk, hv, q j v ej hv⟩
theorem ok_Network_repeat (T : Txt K mg) : FnOk P w K mg base (L2.CX P w) 3 (He.ma K (He.ga K "Network") "repeat") T.fd_Network_repeat ["self", "index"] (spRepeat K) := by
  refine T.F_Network_repeat.ok sc_Network_repeat (fun vs H Q E h => ?_) (fun cdv A outer s H vs Q E hr h => ?_)
  · obtain ⟨p, l, xs, i, rfl, _⟩ := h
    rfl
  · obtain ⟨p, l, xs, i, rfl, ⟨⟨dx, h1⟩, h2⟩, hz, qe, q⟩ := h
    refine ⟨_, (pss_cons (ps_expr (pe_call (ok_check_index T) (hr.mono (by decide)) (by rfl) T.g_check_index T.F_check_index.kp T.b_check_index .nil (passes_call (takes_of rfl rfl rfl rfl) (fun _ _ _ _ h => h)) (pa_cons (pv 1) (pa_cons (pe_callB call_len_seq (by rfl) T.z_len (by decide +kernel) (pa_cons (pe_fld (pv 0) rfl) pa_nil)) (pa_cons pe_str pa_nil)))))
    (pss_one (ps_expr (pe_bm PySem.F.plainAttrs_list PySem.F.slot_list_append PySem.F.type_list_append mt_append (pe_fld (pv 0) rfl) (pa_cons (pe_ix ix_list (pe_fld (pv 0) rfl) (pv 1) (fun _ _ => rfl)) pa_nil))))), ?_⟩
    refine ⟨_, rfl, _, rfl, p, _, dx, _, _, rfl, h1, T.cl_Network, T.n_Network__packets, netf_p _, l, _, rfl, .inl (SqL.of h2), i, _, _, rfl, (by decide), qe, fun hi => ?_⟩
    obtain ⟨j, ej⟩ : ∃ j : Nat, i = (j : Int) := ⟨i.toNat, by omega⟩
    have hj : j < xs.length := by omega
    obtain ⟨v, hv⟩ : ∃ v, xs[j]? = some v := ⟨xs[j], List.getElem?_eq_getElem hj⟩
    have hs : (100000 : Nat) < sizeLine := by decide
    exact ⟨_, rfl, p, _, dx, _, _, rfl, h1, T.cl_Network, T.n_Network__packets, netf_p _, .inl ⟨rfl, _, SqL.of h2⟩, _, rfl, p, _, dx, _, _, rfl, h1, T.cl_Network, T.n_Network__packets, netf_p _, _, rfl, l, _, _, _, rfl, rfl, SqL.of h2, at_of ej hv, l, _, _, rfl, rfl, h2, by omega, q j v ej hv⟩
theorem ok_law_number (T : Txt K mg) : FnOk P w K mg base CX0 1 (He.ga K "_law_number") T.fd_law_number ["cell", "k"] spNumber := by
  refine T.F_law_number.ok sc_law_number (fun vs H Q E h => ?_) (fun cdv A outer s H vs Q E hr h => ?_)
  · obtain ⟨z, j, rfl, _⟩ := h
    rfl
  · obtain ⟨z, j, rfl, k⟩ := h
    refine ⟨_, PSs.nox (pss_cons (ps_if (pt_cmpR op_ge (pv 0) (pe_op op_pow pe_int pe_int) (nomark _))
      (pss_one (ps_ret (pe_op op_sub (pv 0) (pe_op op_pow pe_int pe_int))))
      pss_nil)
    (pss_cons (ps_set (i := 2) sc_law_number.nd rfl (Or.inl rfl) (pe_op op_mod (pe_callTy call_int1 (by rfl) T.z_int (by decide +kernel) (pa_cons (pe_op op_add (pe_op op_add (pe_op op_mul (pv 0) pe_int) (pe_op op_mul (pv 1) pe_int)) pe_int) pa_nil)) pe_int))
    (pss_cons (ps_set (i := 3) sc_law_number.nd rfl (Or.inl rfl) (pe_op op_mod (pe_callTy call_int1 (by rfl) T.z_int (by decide +kernel) (pa_cons (pe_op op_add (pe_op op_mul (pv 2) (pe_op op_add (pe_op op_add (pe_op op_fdiv (pv 2) pe_int) (pv 1)) pe_int)) pe_int) pa_nil)) pe_int))
    (pss_one (ps_ret (pe_op op_add (pv 2) (pe_op op_mul (pv 3) pe_int))))))), ?_⟩
    refine ⟨_, rfl, _, _, rfl, rfl, ⟨by decide, by decide, by decide⟩, _, _, rfl, rfl, _, rfl, ?_⟩
    refine ite2 (fun _ => ?_) (fun _ => ?_)
    · refine ⟨_, rfl, _, _, rfl, rfl, ⟨by decide, by decide, by decide⟩, _, _, rfl, rfl, ?_⟩
      exact k _
    · refine ⟨_, rfl, _, _, rfl, rfl, .inr ⟨by decide, by decide⟩, _, rfl, _, _, rfl, rfl, .inr ⟨by decide, by decide⟩, _, _, rfl, rfl, _, _, rfl, rfl, .inl ⟨_, rfl, _, _, rfl, rfl, (by show (0 : Int) < 2147483647; decide), ?_⟩⟩
      refine ⟨_, rfl, _, rfl, _, _, rfl, rfl, ⟨by decide, by decide⟩, _, rfl, _, _, rfl, rfl, _, _, rfl, rfl, _, _, rfl, rfl, (.inl ⟨by omega, by omega⟩), _, _, rfl, rfl, .inl ⟨_, rfl, _, _, rfl, rfl, (by show (0 : Int) < 2147483629; decide), ?_⟩⟩
      refine ⟨_, rfl, _, rfl, _, _, rfl, rfl, .inr ⟨by decide, by decide⟩, _, _, rfl, rfl, ?_⟩
      exact k _
theorem ok_law_packet (T : Txt K mg) : FnOk P w K mg base CX0 1 (He.ga K "_law_packet") T.fd_law_packet ["part"] spPacket := by
  refine T.F_law_packet.ok sc_law_packet (fun vs H Q E h => ?_) (fun cdv A outer s H vs Q E hr h => ?_)
  · obtain ⟨z, rfl, _⟩ := h
    rfl
  · obtain ⟨z, rfl, k⟩ := h
    refine ⟨_, PSs.nox (pss_cons (ps_set (i := 1) sc_law_packet.nd rfl (Or.inl rfl) (pe_op op_mod (pe_callTy call_int1 (by rfl) T.z_int (by decide +kernel) (pa_cons (pv 0) pa_nil)) pe_int))
    (pss_cons (ps_set (i := 2) sc_law_packet.nd rfl (Or.inl rfl) (pe_op op_mod (pe_callTy call_int1 (by rfl) T.z_int (by decide +kernel) (pa_cons (pe_op op_fdiv (pv 0) pe_int) pa_nil)) pe_int))
    (pss_cons (ps_set (i := 3) sc_law_packet.nd rfl (Or.inl rfl) (pe_op op_mod (pe_callTy call_int1 (by rfl) T.z_int (by decide +kernel) (pa_cons (pe_op op_fdiv (pv 0) pe_int) pa_nil)) (pe_op op_pow pe_int pe_int)))
    (pss_cons (ps_if (pt_cmpR op_eq (pe_op op_mod (pe_callTy call_int1 (by rfl) T.z_int (by decide +kernel) (pa_cons (pe_op op_fdiv (pv 0) pe_int) pa_nil)) pe_int) pe_int (nomark _))
      (pss_one (ps_ret (pe_tup (pa_cons (pv 1) (pa_cons (pv 2) (pa_cons pe_str (pa_cons (pv 3) (pa_cons pe_non pa_nil))))))))
      pss_nil)
    (pss_cons (ps_if (pt_cmpR op_eq (pe_op op_mod (pe_callTy call_int1 (by rfl) T.z_int (by decide +kernel) (pa_cons (pe_op op_fdiv (pv 0) pe_int) pa_nil)) pe_int) pe_int (nomark _))
      (pss_one (ps_ret (pe_tup (pa_cons (pv 1) (pa_cons (pv 2) (pa_cons pe_str (pa_cons (pv 3) (pa_cons (pe_tup (pa_cons pe_str (pa_cons (pe_op op_fdiv (pv 3) pe_int) pa_nil))) pa_nil))))))))
      pss_nil)
    (pss_one (ps_ret (pe_tup (pa_cons (pv 1) (pa_cons (pv 2) (pa_cons pe_str (pa_cons (pv 3) (pa_cons (pe_tup (pa_cons pe_str (pa_cons (pv 3) (pa_cons (pe_tup (pa_cons (pv 2) (pa_cons (pe_op op_fdiv (pv 3) pe_int) pa_nil))) (pa_cons pe_non pa_nil))))) pa_nil))))))))))))), ?_⟩
    refine ⟨_, rfl, .inl ⟨_, rfl, _, _, rfl, rfl, (by show (0 : Int) < 8; decide), ?_⟩⟩
    refine ⟨_, rfl, _, _, rfl, rfl, ⟨by decide, by decide⟩, .inl ⟨_, rfl, _, _, rfl, rfl, (by show (0 : Int) < 8; decide), ?_⟩⟩
    refine ⟨_, rfl, _, _, rfl, rfl, ⟨by decide, by decide⟩, .inl ⟨_, rfl, _, _, rfl, rfl, ⟨by decide, by decide, by decide⟩, _, _, rfl, rfl, (by show (0 : Int) < 10 ^ Int.toNat 12; decide +kernel), ?_⟩⟩
    refine ⟨_, rfl, _, _, rfl, rfl, ⟨by decide, by decide⟩, .inl ⟨_, rfl, _, _, rfl, rfl, (by show (0 : Int) < 3; decide), rfl, _, rfl, ?_⟩⟩
    refine ite2 (fun _ => ?_) (fun _ => ?_)
    · refine ⟨_, rfl, _, rfl, _, rfl, (by show 5 ≤ sizeLine; decide), fun u hu => ?_⟩
      exact k u _ (Same.new hu) (TupD.new hu (.cons (.int _) (.cons (.int _) (.cons (.str _ (by decide +kernel)) (.cons (.int _) (.cons .non .nil))))) (by simp [PyData.depth, PyData.depthAll]))
    refine ⟨_, rfl, _, _, rfl, rfl, ⟨by decide, by decide⟩, .inl ⟨_, rfl, _, _, rfl, rfl, (by show (0 : Int) < 3; decide), rfl, _, rfl, ?_⟩⟩
    refine ite2 (fun _ => ?_) (fun _ => ?_)
    · refine ⟨_, rfl, _, rfl, _, rfl, _, rfl, _, _, rfl, rfl, ⟨by decide, by decide⟩, (by show 2 ≤ sizeLine; decide), fun t ht => ?_⟩
      refine ⟨(by show 5 ≤ sizeLine; decide), fun u hu => ?_⟩
      exact k u _ ((Same.new ht).trans (Same.new hu)) (TupD.new hu (.cons (.int _) (.cons (.int _) (.cons (.str _ (by decide +kernel)) (.cons (.int _) (.cons (.tup upd_same (.cons (.str _ (by decide +kernel)) (.cons (.int _) .nil))) .nil))))) (by simp [PyData.depth, PyData.depthAll]))
    · refine ⟨_, rfl, _, rfl, _, rfl, _, rfl, _, rfl, _, rfl, _, _, rfl, rfl, ⟨by decide, by decide⟩, (by show 2 ≤ sizeLine; decide), fun t ht => ?_⟩
      refine ⟨(by show 4 ≤ sizeLine; decide), fun u hu => ?_⟩
      refine ⟨(by show 5 ≤ sizeLine; decide), fun v hv => ?_⟩
      exact k v _ (((Same.new ht).trans (Same.new hu)).trans (Same.new hv)) (TupD.new hv (.cons (.int _) (.cons (.int _) (.cons (.str _ (by decide +kernel)) (.cons (.int _) (.cons (.tup upd_same (.cons (.str _ (by decide +kernel)) (.cons (.int _) (.cons (.tup (Same.new hu _ _ upd_same) (.cons (.int _) (.cons (.int _) .nil))) (.cons .non .nil))))) .nil))))) (by simp [PyData.depth, PyData.depthAll]))
theorem ok_law_bad_index (T : Txt K mg) : FnOk P w K mg base CX0 1 (He.ga K "_law_bad_index") T.fd_law_bad_index ["part", "many"] spBad := by
  refine T.F_law_bad_index.ok sc_law_bad_index (fun vs H Q E h => ?_) (fun cdv A outer s H vs Q E hr h => ?_)
  · obtain ⟨z, n, rfl, _⟩ := h
    rfl
  · obtain ⟨z, n, rfl, n0, k⟩ := h
    refine ⟨_, PSs.nox (pss_cons (ps_set (i := 2) sc_law_bad_index.nd rfl (Or.inl rfl) (pe_op op_mod (pe_callTy call_int1 (by rfl) T.z_int (by decide +kernel) (pa_cons (pv 0) pa_nil)) pe_int))
    (pss_cons (ps_set (i := 3) sc_law_bad_index.nd rfl (Or.inl rfl) (pe_op op_mod (pe_callTy call_int1 (by rfl) T.z_int (by decide +kernel) (pa_cons (pe_op op_fdiv (pv 0) pe_int) pa_nil)) (pe_op op_pow pe_int pe_int)))
    (pss_cons (ps_if (pt_cmpR op_eq (pv 2) pe_int (nomark _))
      (pss_one (ps_ret (pv 1)))
      pss_nil)
    (pss_cons (ps_if (pt_cmpR op_eq (pv 2) pe_int (nomark _))
      (pss_one (ps_ret (pe_un un_neg pe_int)))
      pss_nil)
    (pss_cons (ps_if (pt_cmpR op_eq (pv 2) pe_int (nomark _))
      (pss_one (ps_ret (pe_un un_neg (pv 1))))
      pss_nil)
    (pss_cons (ps_if (pt_cmpR op_eq (pv 2) pe_int (nomark _))
      (pss_one (ps_ret (pe_op op_add (pv 1) (pv 3))))
      pss_nil)
    (pss_one (ps_ret (pe_op op_sub (pe_un un_neg pe_int) (pv 3)))))))))), ?_⟩
    refine ⟨_, rfl, .inl ⟨_, rfl, _, _, rfl, rfl, (by show (0 : Int) < 5; decide), ?_⟩⟩
    refine ⟨_, rfl, _, _, rfl, rfl, ⟨by decide, by decide⟩, .inl ⟨_, rfl, _, _, rfl, rfl, ⟨by decide, by decide, by decide⟩, _, _, rfl, rfl, (by show (0 : Int) < 10 ^ Int.toNat 30; decide +kernel), ?_⟩⟩
    have h1 : 0 ≤ z / 5 % (10 ^ Int.toNat 30) := Int.emod_nonneg _ (by decide +kernel)
    refine ⟨_, rfl, rfl, _, rfl, ?_⟩
    refine ite2 (fun _ => ?_) (fun _ => ?_)
    · refine ⟨_, rfl, ?_⟩
      exact k _ (by omega)
    refine ⟨_, rfl, rfl, _, rfl, ?_⟩
    refine ite2 (fun _ => ?_) (fun _ => ?_)
    · refine ⟨_, rfl, ?_⟩
      exact k _ (by omega)
    refine ⟨_, rfl, rfl, _, rfl, ?_⟩
    refine ite2 (fun _ => ?_) (fun _ => ?_)
    · refine ⟨_, rfl, _, rfl, ?_⟩
      exact k _ (by omega)
    refine ⟨_, rfl, rfl, _, rfl, ?_⟩
    refine ite2 (fun _ => ?_) (fun _ => ?_)
    · refine ⟨_, rfl, _, rfl, _, _, rfl, rfl, ?_⟩
      refine k _ ?_
      show ¬ (0 ≤ n + z / 5 % (10 ^ Int.toNat 30) ∧ n + z / 5 % (10 ^ Int.toNat 30) < n)
      omega
    · refine ⟨_, rfl, _, rfl, _, _, rfl, rfl, ?_⟩
      refine k _ ?_
      show ¬ (0 ≤ -1 - z / 5 % (10 ^ Int.toNat 30) ∧ -1 - z / 5 % (10 ^ Int.toNat 30) < n)
      omega
def t_isE (K : PySem.W.Frag) (a : Addr) (c : V) : TE := tCB (rIsE K (cU K) a) (tCons (tVar 3) (tCons (tC c) tNil))
def t_body (K : PySem.W.Frag) : WX → TS := fun W => tIfS (tB (tVar 2)) (tDrop (tMethW (cN K) "repeat" (spRepeat K) (WE W) (tVar 0) (tCons (tVar 1) tNil))) (tDrop (tMethW (cN K) "take_out" (spTake K) (WE W) (tVar 0) (tCons (tVar 1) tNil)))
def t_suite (K : PySem.W.Frag) : Addr → Value → Option Addr → TS := fun a cls d D σ H => (cls = .ref (cU K) ∧ d = none) ∧
  tSeq (tIfS (tOr (tB (t_isE K a (.ref (He.ga K "Empty")))) (tOr (tB (t_isE K a (.ref (He.ga K "NotNear")))) (tB (t_isE K a (.ref (He.ga K "NotFar")))))) (tRet (tC (.bl false))) tNext)
    (tRet (tAndV (t_isE K a (.ref (He.ga K "FarheapError"))) (t_isE K a (.ty "ValueError")))) D σ H
theorem ok_law_refuses (T : Txt K mg) : FnOk P w K mg base CX0 4 (He.ga K "_law_refuses") T.fd_law_refuses ["net", "index", "repeats"] (spRefuses K) := by
  refine T.F_law_refuses.ok sc_law_refuses (fun vs H Q E h => ?_) (fun cdv A outer s H vs Q E hr h => ?_)
  · obtain ⟨p, l, xs, i, r, rfl, _⟩ := h
    rfl
  · obtain ⟨p, l, xs, i, r, rfl, ⟨⟨dx, h1⟩, h2⟩, hz, hbad, k⟩ := h
    refine ⟨_, PSs.nox (pss_cons (ps_try_as (i := 3) (c := .ref (cU K)) (tb := t_body K) (ts := t_suite K) (Wout := fun _ _ _ _ => False) rfl rfl sc_law_refuses.nd rfl rfl ⟨rfl, by decide, Or.inl T.mg_Unknown⟩ takes0
      (fun W pn xe tk _ => pss_one (ps_if (pt_val (pv 2))
        (pss_one (ps_expr (pe_methW (pv 0) T.cl_Network T.m_Network_repeat (ok_Network_repeat T) (hr.mono (by decide)) T.b_Network_repeat (fun σ => passAt tk σ) (pa_cons (pv 1) pa_nil))))
        (pss_one (ps_expr (pe_methW (pv 0) T.cl_Network T.m_Network_take_out (ok_Network_take_out T) (hr.mono (by decide)) T.b_Network_take_out (fun σ => passAt tk σ) (pa_cons (pv 1) pa_nil))))))
      (fun a oe cls d pn hz hf => pss_when fun hcd => by
        obtain ⟨rfl, rfl⟩ := hcd
        exact (pss_cons (ps_if (PW.pt (pw_or (pt_val (pe_callB (call_isE T.ec_Unknown hz hf) (by rfl) T.z_isinstance (by decide +kernel) (pa_cons (pv 3) (pa_cons (pe_glob (v := .ref (He.ga K "Empty")) (by rfl) T.mg_Empty rfl) pa_nil))))
          (pw_or (pt_val (pe_callB (call_isE T.ec_Unknown hz hf) (by rfl) T.z_isinstance (by decide +kernel) (pa_cons (pv 3) (pa_cons (pe_glob (v := .ref (He.ga K "NotNear")) (by rfl) T.mg_NotNear rfl) pa_nil))))
          (pw_or1 (pt_val (pe_callB (call_isE T.ec_Unknown hz hf) (by rfl) T.z_isinstance (by decide +kernel) (pa_cons (pv 3) (pa_cons (pe_glob (v := .ref (He.ga K "NotFar")) (by rfl) T.mg_NotFar rfl) pa_nil))))))))
          (pss_one (ps_ret pe_bl)) pss_nil)
          (pss_one (ps_ret (pe_and (pe_callB (call_isE T.ec_Unknown hz hf) (by rfl) T.z_isinstance (by decide +kernel) (pa_cons (pv 3) (pa_cons (pe_glob (v := .ref (He.ga K "FarheapError")) (by rfl) T.mg_FarheapError rfl) pa_nil)))
            (pe_one (pe_callB (call_isE T.ec_Unknown hz hf) (by rfl) T.z_isinstance (by decide +kernel) (pa_cons (pv 3) (pa_cons (pe_bltn (v := .ty "ValueError") (by rfl) T.z_ValueError (by decide +kernel) rfl) pa_nil))))))))))
    (pss_one (ps_ret pe_bl))), ?_⟩
    refine ⟨_, rfl, r, rfl, ?_⟩
    cases r with
    | true => exact iteT ⟨_, rfl, p, dx, _, rfl, h1, netf_no _ (by decide +kernel), _, rfl, p, l, xs, i, rfl, ⟨⟨dx, h1⟩, h2⟩, hz, fun _ => ⟨true, T.u_Unknown, fun _ a ha => ⟨⟨rfl, rfl⟩, _, rfl, _, _, false, rfl, fun u h => h, T.k_Empty, _, rfl, iteF ⟨_, rfl, _, _, false, rfl, fun u h => h, T.k_NotNear, _, rfl, iteF ⟨_, rfl, _, _, false, rfl, fun u h => h, T.k_NotFar, _, rfl, iteF
        ⟨_, rfl, _, _, true, rfl, fun u h => h, T.k_FarheapError, _, rfl, iteT ⟨_, rfl, _, _, true, rfl, fun u h => h, T.k_ValueError, k⟩⟩⟩⟩⟩, fun q => Bool.noConfusion q⟩, fun j v ej hv => absurd ⟨by omega, by rw [ej]; exact Int.ofNat_lt.mpr (List.getElem?_eq_some_iff.mp hv).1⟩ hbad⟩
    | false => exact iteF ⟨_, rfl, p, dx, _, rfl, h1, netf_no _ (by decide +kernel), _, rfl, p, l, xs, i, rfl, ⟨⟨dx, h1⟩, h2⟩, hz, fun _ => ⟨true, T.u_Unknown, fun _ a ha => ⟨⟨rfl, rfl⟩, _, rfl, _, _, false, rfl, fun u h => h, T.k_Empty, _, rfl, iteF ⟨_, rfl, _, _, false, rfl, fun u h => h, T.k_NotNear, _, rfl, iteF ⟨_, rfl, _, _, false, rfl, fun u h => h, T.k_NotFar, _, rfl, iteF
        ⟨_, rfl, _, _, true, rfl, fun u h => h, T.k_FarheapError, _, rfl, iteT ⟨_, rfl, _, _, true, rfl, fun u h => h, T.k_ValueError, k⟩⟩⟩⟩⟩, fun q => Bool.noConfusion q⟩, fun j v ej hv => absurd ⟨by omega, by rw [ej]; exact Int.ofNat_lt.mpr (List.getElem?_eq_some_iff.mp hv).1⟩ hbad⟩
theorem ok_law_holds (T : Txt K mg) : FnOk P w K mg base CX0 3 (He.ga K "_law_holds") T.fd_law_holds ["net", "bag"] (spHolds K) := by
  refine T.F_law_holds.ok sc_law_holds (fun vs H Q E h => ?_) (fun cdv A outer s H vs Q E hr h => ?_)
  · obtain ⟨p, l, b, L, rfl, _⟩ := h
    rfl
  · obtain ⟨p, l, b, L, rfl, R, hb, hz, hT, k⟩ := h
    refine ⟨_, PSs.nox (pss_cons (ps_if (pt_cmpR op_ne (pe_callB (Fh.call_lenO T.cl_Network T.m_Network_len (ok_Network_len T) (hr.mono (by decide)) T.b_Network_len pass0) (by rfl) T.z_len (by decide +kernel) (pa_cons (pv 0) pa_nil)) (pe_callB call_len_seq (by rfl) T.z_len (by decide +kernel) (pa_cons (pv 1) pa_nil)) (nomark _))
      (pss_one (ps_ret pe_bl))
      pss_nil)
    (pss_cons (ps_set (i := 2) sc_law_holds.nd rfl (Or.inl rfl) (pe_meth0 (pv 0) T.cl_Network T.m_Network_packets (ok_Network_packets T) (hr.mono (by decide)) T.b_Network_packets .nil pass0))
    (pss_cons (ps_if (PW.pt (pw_or (pt_not (pt_val (pe_callB call_isi (by rfl) T.z_isinstance (by decide +kernel) (pa_cons (pv 2) (pa_cons (pe_bltn (v := .ty "list") (by rfl) T.z_list (by decide +kernel) rfl) pa_nil))))) (pw_or1 (pt_cmpR (op_neD hr.units) (pv 2) (pv 1) (nomark _)))))
      (pss_one (ps_ret pe_bl))
      pss_nil)
    (pss_cons (ps_set (i := 3) sc_law_holds.nd rfl (Or.inl rfl) pe_int)
    (pss_cons (Fh.ps_forO PassesOwn.never rfl (pv 0) T.cl_Network T.m_Network_iter (ok_Network_iter T) (hr.mono (by decide)) T.b_Network_iter pass0 (pg_name (i := 4) sc_law_holds.nd rfl (Or.inl rfl))
      (pss_cons (ps_if (PW.pt (pw_or (pt_cmpR op_ge (pv 3) (pe_callB call_len_seq (by rfl) T.z_len (by decide +kernel) (pa_cons (pv 1) pa_nil)) (nomark _)) (pw_or (pt_not (pt_val (pe_callB call_isi (by rfl) T.z_isinstance (by decide +kernel) (pa_cons (pv 4) (pa_cons (pe_bltn (v := .ty "tuple") (by rfl) T.z_tuple (by decide +kernel) rfl) pa_nil))))) (pw_or1 (pt_cmpR (op_neD hr.units) (pv 4) (pe_ix ix_list (pv 1) (pv 3) (fun _ _ => rfl)) (nomark _))))))
        (pss_one (ps_ret pe_bl))
        pss_nil)
      (pss_one (ps_set (i := 3) sc_law_holds.nd rfl (Or.inl rfl) (pe_op op_add (pv 3) pe_int)))))
    (pss_one (ps_ret (pe_cmpR op_eq (pv 3) (pe_callB call_len_seq (by rfl) T.z_len (by decide +kernel) (pa_cons (pv 1) pa_nil)) (nomark _))))))))), ?_⟩
    obtain ⟨⟨dx, h1⟩, h2⟩ := id R
    refine ⟨_, rfl, p, dx, _, rfl, h1, p, l, L, rfl, R, _, rfl, by omega, by omega, _, rfl, b, _, rfl, .inl (SqL.of hb), rfl, _, rfl, iteNS rfl ?_⟩
    -- packets = net.packets()
    refine ⟨_, rfl, p, dx, _, rfl, h1, netf_no _ (by decide +kernel), p, l, L, rfl, R, fun q nq => ?_⟩
    have s1 : Same H (upd H q (.lst L)) := Same.new nq
    have hq : (upd H q (.lst L)) q = some (.lst L) := upd_same
    revert s1 hq
    generalize (upd H q (.lst L)) = H1
    intro s1 hq
    have hT1 : ∀ v ∈ L, TupD H1 5 v := fun v hv => (hT v hv).mono (TSame.of s1)
    obtain ⟨ds, hds, sh, ev⟩ := lst_dat (K := K) hT1 (by decide)
    have R1 := R.same s1
    have hb1 := s1 _ _ hb
    refine ⟨_, rfl, _, _, _, _, true, rfl, .ty _, .base (.lst hq), kit_ty (by decide +kernel), _, rfl, iteF ?_⟩
    refine ⟨_, rfl, _, rfl, _, _, .lst (SqL.of hq) hds, .lst (SqL.of hb1) hds, sh, sh, _, rfl, ?_⟩
    rw [ev]
    refine iteF ?_
    -- for packet in net
    refine ⟨_, rfl, p, dx, _, rfl, s1 _ _ h1, p, l, L, rfl, R1, fun it hit => ⟨it, l, rfl, upd_same, fun i m σ H => m = L.length - i ∧ i ≤ L.length ∧ (∃ v4 : Option V, σ = [some (.ref p), some (.ref b), some (.ref q), some (.int (i : Int)), v4]) ∧ H = upd H1 it (ItO l it i), ⟨L.length, rfl, Nat.zero_le _, ⟨none, rfl⟩, rfl⟩, ?_⟩⟩
    rintro i n σ H2 ⟨rfl, hi, ⟨v4, rfl⟩, rfl⟩
    have sN : ∀ o : HO, Same H1 (upd H1 it o) := fun o => Same.new hit
    refine ⟨upd_same, L, SqL.of (sN _ _ _ R1.ls), ?_⟩
    by_cases hlt : i < L.length
    · have hx : L[i]? = some L[i] := List.getElem?_eq_getElem hlt
      refine .inr ⟨L[i], hx, fun σ' H' => (∃ v4 : Option V, σ' = [some (.ref p), some (.ref b), some (.ref q), some (.int ((i + 1 : Nat) : Int)), v4]) ∧ H' = upd H1 it (ItO l it (i + 1)), fun σ' H' e => ⟨L.length - (i + 1), by omega, rfl, hlt, e.1, e.2⟩, ?_⟩
      rw [upd_upd]
      have sB := sN (ItO l it (i + 1))
      obtain ⟨c, ys, es, ec, hc, hes, hdep⟩ := (hT1 _ (List.mem_of_getElem? hx)).mono (TSame.of sB)
      rw [ec] at hx ⊢
      have td : TD (upd H1 it (ItO l it (i + 1))) (.ref c) (.tuple es) := .tup hc hes
      have sh2 := shaped_of td.lay (Nat.le_trans hdep (by decide))
      refine ⟨_, rfl, _, rfl, b, _, rfl, .inl (SqL.of (sB _ _ hb1)), _, _, rfl, rfl, _, rfl, ?_⟩
      rw [decide_eq_false (by omega)]
      refine iteF ?_
      refine ⟨_, rfl, _, _, _, _, true, rfl, .ty _, .base (.tup hc), kit_ty (by decide +kernel), _, rfl, iteF ?_⟩
      refine ⟨_, rfl, _, rfl, _, rfl, b, _, _, V.ref c, rfl, rfl, SqL.of (sB _ _ hb1), atI_nat hx, _, _, td.dp, td.dp, sh2, sh2, _, rfl, ?_⟩
      rw [SeqAt.eqv_refl _ td.lay]
      refine iteF ?_
      exact ⟨_, rfl, _, _, rfl, rfl, ⟨_, rfl⟩, rfl⟩
    · have e : i = L.length := by omega
      subst e
      refine .inl ⟨Nat.le_refl _, ?_⟩
      rw [upd_upd]
      refine ⟨_, rfl, _, rfl, b, _, rfl, .inl (SqL.of (sN _ _ _ hb1)), rfl, ?_⟩
      show Q (V.bl (decide (V.int (L.length : Int) = V.int (L.length : Int)))) _
      rw [decide_eq_true rfl]
      exact k _ (s1.trans (sN _))
section
variable {C : Addr} {H0 H H' : Hp} {p l b : Addr} {L : List V}
theorem BagAt.same (R : BagAt C H0 H p l b L) (s : Same H H') : BagAt C H0 H' p l b L :=
  ⟨R.net.same s, s _ _ R.ls, fun v hv => (R.dt v hv).mono (TSame.of s), fun c o e h1 h2 => s _ _ (R.kp c o e h1 h2)⟩
/-- both lists change alike, the network's own first -/
theorem BagAt.both (R : BagAt C H0 H p l b L) (nbl : b ≠ l) {L' : List V} (hv : ∀ v ∈ L', v ∈ L ∨ TupD H 5 v) : BagAt C H0 (upd (upd H l (.lst L')) b (.lst L')) p l b L' := by
  obtain ⟨⟨⟨dx, h1⟩, h2⟩, h3, h4, h5⟩ := R
  have npl : p ≠ l := ne_of h1 h2 (by intro q; cases q)
  have npb : p ≠ b := ne_of h1 h3 (by intro q; cases q)
  have ts : TSame H (upd (upd H l (.lst L')) b (.lst L')) := fun c xs e => by
    rw [upd_ne (ne_of e h3 (by intro q; cases q)), upd_ne (ne_of e h2 (by intro q; cases q))]
    exact e
  refine ⟨⟨⟨dx, by rw [upd_ne npb, upd_ne npl]; exact h1⟩, by rw [upd_ne nbl.symm, upd_same]⟩, upd_same, fun v hm => ?_, fun c o e hb hl => by rw [upd_ne hb, upd_ne hl]; exact h5 c o e hb hl⟩
  rcases hv v hm with h | h
  · exact (h4 v h).mono ts
  · exact h.mono ts
end
theorem ok_law_posts (T : Txt K mg) : FnOk P w K mg base CX0 2 (He.ga K "_law_posts") T.fd_law_posts ["net", "bag", "part"] (spPosts K) := by
  refine T.F_law_posts.ok sc_law_posts (fun vs H Q E h => ?_) (fun cdv A outer s H vs Q E hr h => ?_)
  · obtain ⟨p, l, b, L, part, rfl, _⟩ := h
    rfl
  · obtain ⟨p, l, b, L, part, rfl, R, nbl, hz, k⟩ := h
    refine ⟨_, PSs.nox (pss_cons (ps_set (i := 3) sc_law_posts.nd rfl (Or.inl rfl) (pe_op op_add pe_int (pe_op op_mod (pe_callTy call_int1 (by rfl) T.z_int (by decide +kernel) (pa_cons (pv 2) pa_nil)) pe_int)))
    (C8.pss_cut (ps_if (PW.pt (pw_and (pt_cmpR op_eq (pe_op op_mod (pe_callTy call_int1 (by rfl) T.z_int (by decide +kernel) (pa_cons (pe_op op_fdiv (pv 2) pe_int) pa_nil)) pe_int) pe_int (nomark _)) (pw_and1 (pt_cmpR op_lt (pe_callB call_len_seq (by rfl) T.z_len (by decide +kernel) (pa_cons (pv 1) pa_nil)) pe_int (nomark _)))))
      (pss_one (ps_set (i := 3) sc_law_posts.nd rfl (Or.inl rfl) (pe_op op_mod (pe_callTy call_int1 (by rfl) T.z_int (by decide +kernel) (pa_cons (pe_op op_fdiv (pv 2) pe_int) pa_nil)) pe_int)))
      pss_nil)
    (pss_cons (ps_set (i := 4) sc_law_posts.nd rfl (Or.inl rfl) (pe_call (ok_law_packet T) (hr.mono (by decide)) (by rfl) T.g_law_packet T.F_law_packet.kp T.b_law_packet .nil pass0 (pa_cons (pe_op op_fdiv (pv 2) pe_int) pa_nil)))
    (pss_cons (ps_for PassesOwn.never rfl (pi_range1 (by rfl) T.z_range (pa_cons (pv 3) pa_nil)) (pg_name (i := 5) sc_law_posts.nd rfl (Or.inl rfl))
      (pss_cons (ps_expr (pe_meth (pv 0) T.cl_Network T.m_Network_post (ok_Network_post T) (hr.mono (by decide)) T.b_Network_post .nil pass0 (pa_cons (pv 4) pa_nil)))
      (pss_cons (ps_expr (pe_bm PySem.F.plainAttrs_list PySem.F.slot_list_append PySem.F.type_list_append mt_append (pv 1) (pa_cons (pv 4) pa_nil)))
      (pss_one (ps_if (pt_cmpR op_gt (pe_op op_mod (pe_callTy call_int1 (by rfl) T.z_int (by decide +kernel) (pa_cons (pe_op op_fdiv (pv 2) pe_int) pa_nil)) pe_int) pe_int (nomark _))
        (pss_one (ps_set (i := 4) sc_law_posts.nd rfl (Or.inl rfl) (pe_call (ok_law_packet T) (hr.mono (by decide)) (by rfl) T.g_law_packet T.F_law_packet.kp T.b_law_packet .nil pass0 (pa_cons (pe_op op_fdiv (pv 2) (pe_op op_add pe_int (pv 5))) pa_nil))))
        pss_nil)))))
    (pss_one (ps_ret pe_bl)))))), ?_⟩
    have hs : (100000 : Nat) < sizeLine := by decide
    refine ⟨_, rfl, .inl ⟨_, rfl, _, _, rfl, rfl, (by show (0 : Int) < 4; decide), _, _, rfl, rfl, ?_⟩⟩
    refine ⟨fun σ H' => ∃ count : Int, 0 ≤ count ∧ count ≤ 1000 ∧ σ = [some (.ref p), some (.ref b), some (.int part), some (.int count), none, none] ∧ H' = H, ?_, ?_⟩
    · have c0 : 0 ≤ part % 4 := Int.emod_nonneg _ (by decide)
      have c1 : part % 4 < 4 := Int.emod_lt_of_pos _ (by decide)
      refine ⟨_, rfl, _, _, rfl, rfl, ⟨by decide, by decide⟩, .inl ⟨_, rfl, _, _, rfl, rfl, (by show (0 : Int) < 128; decide), rfl, _, rfl, ?_⟩⟩
      refine ite2 (fun _ => ?_) (fun _ => iteF ?_)
      · refine ⟨_, rfl, b, _, rfl, .inl (SqL.of R.ls), _, _, rfl, rfl, _, rfl, ?_⟩
        refine ite2 (fun _ => ?_) (fun _ => ?_)
        · refine ⟨_, rfl, _, _, rfl, rfl, ⟨by decide, by decide⟩, .inl ⟨_, rfl, _, _, rfl, rfl, (by show (0 : Int) < 1001; decide), ?_⟩⟩
          exact ⟨_, Int.emod_nonneg _ (by decide), Int.le_of_lt_add_one (Int.emod_lt_of_pos _ (by decide)), rfl, rfl⟩
        · exact ⟨1 + part % 4, by omega, by omega, rfl, rfl⟩
      · exact ⟨1 + part % 4, by omega, by omega, rfl, rfl⟩
    rintro σ H' ⟨count, c0, c1, rfl, rfl⟩
    refine ⟨_, rfl, _, _, rfl, rfl, ⟨by decide, by decide⟩, _, rfl, fun a H1 s1 ha => ?_⟩
    refine ⟨_, rfl, _, rfl, by omega, by omega, ?_⟩
    refine for_range (lo := 0) (n := count.toNat) (fun i σ H2 => ∃ (L' : List V) (a : Addr) (v5 : Option V), σ = [some (.ref p), some (.ref b), some (.int part), some (.int count), some (.ref a), v5] ∧ BagAt (cN K) H' H2 p l b L' ∧ TupD H2 5 (.ref a) ∧ L'.length = L.length + i)
      ⟨L, a, none, rfl, R.same s1, ha, rfl⟩ ?_ ?_
    · rintro i σ H2 hi ⟨L', a, v5, rfl, R2, ha2, hl2⟩
      obtain ⟨⟨dx, h1⟩, h2⟩ := id R2.net
      refine ⟨_, rfl, p, dx, _, rfl, h1, netf_no _ (by decide +kernel), _, rfl, p, l, _, V.ref a, rfl, R2.net, by omega, ?_⟩
      have hb' : (upd H2 l (.lst (L' ++ [V.ref a]))) b = some (.lst L') := by rw [upd_ne nbl]; exact R2.ls
      refine ⟨_, rfl, .inl ⟨rfl, _, SqL.of hb'⟩, _, rfl, b, _, _, rfl, rfl, hb', by omega, ?_⟩
      have R3 := R2.both nbl (L' := L' ++ [V.ref a]) (fun v hv => by
        rcases List.mem_append.mp hv with h | h
        · exact .inl h
        · rw [List.mem_singleton.mp h]; exact .inr ha2)
      have ha3 : TupD (upd (upd H2 l (.lst (L' ++ [V.ref a]))) b (.lst (L' ++ [V.ref a]))) 5 (.ref a) := R3.dt _ (List.mem_append.mpr (.inr (List.mem_singleton.mpr rfl)))
      have hl3 : (L' ++ [V.ref a]).length = L.length + (i + 1) := by rw [List.length_append, List.length_singleton, hl2]; omega
      revert R3 ha3
      generalize (upd (upd H2 l (.lst (L' ++ [V.ref a]))) b (.lst (L' ++ [V.ref a]))) = H3
      intro R3 ha3
      refine ⟨_, rfl, _, _, rfl, rfl, ⟨by decide, by decide⟩, .inl ⟨_, rfl, _, _, rfl, rfl, (by show (0 : Int) < 3; decide), _, _, rfl, rfl, _, rfl, ?_⟩⟩
      refine ite2 (fun _ => ?_) (fun _ => ?_)
      · refine ⟨_, rfl, _, rfl, _, _, rfl, rfl, _, _, rfl, rfl, ⟨by show (0 : Int) < 129 + (0 + (i : Int)); omega, by show (129 + (0 + (i : Int)) : Int) < 1073741824; omega⟩, _, rfl, fun a2 H4 s4 ha4 => ?_⟩
        exact ⟨_, a2, _, rfl, R3.same s4, ha4, hl3⟩
      · exact ⟨_, a, _, rfl, R3, ha3, hl3⟩
    · rintro σ H2 ⟨L', a, v5, rfl, R2, ha2, hl2⟩
      exact k L' H2 (by omega) R2
theorem ok_law_deed (T : Txt K mg) : FnOk P w K mg base CX0 5 (He.ga K "_law_deed") T.fd_law_deed ["net", "bag", "part"] (spDeed K) := by
  refine T.F_law_deed.ok sc_law_deed (fun vs H Q E h => ?_) (fun cdv A outer s H vs Q E hr h => ?_)
  · obtain ⟨p, l, b, L, part, rfl, _⟩ := h
    rfl
  · obtain ⟨p, l, b, L, part, rfl, R, nbl, hz, k⟩ := h
    refine ⟨_, PSs.nox (pss_cons (ps_set (i := 3) sc_law_deed.nd rfl (Or.inl rfl) (pe_op op_mod (pe_callTy call_int1 (by rfl) T.z_int (by decide +kernel) (pa_cons (pv 2) pa_nil)) pe_int))
    (pss_cons (ps_set (i := 4) sc_law_deed.nd rfl (Or.inl rfl) (pe_op op_fdiv (pv 2) pe_int))
    (C8.pss_cut (ps_if (PW.pt (pw_or (pt_cmpR op_lt (pv 3) pe_int (nomark _)) (pw_or1 (PW.pt (pw_and (pt_not (pt_truth (pv 1) (by intro _; rfl))) (pw_and1 (pt_cmpR op_lt (pv 3) pe_int (nomark _))))))))
      (pss_one (ps_ret (pe_call (ok_law_posts T) (hr.mono (by decide)) (by rfl) T.g_law_posts T.F_law_posts.kp T.b_law_posts .nil pass0 (pa_cons (pv 0) (pa_cons (pv 1) (pa_cons (pv 4) pa_nil))))))
      pss_nil)
    (pss_cons (ps_if (pt_cmpR op_lt (pv 3) pe_int (nomark _))
      (pss_cons (ps_set (i := 5) sc_law_deed.nd rfl (Or.inl rfl) (pe_op op_mod (pe_callTy call_int1 (by rfl) T.z_int (by decide +kernel) (pa_cons (pv 4) pa_nil)) (pe_callB call_len_seq (by rfl) T.z_len (by decide +kernel) (pa_cons (pv 1) pa_nil))))
      (pss_cons (ps_set (i := 6) sc_law_deed.nd rfl (Or.inl rfl) (pe_meth (pv 0) T.cl_Network T.m_Network_take_out (ok_Network_take_out T) (hr.mono (by decide)) T.b_Network_take_out .nil passL (pa_cons (pv 5) pa_nil)))
      (pss_cons (ps_set (i := 7) sc_law_deed.nd rfl (Or.inl rfl) (pe_bm PySem.F.plainAttrs_list PySem.F.slot_list_pop PySem.F.type_list_pop mt_popAt (pv 1) (pa_cons (pv 5) pa_nil)))
      (pss_one (ps_ret (pe_and (pe_callB call_isi (by rfl) T.z_isinstance (by decide +kernel) (pa_cons (pv 6) (pa_cons (pe_bltn (v := .ty "tuple") (by rfl) T.z_tuple (by decide +kernel) rfl) pa_nil))) (pe_one (pe_cmpR (op_eqD hr.units) (pv 6) (pv 7) (nomark _)))))))))
      pss_nil)
    (pss_cons (ps_if (pt_cmpR op_eq (pv 3) pe_int (nomark _))
      (pss_cons (ps_set (i := 5) sc_law_deed.nd rfl (Or.inl rfl) (pe_op op_mod (pe_callTy call_int1 (by rfl) T.z_int (by decide +kernel) (pa_cons (pv 4) pa_nil)) (pe_callB call_len_seq (by rfl) T.z_len (by decide +kernel) (pa_cons (pv 1) pa_nil))))
      (pss_cons (ps_expr (pe_meth (pv 0) T.cl_Network T.m_Network_repeat (ok_Network_repeat T) (hr.mono (by decide)) T.b_Network_repeat .nil passL (pa_cons (pv 5) pa_nil)))
      (pss_cons (ps_expr (pe_bm PySem.F.plainAttrs_list PySem.F.slot_list_append PySem.F.type_list_append mt_append (pv 1) (pa_cons (pe_ix ix_list (pv 1) (pv 5) (fun _ _ => rfl)) pa_nil)))
      (pss_one (ps_ret pe_bl)))))
      pss_nil)
    (pss_cons (ps_set (i := 5) sc_law_deed.nd rfl (Or.inl rfl) (pe_call (ok_law_bad_index T) (hr.mono (by decide)) (by rfl) T.g_law_bad_index T.F_law_bad_index.kp T.b_law_bad_index .nil pass0 (pa_cons (pv 4) (pa_cons (pe_callB call_len_seq (by rfl) T.z_len (by decide +kernel) (pa_cons (pv 1) pa_nil)) pa_nil))))
    (C8.pss_cut (ps_if (PW.pt (pw_and (pt_cmpR op_le pe_int (pv 5) (nomark _)) (pw_and1 (pt_cmpR op_lt (pv 5) (pe_callB call_len_seq (by rfl) T.z_len (by decide +kernel) (pa_cons (pv 1) pa_nil)) (nomark _)))))
      (pss_one (ps_set (i := 5) sc_law_deed.nd rfl (Or.inl rfl) (pe_un un_neg pe_int)))
      pss_nil)
    (pss_one (ps_ret (pe_and (pe_call (ok_law_refuses T) (hr.mono (by decide)) (by rfl) T.g_law_refuses T.F_law_refuses.kp T.b_law_refuses .nil pass0 (pa_cons (pv 0) (pa_cons (pv 5) (pa_cons (pe_cmpR op_eq (pv 3) pe_int (nomark _)) pa_nil)))) (pe_one (pe_call (ok_law_refuses T) (hr.mono (by decide)) (by rfl) T.g_law_refuses T.F_law_refuses.kp T.b_law_refuses .nil pass0 (pa_cons (pv 0) (pa_cons (pe_un un_neg pe_int) (pa_cons (pe_cmpR op_eq (pv 3) pe_int (nomark _)) pa_nil))))))))))))))), ?_⟩
    have hs : (100000 : Nat) < sizeLine := by decide
    obtain ⟨⟨dx, h1⟩, h2⟩ := id R.net
    refine ⟨_, rfl, .inl ⟨_, rfl, _, _, rfl, rfl, (by show (0 : Int) < 8; decide), ?_⟩⟩
    refine ⟨_, rfl, _, _, rfl, rfl, ⟨by decide, by decide⟩, ?_⟩
    refine ⟨fun σ H' => (L.isEmpty = true → 6 ≤ part % 8) ∧ σ = [some (.ref p), some (.ref b), some (.int part), some (.int (part % 8)), some (.int (part / 8)), none, none, none] ∧ H' = H, ?_, ?_⟩
    · refine ⟨_, rfl, _, _, rfl, rfl, _, rfl, ?_⟩
      refine ite2 (fun d3 => iteT ?_) (fun d3 => ?_)
      · exact ⟨_, rfl, _, rfl, _, rfl, p, l, b, L, part / 8, rfl, R, nbl, hz, fun L' H' hl hB => k L' H' hl hB⟩
      refine ⟨_, rfl, !L.isEmpty, .inl ⟨L, SqL.of R.ls, rfl⟩, ?_⟩
      cases e : L.isEmpty with
      | true =>
        refine iteT ?_
        refine ⟨_, rfl, _, _, rfl, rfl, _, rfl, ?_⟩
        refine ite2 (fun _ => ?_) (fun c => ?_)
        · exact ⟨_, rfl, _, rfl, _, rfl, p, l, b, L, part / 8, rfl, R, nbl, hz, fun L' H' hl hB => k L' H' hl hB⟩
        · exact ⟨fun _ => by have : ¬ part % 8 < 6 := fun z => c (decide_eq_true z); omega, rfl, rfl⟩
      | false => exact iteF (iteF ⟨fun z => (nomatch z), rfl, rfl⟩)
    rintro σ H' ⟨hne, rfl, rfl⟩
    have pos : part % 8 < 6 → 0 < L.length := fun z => by
      cases L with
      | nil => have := hne rfl; omega
      | cons x r => exact Nat.succ_pos _
    have tsB : ∀ L', TSame H' (upd (upd H' l (.lst L')) b (.lst L')) := fun L' c xs e => by
      rw [upd_ne (ne_of e R.ls (by intro q; cases q)), upd_ne (ne_of e h2 (by intro q; cases q))]
      exact e
    refine ⟨_, rfl, _, _, rfl, rfl, _, rfl, ?_⟩
    refine ite2 (fun d5 => ?_) (fun d5 => ?_)
    · have hp := pos (by have := of_decide_eq_true d5; omega)
      refine ⟨_, rfl, .inl ⟨_, rfl, _, rfl, b, _, rfl, .inl (SqL.of R.ls), _, _, rfl, rfl, (by show (0 : Int) < (L.length : Int); omega), ?_⟩⟩
      obtain ⟨j, hj, ej⟩ : ∃ j : Nat, j < L.length ∧ part / 8 % (L.length : Int) = (j : Int) := by
        have a1 : 0 ≤ part / 8 % (L.length : Int) := Int.emod_nonneg _ (by omega)
        have a2 : part / 8 % (L.length : Int) < (L.length : Int) := Int.emod_lt_of_pos _ (by omega)
        exact ⟨(part / 8 % (L.length : Int)).toNat, by omega, by omega⟩
      show gName 5 (.int (part / 8 % (L.length : Int))) _ _ _
      rw [ej]
      refine ⟨_, rfl, p, dx, _, rfl, h1, netf_no _ (by decide +kernel), _, rfl, p, l, L, (j : Int), rfl, R.net, by omega, fun z => absurd ⟨by omega, by omega⟩ z, fun j' v ej' hv => ?_⟩
      have ejj : j' = j := by omega
      subst ejj
      have hb' : (upd H' l (.lst (L.eraseIdx j'))) b = some (.lst L) := by rw [upd_ne nbl]; exact R.ls
      have hk : seqIndex? ((j' : Nat) : Int) L.length = some j' := (ixN_seq (n := L.length) (i := (j' : Int)) (by unfold ixN; rw [if_pos (by omega), if_pos (by omega)]; simp)).1
      refine ⟨_, rfl, .inl ⟨rfl, _, SqL.of hb'⟩, _, rfl, b, L, (j' : Int), j', v, rfl, rfl, hb', by omega, by omega, hk, hv, ?_⟩
      have R3 := R.both nbl (L' := L.eraseIdx j') fun u hu => .inl (List.mem_of_mem_eraseIdx hu)
      obtain ⟨c, ys, es, ec, hc, hes, hdep⟩ := (R.dt _ (List.mem_of_getElem? hv)).mono (tsB (L.eraseIdx j'))
      subst ec
      have td : TD (upd (upd H' l (.lst (L.eraseIdx j'))) b (.lst (L.eraseIdx j'))) (.ref c) (.tuple es) := .tup hc hes
      have sh := shaped_of td.lay (Nat.le_trans hdep (by decide))
      refine ⟨_, rfl, _, _, _, _, true, rfl, .ty _, .base (.tup hc), kit_ty (by decide +kernel), _, rfl, iteT ?_⟩
      refine ⟨_, rfl, _, rfl, _, _, td.dp, td.dp, sh, sh, ?_⟩
      rw [SeqAt.eqv_refl _ td.lay]
      exact k _ _ (by rw [List.length_eraseIdx]; split <;> omega) R3
    refine ⟨_, rfl, rfl, _, rfl, ?_⟩
    refine ite2 (fun e5 => ?_) (fun e5 => ?_)
    · have hp := pos (by have e6 := of_decide_eq_true e5; have e7 : part % 8 = 5 := by injection e6
                         omega)
      refine ⟨_, rfl, .inl ⟨_, rfl, _, rfl, b, _, rfl, .inl (SqL.of R.ls), _, _, rfl, rfl, (by show (0 : Int) < (L.length : Int); omega), ?_⟩⟩
      obtain ⟨j, hj, ej⟩ : ∃ j : Nat, j < L.length ∧ part / 8 % (L.length : Int) = (j : Int) := by
        have a1 : 0 ≤ part / 8 % (L.length : Int) := Int.emod_nonneg _ (by omega)
        have a2 : part / 8 % (L.length : Int) < (L.length : Int) := Int.emod_lt_of_pos _ (by omega)
        exact ⟨(part / 8 % (L.length : Int)).toNat, by omega, by omega⟩
      show gName 5 (.int (part / 8 % (L.length : Int))) _ _ _
      rw [ej]
      refine ⟨_, rfl, p, dx, _, rfl, h1, netf_no _ (by decide +kernel), _, rfl, p, l, L, (j : Int), rfl, R.net, by omega, fun z => absurd ⟨by omega, by omega⟩ z, fun j' v ej' hv => ?_⟩
      have ejj : j' = j := by omega
      subst ejj
      have hb' : (upd H' l (.lst (L ++ [v]))) b = some (.lst L) := by rw [upd_ne nbl]; exact R.ls
      refine ⟨_, rfl, .inl ⟨rfl, _, SqL.of hb'⟩, _, rfl, _, rfl, b, _, _, v, rfl, rfl, SqL.of hb', atI_nat hv, b, _, _, rfl, rfl, hb', by omega, ?_⟩
      refine k _ _ (by rw [List.length_append, List.length_singleton]; omega) (R.both nbl (L' := L ++ [v]) fun u hu => ?_)
      rcases List.mem_append.mp hu with h | h
      · exact .inl h
      · rw [List.mem_singleton.mp h]; exact .inl (List.mem_of_getElem? hv)
    refine ⟨_, rfl, _, rfl, b, _, rfl, .inl (SqL.of R.ls), _, _, rfl, Int.natCast_nonneg _, fun r hr => ?_⟩
    refine ⟨fun σ H2 => σ = [some (.ref p), some (.ref b), some (.int part), some (.int (part % 8)), some (.int (part / 8)), some (.int r), none, none] ∧ H2 = H', ?_, ?_⟩
    · refine ⟨_, rfl, _, _, rfl, rfl, _, rfl, ?_⟩
      refine ite2 (fun c1 => ?_) (fun c1 => iteF ⟨rfl, rfl⟩)
      refine ⟨_, rfl, _, rfl, b, _, rfl, .inl (SqL.of R.ls), _, _, rfl, rfl, _, rfl, ?_⟩
      refine ite2 (fun c2 => ?_) (fun c2 => ⟨rfl, rfl⟩)
      exact absurd ⟨of_decide_eq_true c1, of_decide_eq_true c2⟩ hr
    rintro σ H2 ⟨rfl, rfl⟩
    refine ⟨_, rfl, _, rfl, _, rfl, rfl, p, l, L, r, _, rfl, R.net, by omega, hr, ?_⟩
    refine ⟨_, rfl, iteT ?_⟩
    refine ⟨_, rfl, _, rfl, _, rfl, rfl, p, l, L, -1, _, rfl, R.net, by omega, by omega, ?_⟩
    exact k L _ (by omega) R
/-- the law's state: its two lists, the two networks -/
structure Tw (C : Addr) (H0 H : Hp) (ln lb : Addr) (p l b : Nat → Addr) (L : Nat → List V) : Prop where
  h1 : H ln = some (.lst [.ref (p 0), .ref (p 1)])
  h2 : H lb = some (.lst [.ref (b 0), .ref (b 1)])
  en : ∀ j, j < 2 → BagAt C H H (p j) (l j) (b j) (L j)
  sm : Same H0 H
structure Sep (H0 : Hp) (ln lb : Addr) (p l b : Nat → Addr) : Prop where
  nd : [lb, b 1, b 0, ln, p 1, l 1, p 0, l 0].Nodup
  fr : ∀ c ∈ [lb, b 1, b 0, ln, p 1, l 1, p 0, l 0], H0 c = none
def put2 {α : Type} (f : Nat → α) (j : Nat) (x : α) : Nat → α := fun i => if i = j then x else f i
theorem put2_same {α : Type} (f : Nat → α) (j : Nat) (x : α) : put2 f j x j = x := if_pos rfl
theorem put2_ne {α : Type} (f : Nat → α) {i j : Nat} (x : α) (h : i ≠ j) : put2 f j x i = f i := if_neg h
theorem BagAt.now {C : Addr} {H0 H : Hp} {p l b : Addr} {L : List V} (R : BagAt C H0 H p l b L) : BagAt C H H p l b L := ⟨R.net, R.ls, R.dt, fun _ _ e _ _ => e⟩
section
variable {C : Addr} {H0 H H' : Hp} {ln lb : Addr} {p l b : Nat → Addr} {L : Nat → List V}
theorem Sep.ix (S : Sep H0 ln lb p l b) {i j : Nat} {x y : Addr} (hi : [lb, b 1, b 0, ln, p 1, l 1, p 0, l 0][i]? = some x) (hj : [lb, b 1, b 0, ln, p 1, l 1, p 0, l 0][j]? = some y) (h : i ≠ j) : x ≠ y := fun e => h (nd_ix S.nd hi (by rw [e]; exact hj))
theorem Sep.ib (S : Sep H0 ln lb p l b) {j : Nat} (hj : j < 2) : [lb, b 1, b 0, ln, p 1, l 1, p 0, l 0][2 - j]? = some (b j) := by
  match j, hj with
  | 0, _ => rfl
  | 1, _ => rfl
theorem Sep.il (S : Sep H0 ln lb p l b) {j : Nat} (hj : j < 2) : [lb, b 1, b 0, ln, p 1, l 1, p 0, l 0][7 - 2 * j]? = some (l j) := by
  match j, hj with
  | 0, _ => rfl
  | 1, _ => rfl
theorem Sep.ip (S : Sep H0 ln lb p l b) {j : Nat} (hj : j < 2) : [lb, b 1, b 0, ln, p 1, l 1, p 0, l 0][6 - 2 * j]? = some (p j) := by
  match j, hj with
  | 0, _ => rfl
  | 1, _ => rfl
theorem Tw.same (R : Tw C H0 H ln lb p l b L) (s : Same H H') : Tw C H0 H' ln lb p l b L := ⟨s _ _ R.h1, s _ _ R.h2, fun j hj => ((R.en j hj).same s).now, R.sm.trans s⟩
/-- a deed was done at the network j -/
theorem Tw.deed (R : Tw C H0 H ln lb p l b L) (S : Sep H0 ln lb p l b) {j : Nat} (hj : j < 2) {L' : List V} (B : BagAt C H H' (p j) (l j) (b j) L') : Tw C H0 H' ln lb p l b (put2 L j L') := by
  have hl := (R.en j hj).net.ls
  have hb := (R.en j hj).ls
  refine ⟨B.kp _ _ R.h1 (S.ix (i := 3) rfl (S.ib hj) (by omega)) (S.ix (i := 3) rfl (S.il hj) (by omega)), B.kp _ _ R.h2 (S.ix (i := 0) rfl (S.ib hj) (by omega)) (S.ix (i := 0) rfl (S.il hj) (by omega)), fun i hi => ?_, fun c o e => ?_⟩
  · by_cases e : i = j
    · subst e
      rw [put2_same]
      exact B.now
    · rw [put2_ne _ _ e]
      obtain ⟨⟨⟨dx, g1⟩, g2⟩, g3, g4, _⟩ := R.en i hi
      exact ⟨⟨⟨dx, B.kp _ _ g1 (S.ix (S.ip hi) (S.ib hj) (by omega)) (S.ix (S.ip hi) (S.il hj) (by omega))⟩, B.kp _ _ g2 (S.ix (S.il hi) (S.ib hj) (by omega)) (S.ix (S.il hi) (S.il hj) (by omega))⟩,
        B.kp _ _ g3 (S.ix (S.ib hi) (S.ib hj) (by omega)) (S.ix (S.ib hi) (S.il hj) (by omega)),
        fun v hv => (g4 v hv).mono fun c xs x => B.kp _ _ x (ne_of x hb (by intro q; cases q)) (ne_of x hl (by intro q; cases q)), fun _ _ x _ _ => x⟩
  · exact B.kp _ _ (R.sm _ _ e) (ne_of_none e (S.fr _ (List.mem_of_getElem? (S.ib hj)))) (ne_of_none e (S.fr _ (List.mem_of_getElem? (S.il hj))))
end
theorem ok_law (T : Txt K mg) : FnOk P w K mg base CX0 6 (He.ga K "law") T.fd_law ["script"] (spLaw K) := by
  refine T.F_law.ok sc_law (fun vs H Q E h => ?_) (fun cdv A outer s H vs Q E hr h => ?_)
  · obtain ⟨a0, ns, rfl, _⟩ := h
    rfl
  · obtain ⟨a0, ns, rfl, hS, hlen, k⟩ := h
    refine ⟨_, PSs.nox (pss_cons (ps_set (i := 1) sc_law.nd rfl (Or.inl rfl) (pe_lst (pa_cons (pe_make0 T.mk_Network (ok_Network_init T) (hr.mono (by decide)) (by rfl) T.mg_Network T.b_Network_init .nil pass0) (pa_cons (pe_make0 T.mk_Network (ok_Network_init T) (hr.mono (by decide)) (by rfl) T.mg_Network T.b_Network_init .nil pass0) pa_nil))))
    (pss_cons (ps_set (i := 2) sc_law.nd rfl (Or.inl rfl) (pe_lst (pa_cons (pe_lst pa_nil) (pa_cons (pe_lst pa_nil) pa_nil))))
    (pss_cons (ps_if (PW.pt (pw_or (pt_not (pt_val (pe_call (ok_law_refuses T) (hr.mono (by decide)) (by rfl) T.g_law_refuses T.F_law_refuses.kp T.b_law_refuses .nil pass0 (pa_cons (pe_ix ix_list (pv 1) pe_int (fun _ _ => rfl)) (pa_cons pe_int (pa_cons pe_bl pa_nil)))))) (pw_or1 (pt_not (pt_val (pe_call (ok_law_refuses T) (hr.mono (by decide)) (by rfl) T.g_law_refuses T.F_law_refuses.kp T.b_law_refuses .nil pass0 (pa_cons (pe_ix ix_list (pv 1) pe_int (fun _ _ => rfl)) (pa_cons pe_int (pa_cons pe_bl pa_nil)))))))))
      (pss_one (ps_ret pe_bl))
      pss_nil)
    (pss_cons (ps_for PassesOwn.never rfl (pi_range1 (by rfl) T.z_range (pa_cons (pe_callB call_len_seq (by rfl) T.z_len (by decide +kernel) (pa_cons (pv 0) pa_nil)) pa_nil)) (pg_name (i := 3) sc_law.nd rfl (Or.inl rfl))
      (pss_cons (ps_set (i := 4) sc_law.nd rfl (Or.inl rfl) (pe_call (ok_law_number T) (hr.mono (by decide)) (by rfl) T.g_law_number T.F_law_number.kp T.b_law_number .nil pass0 (pa_cons (pe_ix ix_list (pv 0) (pv 3) (fun _ _ => rfl)) (pa_cons (pv 3) pa_nil))))
      (pss_cons (ps_set (i := 5) sc_law.nd rfl (Or.inl rfl) (pe_op op_mod (pe_callTy call_int1 (by rfl) T.z_int (by decide +kernel) (pa_cons (pv 4) pa_nil)) pe_int))
      (pss_cons (ps_if (PW.pt (pw_or (pt_not (pt_val (pe_call (ok_law_deed T) (hr.mono (by decide)) (by rfl) T.g_law_deed T.F_law_deed.kp T.b_law_deed .nil pass0 (pa_cons (pe_ix ix_list (pv 1) (pv 5) (fun _ _ => rfl)) (pa_cons (pe_ix ix_list (pv 2) (pv 5) (fun _ _ => rfl)) (pa_cons (pe_op op_fdiv (pv 4) pe_int) pa_nil)))))) (pw_or1 (pt_not (pt_val (pe_call (ok_law_holds T) (hr.mono (by decide)) (by rfl) T.g_law_holds T.F_law_holds.kp T.b_law_holds .nil pass0 (pa_cons (pe_ix ix_list (pv 1) (pv 5) (fun _ _ => rfl)) (pa_cons (pe_ix ix_list (pv 2) (pv 5) (fun _ _ => rfl)) pa_nil))))))))
        (pss_one (ps_ret pe_bl))
        pss_nil)
      (C8.pss_cut (ps_if (pt_cmpR op_eq (pe_op op_mod (pv 3) pe_int) pe_int (nomark _))
        (pss_cons (ps_set (i := 6) sc_law.nd rfl (Or.inl rfl) (pe_meth0 (pe_ix ix_list (pv 1) (pv 5) (fun _ _ => rfl)) T.cl_Network T.m_Network_packets (ok_Network_packets T) (hr.mono (by decide)) T.b_Network_packets .nil pass0))
        (pss_cons (ps_expr (pe_bm0 PySem.F.plainAttrs_list PySem.F.slot_list_reverse PySem.F.type_list_reverse mt_reverse (pv 6)))
        (pss_cons (ps_expr (pe_bm PySem.F.plainAttrs_list PySem.F.slot_list_append PySem.F.type_list_append mt_append (pv 6) (pa_cons (pe_tup pa_nil) pa_nil)))
        (pss_one (ps_if (pt_not (pt_val (pe_call (ok_law_holds T) (hr.mono (by decide)) (by rfl) T.g_law_holds T.F_law_holds.kp T.b_law_holds .nil pass0 (pa_cons (pe_ix ix_list (pv 1) (pv 5) (fun _ _ => rfl)) (pa_cons (pe_ix ix_list (pv 2) (pv 5) (fun _ _ => rfl)) pa_nil)))))
          (pss_one (ps_ret pe_bl))
          pss_nil)))))
        pss_nil)
      (pss_one (ps_if (PW.pt (pw_and (pt_cmpR op_eq (pe_op op_mod (pv 3) pe_int) pe_int (nomark _)) (pw_and1 (pt_not (pt_val (pe_call (ok_law_holds T) (hr.mono (by decide)) (by rfl) T.g_law_holds T.F_law_holds.kp T.b_law_holds .nil pass0 (pa_cons (pe_ix ix_list (pv 1) (pe_op op_sub pe_int (pv 5)) (fun _ _ => rfl)) (pa_cons (pe_ix ix_list (pv 2) (pe_op op_sub pe_int (pv 5)) (fun _ _ => rfl)) pa_nil))))))))
        (pss_one (ps_ret pe_bl))
        pss_nil)))))))
    (pss_one (ps_ret (pe_and (pe_call (ok_law_holds T) (hr.mono (by decide)) (by rfl) T.g_law_holds T.F_law_holds.kp T.b_law_holds .nil pass0 (pa_cons (pe_ix ix_list (pv 1) pe_int (fun _ _ => rfl)) (pa_cons (pe_ix ix_list (pv 2) pe_int (fun _ _ => rfl)) pa_nil))) (pe_one (pe_call (ok_law_holds T) (hr.mono (by decide)) (by rfl) T.g_law_holds T.F_law_holds.kp T.b_law_holds .nil pass0 (pa_cons (pe_ix ix_list (pv 1) pe_int (fun _ _ => rfl)) (pa_cons (pe_ix ix_list (pv 2) pe_int (fun _ _ => rfl)) pa_nil))))))))))), ?_⟩
    intro x0 d0 nx0 nd0 e0
    refine ⟨x0, d0, rfl, upd_same, fun l0 H1 R0 fl0 k1 => ⟨rfl, ?_⟩⟩
    intro x1 d1 nx1 nd1 e1
    refine ⟨x1, d1, rfl, upd_same, fun l1 H2 R1 fl1 k2 => ⟨rfl, ?_⟩⟩
    have s1 : Same H H1 := Same.made nx0 nd0 k1
    have s2 : Same H1 H2 := Same.made nx1 nd1 k2
    obtain ⟨⟨y0, I0⟩, J0⟩ := id R0
    obtain ⟨⟨y1, I1⟩, J1⟩ := id R1
    have f0 : H l0 = Option.none := (Same.trans (Same.new (o := .own x0) nd0) (Same.new (o := .ins (cN K) d0 []) (by rw [upd_ne e0.symm]; exact nx0))).free fl0
    have f1 : H1 l1 = Option.none := (Same.trans (Same.new (o := .own x1) nd1) (Same.new (o := .ins (cN K) d1 []) (by rw [upd_ne e1.symm]; exact nx1))).free fl1
    have A1 : Alive H1 [x0, l0] := by
      refine ⟨List.nodup_cons.mpr ⟨by simp only [List.mem_singleton]; exact ne_of I0 J0 (by intro q; cases q), by simp⟩, fun b hb => ?_⟩
      simp only [List.mem_cons, List.not_mem_nil, or_false] at hb
      rcases hb with rfl | rfl
      · exact ⟨_, I0⟩
      · exact ⟨_, J0⟩
    have A2 : Alive H2 [x1, l1, x0, l0] := by
      have B := A1.cons f1 s2 J1
      refine ⟨List.nodup_cons.mpr ⟨fun hm => ?_, B.nd⟩, fun b hb => ?_⟩
      · rcases List.mem_cons.mp hm with e | hm
        · exact ne_of I1 J1 (by intro q; cases q) e
        · obtain ⟨o, e⟩ := A1.at_ x1 hm
          rw [nx1] at e
          cases e
      · rcases List.mem_cons.mp hb with e | hb
        · rw [e]; exact ⟨_, I1⟩
        · exact B.at_ b hb
    refine ⟨(by show 2 ≤ sizeLine; decide), fun ln hln => ?_⟩
    refine ⟨Nat.zero_le _, fun b1 hb1 => ?_⟩
    refine ⟨Nat.zero_le _, fun b2 hb2 => ?_⟩
    refine ⟨(by show 2 ≤ sizeLine; decide), fun lb hlb => ?_⟩
    have t1 := Same.new (o := .lst [.ref x0, .ref x1]) hln
    have t2 := Same.new (o := .lst []) hb1
    have t3 := Same.new (o := .lst []) hb2
    have t4 := Same.new (o := .lst [.ref b1, .ref b2]) hlb
    have A6 := (((A2.new (o := .lst [.ref x0, .ref x1]) hln).new (o := .lst []) hb1).new (o := .lst []) hb2).new (o := .lst [.ref b1, .ref b2]) hlb
    have u2 := (t2.trans t3).trans t4
    have sH := ((s1.trans s2).trans t1).trans u2
    have q1 : (upd H2 ln (.lst [.ref x0, .ref x1])) ln = some (.lst [.ref x0, .ref x1]) := upd_same
    have q2 : (upd (upd H2 ln (.lst [.ref x0, .ref x1])) b1 (.lst [])) b1 = some (.lst []) := upd_same
    have q3 : (upd (upd (upd H2 ln (.lst [.ref x0, .ref x1])) b1 (.lst [])) b2 (.lst [])) b2 = some (.lst []) := upd_same
    have S : Sep H ln lb (fun i => if i = 0 then x0 else x1) (fun i => if i = 0 then l0 else l1) (fun i => if i = 0 then b1 else b2) := by
      constructor
      · exact A6.nd
      · intro b hb
        have hb' : b ∈ [lb, b2, b1, ln, x1, l1, x0, l0] := hb
        simp only [List.mem_cons, List.not_mem_nil, or_false] at hb'
        rcases hb' with rfl | rfl | rfl | rfl | rfl | rfl | rfl | rfl
        · exact (((s1.trans s2).trans t1).trans (t2.trans t3)).free hlb
        · exact (((s1.trans s2).trans t1).trans t2).free hb2
        · exact ((s1.trans s2).trans t1).free hb1
        · exact (s1.trans s2).free hln
        · exact s1.free nx1
        · exact s1.free f1
        · exact nx0
        · exact f0
    have R : Tw (cN K) H (upd (upd (upd (upd H2 ln (.lst [.ref x0, .ref x1])) b1 (.lst [])) b2 (.lst [])) lb (.lst [.ref b1, .ref b2])) ln lb (fun i => if i = 0 then x0 else x1) (fun i => if i = 0 then l0 else l1) (fun i => if i = 0 then b1 else b2) (fun _ => []) := by
      refine ⟨u2 _ _ q1, upd_same, fun j hj => ?_, sH⟩
      match j, hj with
      | 0, _ => exact ⟨((R0.same s2).same t1).same u2, (t3.trans t4) _ _ q2, fun v hv => (by cases hv), fun _ _ e _ _ => e⟩
      | 1, _ => exact ⟨(R1.same t1).same u2, t4 _ _ q3, fun v hv => (by cases hv), fun _ _ e _ _ => e⟩
    revert R S
    generalize (upd (upd (upd (upd H2 ln (.lst [.ref x0, .ref x1])) b1 (.lst [])) b2 (.lst [])) lb (.lst [.ref b1, .ref b2])) = H3
    generalize (fun i => if i = 0 then x0 else x1 : Nat → Addr) = p
    generalize (fun i => if i = 0 then l0 else l1 : Nat → Addr) = l
    generalize (fun i => if i = 0 then b1 else b2 : Nat → Addr) = b
    intro S R
    -- if not _law_refuses(nets[0], 0, False) or not _law_refuses(nets[1], 0, True)
    refine ⟨_, rfl, ln, _, _, _, rfl, rfl, SqL.of R.h1, at_of (j := 0) rfl (two_at (fun i => V.ref (p i)) (by decide)), p 0, l 0, [], 0, false, rfl, (R.en 0 (by decide)).net, Nat.zero_le _, by intro z; exact absurd z.2 (by decide), ?_⟩
    refine ⟨_, rfl, iteF ?_⟩
    refine ⟨_, rfl, ln, _, _, _, rfl, rfl, SqL.of R.h1, at_of (j := 1) rfl (two_at (fun i => V.ref (p i)) (by decide)), p 1, l 1, [], 0, true, rfl, (R.en 1 (by decide)).net, Nat.zero_le _, by intro z; exact absurd z.2 (by decide), ?_⟩
    refine ⟨_, rfl, iteF ?_⟩
    -- for k in range(len(script))
    have el : (ns.map V.int).length = ns.length := List.length_map ..
    refine ⟨_, rfl, a0, _, rfl, .inl (R.sm.seq hS), ?_⟩
    refine ⟨_, rfl, by rw [el]; omega, by rw [el]; omega, ?_⟩
    refine for_range (lo := 0) (n := ((ns.map V.int).length : Int).toNat) (fun i σ H5 => ∃ (L : Nat → List V) (v3 v4 v5 v6 : Option V), σ = [some (.ref a0), some (.ref ln), some (.ref lb), v3, v4, v5, v6] ∧ Tw (cN K) H H5 ln lb p l b L ∧ ∀ j, j < 2 → (L j).length ≤ 1000 * i)
      ⟨_, none, none, none, none, rfl, R, fun j _ => Nat.zero_le _⟩ ?_ ?_
    · rintro i σ H5 hi ⟨L, v3, v4, v5, v6, rfl, R, hb⟩
      have hil : i < ns.length := by rw [el] at hi; omega
      obtain ⟨c, hc⟩ : ∃ c, ns[i]? = some c := ⟨ns[i], List.getElem?_eq_getElem hil⟩
      refine ⟨_, rfl, _, rfl, a0, _, _, _, rfl, rfl, R.sm.seq hS, at_map (j := i) (by omega) hc, _, rfl, _, _, rfl, fun part => ?_⟩
      refine ⟨_, rfl, .inl ⟨_, rfl, _, _, rfl, rfl, (by show (0 : Int) < 2; decide), ?_⟩⟩
      obtain ⟨j, hj, ej⟩ : ∃ j : Nat, j < 2 ∧ part % 2 = (j : Int) := ⟨(part % 2).toNat, by omega, by omega⟩
      show gName 5 (.int (part % 2)) _ _ _
      rw [ej]
      -- if not _law_deed(nets[at], bags[at], part // 2) or not _law_holds(nets[at], bags[at])
      have hbj := hb j hj
      refine ⟨_, rfl, _, rfl, ln, _, _, _, rfl, rfl, SqL.of R.h1, at_of (j := j) rfl (two_at (fun i => V.ref (p i)) hj), _, rfl, _, rfl, lb, _, _, _, rfl, rfl, SqL.of R.h2, at_of (j := j) rfl (two_at (fun i => V.ref (b i)) hj), _, rfl, _, _, rfl, rfl, ⟨by decide, by decide⟩, p j, l j, b j, L j, _, rfl, R.en j hj, S.ix (S.ib hj) (S.il hj) (by omega), by omega, fun L' H6 hl' B => ?_⟩
      refine ⟨_, rfl, iteF ?_⟩
      have R6 := R.deed S hj B
      have hb6 : ∀ i', i' < 2 → (put2 L j L' i').length ≤ 1000 * (i + 1) := fun i' hi' => by
        by_cases e : i' = j
        · subst e
          rw [put2_same]
          omega
        · rw [put2_ne _ _ e]
          have := hb i' hi'
          omega
      clear R hb hbj B
      revert R6 hb6
      generalize put2 L j L' = L
      intro R hb
      have lz : ∀ j, j < 2 → (L j).length ≤ 100000 := fun j hj => by
        have h2 := hb j hj
        omega
      refine ⟨_, rfl, _, rfl, ln, _, _, _, rfl, rfl, SqL.of R.h1, at_of (j := j) rfl (two_at (fun i => V.ref (p i)) hj), _, rfl, _, rfl, lb, _, _, _, rfl, rfl, SqL.of R.h2, at_of (j := j) rfl (two_at (fun i => V.ref (b i)) hj), p (j), l (j), b (j), L (j), rfl, (R.en _ hj).net, (R.en _ hj).ls, lz _ hj, (R.en _ hj).dt, fun H7 s7 => ?_⟩
      refine ⟨_, rfl, iteF ?_⟩
      have R7 := R.same s7
      clear R
      refine ⟨fun σ H' => ∃ w6 : Option V, σ = [some (.ref a0), some (.ref ln), some (.ref lb), some (.int (0 + i)), some (.int part), some (.int j), w6] ∧ Tw (cN K) H H' ln lb p l b L, ?_, ?_⟩
      · refine ⟨_, rfl, _, _, rfl, rfl, (by show (0 : Int) < 4; decide), rfl, _, rfl, ?_⟩
        refine ite2 (fun _ => ?_) (fun _ => ?_)
        · obtain ⟨dx, ho⟩ := (R7.en j hj).net.ob
          refine ⟨_, rfl, _, rfl, ln, _, _, _, rfl, rfl, SqL.of R7.h1, at_of (j := j) rfl (two_at (fun i => V.ref (p i)) hj), p j, dx, _, rfl, ho, netf_no _ (by decide +kernel), p j, l j, _, rfl, (R7.en j hj).net, fun q nq => ?_⟩
          refine ⟨_, rfl, .inl ⟨rfl, _, SqL.of upd_same⟩, q, _, rfl, rfl, upd_same, ?_⟩
          rw [upd_upd]
          refine ⟨_, rfl, .inl ⟨rfl, _, SqL.of upd_same⟩, Nat.zero_le _, fun t1 ht1 => ?_⟩
          have n1 : q ≠ t1 := ne_of_none (upd_same (H := H7)) ht1
          have hz : (L j).reverse.length < sizeLine := by
            rw [List.length_reverse]
            have h1 := lz j hj
            have h2 : (100000 : Nat) < sizeLine := by decide
            omega
          refine ⟨q, _, _, rfl, rfl, (by rw [upd_ne n1, upd_same]), hz, ?_⟩
          have sq : ∀ (G : Hp) (o : HO), Same H7 G → Same H7 (upd G q o) := fun G o g b u e => by
            rw [upd_ne (ne_of_none e nq)]
            exact g b u e
          have R8 := R7.same (sq _ (.lst ((L j).reverse ++ [V.ref t1])) ((sq _ (.lst (L j).reverse) (Same.refl _)).trans (Same.new (o := .tup []) ht1)))
          refine ⟨_, rfl, _, rfl, ln, _, _, _, rfl, rfl, SqL.of R8.h1, at_of (j := j) rfl (two_at (fun i => V.ref (p i)) hj), _, rfl, _, rfl, lb, _, _, _, rfl, rfl, SqL.of R8.h2, at_of (j := j) rfl (two_at (fun i => V.ref (b i)) hj), p (j), l (j), b (j), L (j), rfl, (R8.en _ hj).net, (R8.en _ hj).ls, lz _ hj, (R8.en _ hj).dt, fun H9 s9 => ?_⟩
          refine ⟨_, rfl, iteF ?_⟩
          exact ⟨_, rfl, R8.same s9⟩
        · exact ⟨_, rfl, R7⟩
      clear R7
      rintro σ H8 ⟨v6, rfl, R⟩
      refine ⟨_, rfl, _, _, rfl, rfl, (by show (0 : Int) < 4; decide), rfl, _, rfl, ?_⟩
      have hj2 : 1 - j < 2 := by omega
      have ej2 : (1 : Int) - (j : Int) = ((1 - j : Nat) : Int) := by omega
      refine ite2 (fun _ => ?_) (fun _ => iteF ?_)
      · refine ⟨_, rfl, _, rfl, _, _, rfl, rfl, ln, _, _, _, rfl, rfl, SqL.of R.h1, at_of (j := 1 - j) ej2 (two_at (fun i => V.ref (p i)) hj2), _, rfl, _, rfl, _, _, rfl, rfl, lb, _, _, _, rfl, rfl, SqL.of R.h2, at_of (j := 1 - j) ej2 (two_at (fun i => V.ref (b i)) hj2), p (1 - j), l (1 - j), b (1 - j), L (1 - j), rfl, (R.en _ hj2).net, (R.en _ hj2).ls, lz _ hj2, (R.en _ hj2).dt, fun H9 s9 => ?_⟩
        refine ⟨_, rfl, iteF ?_⟩
        exact ⟨L, _, _, _, _, rfl, R.same s9, hb⟩
      · exact ⟨L, _, _, _, _, rfl, R, hb⟩
    · rintro σ H5 ⟨L, v3, v4, v5, v6, rfl, R, hb⟩
      have lz : ∀ j, j < 2 → (L j).length ≤ 100000 := fun j hj => by
        have h2 := hb j hj
        rw [el] at h2
        omega
      refine ⟨_, rfl, ln, _, _, _, rfl, rfl, SqL.of R.h1, at_of (j := 0) rfl (two_at (fun i => V.ref (p i)) (by decide)), _, rfl, lb, _, _, _, rfl, rfl, SqL.of R.h2, at_of (j := 0) rfl (two_at (fun i => V.ref (b i)) (by decide)), p (0), l (0), b (0), L (0), rfl, (R.en _ (by decide)).net, (R.en _ (by decide)).ls, lz _ (by decide), (R.en _ (by decide)).dt, fun H6 s6 => ?_⟩
      refine ⟨_, rfl, iteT ?_⟩
      have R6 := R.same s6
      refine ⟨_, rfl, ln, _, _, _, rfl, rfl, SqL.of R6.h1, at_of (j := 1) rfl (two_at (fun i => V.ref (p i)) (by decide)), _, rfl, lb, _, _, _, rfl, rfl, SqL.of R6.h2, at_of (j := 1) rfl (two_at (fun i => V.ref (b i)) (by decide)), p (1), l (1), b (1), L (1), rfl, (R6.en _ (by decide)).net, (R6.en _ (by decide)).ls, lz _ (by decide), (R6.en _ (by decide)).dt, fun H7 s7 => ?_⟩
      exact k _
end
/-! ### the head -/
def d_check_index : Fh.Dx := ⟨fun K => (He.ga K "check_index"), "check_index", "check_index", defArgs s_check_index, defBody s_check_index, defScope s_check_index, [], []⟩
def d_Network_init : Fh.Dx := ⟨fun K => (He.ma K (He.ga K "Network") "__init__"), "__init__", "Network.__init__", defArgs s_Network_init, defBody s_Network_init, defScope s_Network_init, [], []⟩
def d_Network_len : Fh.Dx := ⟨fun K => (He.ma K (He.ga K "Network") "__len__"), "__len__", "Network.__len__", defArgs s_Network_len, defBody s_Network_len, defScope s_Network_len, [], []⟩
def d_Network_iter : Fh.Dx := ⟨fun K => (He.ma K (He.ga K "Network") "__iter__"), "__iter__", "Network.__iter__", defArgs s_Network_iter, defBody s_Network_iter, defScope s_Network_iter, [], []⟩
def d_Network_post : Fh.Dx := ⟨fun K => (He.ma K (He.ga K "Network") "post"), "post", "Network.post", defArgs s_Network_post, defBody s_Network_post, defScope s_Network_post, [], []⟩
def d_Network_take_out : Fh.Dx := ⟨fun K => (He.ma K (He.ga K "Network") "take_out"), "take_out", "Network.take_out", defArgs s_Network_take_out, defBody s_Network_take_out, defScope s_Network_take_out, [], []⟩
def d_Network_repeat : Fh.Dx := ⟨fun K => (He.ma K (He.ga K "Network") "repeat"), "repeat", "Network.repeat", defArgs s_Network_repeat, defBody s_Network_repeat, defScope s_Network_repeat, [], []⟩
def d_Network_packets : Fh.Dx := ⟨fun K => (He.ma K (He.ga K "Network") "packets"), "packets", "Network.packets", defArgs s_Network_packets, defBody s_Network_packets, defScope s_Network_packets, [], []⟩
def d_law_number : Fh.Dx := ⟨fun K => (He.ga K "_law_number"), "_law_number", "_law_number", defArgs s_law_number, defBody s_law_number, defScope s_law_number, [], []⟩
def d_law_packet : Fh.Dx := ⟨fun K => (He.ga K "_law_packet"), "_law_packet", "_law_packet", defArgs s_law_packet, defBody s_law_packet, defScope s_law_packet, [], []⟩
def d_law_holds : Fh.Dx := ⟨fun K => (He.ga K "_law_holds"), "_law_holds", "_law_holds", defArgs s_law_holds, defBody s_law_holds, defScope s_law_holds, [], []⟩
def d_law_refuses : Fh.Dx := ⟨fun K => (He.ga K "_law_refuses"), "_law_refuses", "_law_refuses", defArgs s_law_refuses, defBody s_law_refuses, defScope s_law_refuses, [], []⟩
def d_law_bad_index : Fh.Dx := ⟨fun K => (He.ga K "_law_bad_index"), "_law_bad_index", "_law_bad_index", defArgs s_law_bad_index, defBody s_law_bad_index, defScope s_law_bad_index, [], []⟩
def d_law_posts : Fh.Dx := ⟨fun K => (He.ga K "_law_posts"), "_law_posts", "_law_posts", defArgs s_law_posts, defBody s_law_posts, defScope s_law_posts, [], []⟩
def d_law_deed : Fh.Dx := ⟨fun K => (He.ga K "_law_deed"), "_law_deed", "_law_deed", defArgs s_law_deed, defBody s_law_deed, defScope s_law_deed, [], []⟩
def d_law : Fh.Dx := ⟨fun K => (He.ga K "law"), "law", "law", defArgs s_law, defBody s_law, defScope s_law, [], []⟩
def fn : List Fh.Dx := [d_check_index, d_Network_init, d_Network_len, d_Network_iter, d_Network_post, d_Network_take_out, d_Network_repeat, d_Network_packets, d_law_number, d_law_packet, d_law_holds, d_law_refuses, d_law_bad_index, d_law_posts, d_law_deed, d_law]
def ex : List (PySem.W.Frag → Bool) := [Fh.excCB "Unknown", Fh.kitOB "Unknown" "Empty" false, Fh.kitOB "Unknown" "NotNear" false, Fh.kitOB "Unknown" "NotFar" false, Fh.kitOB "Unknown" "FarheapError" true, Fh.kitTB "Unknown" "ValueError" true]
def fa : List He.Fa := [.glo "FarheapError", .glo "Unknown", .glo "Empty", .glo "NotNear", .glo "NotFar", .glo "Network", .cls "Network", .noat "Network" "_packets", .glo "check_index", .mkr "Network", .meth "Network" "__len__", .meth "Network" "__iter__", .meth "Network" "post", .meth "Network" "take_out", .meth "Network" "repeat", .meth "Network" "packets", .glo "_law_number", .glo "_law_packet", .glo "_law_holds", .glo "_law_refuses", .glo "_law_bad_index", .glo "_law_posts", .glo "_law_deed", .glo "law", .free "len", .free "iter", .free "list", .free "int", .free "isinstance", .free "tuple", .free "ValueError", .free "range", .exc "Unknown", .exm "Unknown" "Unknown" true]
abbrev R : PySem.W.OpenRow := PySem.W.OpenLaw.row PySem.Challenge.rw_farheap_k03_network_is_a_list
abbrev hk : PySem.W.Hook := Fh.hookX 7 fa ex fn
def ob (s : PySem.W.SharedT) : He.AlD := Fh.obsXG 7 fa ex fn (HandSHeadRun.getT s)
theorem ob_eq (s : PySem.W.SharedT) : ob s = hk.obs s.abs := Fh.obsXG_eq (HandSHeadRun.getT_eq s)
theorem run (w : World) : HandSHeadRun.RunEq R (PySem.W.view R.prog [18]) hk ob 3000 ["FarheapError", "Unknown", "Empty", "NotNear", "NotFar", "check_index", "Network", "_law_number", "_law_packet", "_law_holds", "_law_refuses", "_law_bad_index", "_law_posts", "_law_deed"] w := by
  intro os
  kernel_rfl
theorem mkTxt {K : PySem.W.Frag} {h : Heap} {mg : Str → Option Value} (X : K.In h) (G : h.Ns mainGlobals mg) (c : Fh.SaysX fa ex fn K) : Nonempty (Txt K mg) := by
  obtain ⟨fd_check_index, F_check_index⟩ := c.def_ 0 (d := d_check_index) rfl
  obtain ⟨fd_Network_init, F_Network_init⟩ := c.def_ 1 (d := d_Network_init) rfl
  obtain ⟨fd_Network_len, F_Network_len⟩ := c.def_ 2 (d := d_Network_len) rfl
  obtain ⟨fd_Network_iter, F_Network_iter⟩ := c.def_ 3 (d := d_Network_iter) rfl
  obtain ⟨fd_Network_post, F_Network_post⟩ := c.def_ 4 (d := d_Network_post) rfl
  obtain ⟨fd_Network_take_out, F_Network_take_out⟩ := c.def_ 5 (d := d_Network_take_out) rfl
  obtain ⟨fd_Network_repeat, F_Network_repeat⟩ := c.def_ 6 (d := d_Network_repeat) rfl
  obtain ⟨fd_Network_packets, F_Network_packets⟩ := c.def_ 7 (d := d_Network_packets) rfl
  obtain ⟨fd_law_number, F_law_number⟩ := c.def_ 8 (d := d_law_number) rfl
  obtain ⟨fd_law_packet, F_law_packet⟩ := c.def_ 9 (d := d_law_packet) rfl
  obtain ⟨fd_law_holds, F_law_holds⟩ := c.def_ 10 (d := d_law_holds) rfl
  obtain ⟨fd_law_refuses, F_law_refuses⟩ := c.def_ 11 (d := d_law_refuses) rfl
  obtain ⟨fd_law_bad_index, F_law_bad_index⟩ := c.def_ 12 (d := d_law_bad_index) rfl
  obtain ⟨fd_law_posts, F_law_posts⟩ := c.def_ 13 (d := d_law_posts) rfl
  obtain ⟨fd_law_deed, F_law_deed⟩ := c.def_ 14 (d := d_law_deed) rfl
  obtain ⟨fd_law, F_law⟩ := c.def_ 15 (d := d_law) rfl
  exact ⟨⟨He.glo_ok X G (c.fact 0 (f := .glo "FarheapError") rfl), He.glo_ok X G (c.fact 1 (f := .glo "Unknown") rfl), He.glo_ok X G (c.fact 2 (f := .glo "Empty") rfl), He.glo_ok X G (c.fact 3 (f := .glo "NotNear") rfl), He.glo_ok X G (c.fact 4 (f := .glo "NotFar") rfl), He.glo_ok X G (c.fact 5 (f := .glo "Network") rfl), He.cls_ok (c.fact 6 (f := .cls "Network") rfl), He.noat_ok (c.fact 7 (f := .noat "Network" "_packets") rfl), He.glo_ok X G (c.fact 8 (f := .glo "check_index") rfl), He.mkr_ok (c.fact 9 (f := .mkr "Network") rfl), He.meth_ok (c.fact 10 (f := .meth "Network" "__len__") rfl), He.meth_ok (c.fact 11 (f := .meth "Network" "__iter__") rfl), He.meth_ok (c.fact 12 (f := .meth "Network" "post") rfl), He.meth_ok (c.fact 13 (f := .meth "Network" "take_out") rfl), He.meth_ok (c.fact 14 (f := .meth "Network" "repeat") rfl), He.meth_ok (c.fact 15 (f := .meth "Network" "packets") rfl), He.glo_ok X G (c.fact 16 (f := .glo "_law_number") rfl), He.glo_ok X G (c.fact 17 (f := .glo "_law_packet") rfl), He.glo_ok X G (c.fact 18 (f := .glo "_law_holds") rfl), He.glo_ok X G (c.fact 19 (f := .glo "_law_refuses") rfl), He.glo_ok X G (c.fact 20 (f := .glo "_law_bad_index") rfl), He.glo_ok X G (c.fact 21 (f := .glo "_law_posts") rfl), He.glo_ok X G (c.fact 22 (f := .glo "_law_deed") rfl), He.glo_ok X G (c.fact 23 (f := .glo "law") rfl), He.free_ok X G (c.fact 24 (f := .free "len") rfl), He.free_ok X G (c.fact 25 (f := .free "iter") rfl), He.free_ok X G (c.fact 26 (f := .free "list") rfl), He.free_ok X G (c.fact 27 (f := .free "int") rfl), He.free_ok X G (c.fact 28 (f := .free "isinstance") rfl), He.free_ok X G (c.fact 29 (f := .free "tuple") rfl), He.free_ok X G (c.fact 30 (f := .free "ValueError") rfl), He.free_ok X G (c.fact 31 (f := .free "range") rfl), He.exc_ok (c.fact 32 (f := .exc "Unknown") rfl), He.exm_ok (c.fact 33 (f := .exm "Unknown" "Unknown" true) rfl), Fh.excC_ok (c.ext 0 (f := Fh.excCB "Unknown") rfl), Fh.kitO_ok (c.ext 1 (f := Fh.kitOB "Unknown" "Empty" false) rfl), Fh.kitO_ok (c.ext 2 (f := Fh.kitOB "Unknown" "NotNear" false) rfl), Fh.kitO_ok (c.ext 3 (f := Fh.kitOB "Unknown" "NotFar" false) rfl), Fh.kitO_ok (c.ext 4 (f := Fh.kitOB "Unknown" "FarheapError" true) rfl), Fh.kitT_ok (c.ext 5 (f := Fh.kitTB "Unknown" "ValueError" true) rfl), fd_check_index, F_check_index, fd_Network_init, F_Network_init, fd_Network_len, F_Network_len, fd_Network_iter, F_Network_iter, fd_Network_post, F_Network_post, fd_Network_take_out, F_Network_take_out, fd_Network_repeat, F_Network_repeat, fd_Network_packets, F_Network_packets, fd_law_number, F_law_number, fd_law_packet, F_law_packet, fd_law_holds, F_law_holds, fd_law_refuses, F_law_refuses, fd_law_bad_index, F_law_bad_index, fd_law_posts, F_law_posts, fd_law_deed, F_law_deed, fd_law, F_law⟩⟩
theorem facts {P : Program} {w : World} {K : PySem.W.Frag} {h : Heap} {mg : Str → Option Value} {f : Addr} (X : K.In h) (G : h.Ns mainGlobals mg) (hfa : mg ("law" : Str) = some (.ref f)) (c : Fh.SaysX fa ex fn K) :
    ∃ fd : FuncData, (∀ (s : Shared) (v : Value), BindsTo s fd ⟨[v], []⟩ [("script", v)]) ∧ ∀ base : Heap, K.In base → base.Ns mainGlobals mg → FnOk P w K mg base CX0 6 f fd ["script"] (spLaw K) := by
  obtain ⟨T⟩ := mkTxt X G c
  have e := hfa.symm.trans T.g_law
  cases e
  have b := FunD.bindsA (ps := ["script"]) T.F_law fun _ _ _ _ _ _ us hl => match us, hl with | [_], _ => rfl
  exact ⟨T.fd_law, fun s v => b s [v] rfl, fun base _ _ => ok_law T⟩
end K03
open PySem PySem.W PySem.Calls PyProof.Rows
set_option maxRecDepth 100000 in
set_option maxHeartbeats 0 in
theorem PySem.Challenge.cw_farheap_k03_network_is_a_list_holds : PySem.Challenge.rw_farheap_k03_network_is_a_list.Holds := by
  w_on; o_law
  refine HandSHeadRun.head_any (r := OpenLaw.row PySem.Challenge.rw_farheap_k03_network_is_a_list) (q := view (OpenLaw.row PySem.Challenge.rw_farheap_k03_network_is_a_list).prog [18]) (H := K03.hk) (ob := K03.ob) (M := 3000) (loose := ["FarheapError", "Unknown", "Empty", "NotNear", "NotFar", "check_index", "Network", "_law_number", "_law_packet", "_law_holds", "_law_refuses", "_law_bad_index", "_law_posts", "_law_deed"]) (d := HandSHeadRun.topDef (OpenLaw.row PySem.Challenge.rw_farheap_k03_network_is_a_list).prog 18) (kwd := []) K03.ob_eq
    (by kernel_rfl) (fun s => by kernel_rfl) K03.run (by kernel_rfl) (by kernel_rfl) (by kernel_rfl) (by rfl) (by first | assumption | decide +kernel) (by decide +kernel) ⟨rfl, rfl, rfl, rfl, rfl, by decide +kernel⟩ ?hw ?hc
  case hw => w_witness2
  case hc =>
    refine L2.walk_ofE (l := PySem.Challenge.rw_farheap_k03_network_is_a_list) (n := 63) (k := 6) (x := "script") (CX := L2.CX0) rfl (by decide) (by kernel_rfl) ⟨rfl, by decide, by decide⟩ ?F (fun _ _ _ _ z => z)
    intro w mg fa h Y G hmg0
    obtain ⟨K, KX, c⟩ := Y
    have hmg : mg ("law" : PySem.Str) = some (.ref fa) := by
      have e : (HandSHeadRun.topDef (OpenLaw.row PySem.Challenge.rw_farheap_k03_network_is_a_list).prog 18).name = ("law" : PySem.Str) := by kernel_rfl
      rw [← e]
      exact hmg0
    obtain ⟨fd, hb, hF⟩ := K03.facts (P := (PySem.Challenge.rw_farheap_k03_network_is_a_list).prog) (w := w) KX G hmg c
    exact ⟨K, fd, K03.spLaw K, KX, hb, fun H a ns hl _ hS => ⟨a, ns, rfl, hS, hl, fun _ => rfl⟩, hF⟩
#print axioms PySem.Challenge.cw_farheap_k03_network_is_a_list_holds
