import PyProof.Rows.All
import Wide.All
import OpenK.AllK
import Wide.FinOn
import KE.KStateDown
import HandS.ForMost
import HandS.More
import HandS.Defaults
import HandS.Wide
import HandS.WideBits
import HandS.IsInst
import HandS.Conv
import HandS.HeadHook1
import HandS.HeadHook2
import HandS.SortInts
import HandS.Iter
import HandS.Zip
import HandS.Style
import HandS.Set
import HandS.Strs
import KE.GoesSet
import HandS.OwnEq
import PyProof.InstNe
import HandS.TryOnly
import KE.SortData
import HandS.SetFor
import PyProof.SetRoads
import PyProof.SetNew
import HandS.Dict
import PyProof.DictUpdate
import KE.BitLaws
import KE.KDictKeyed
import HandS.Sort
import KE.KDictWalk
import HandS.DictSubView
import HandS.Deep
import HandS.RevRange
import HandS.Ends
import HandS.Words
import HandS.WordsExc
import HandS.Head0
import HandS.Head1
import HandS.Head2
import HandS.HeadEnd
import PySem.Challenge.RW_sparecells_k26_whole_days
set_option Elab.async false
set_option linter.all false
set_option maxRecDepth 100000
set_option maxHeartbeats 4000000
namespace Zm
open PySem PySem.Spec PyProof.Rows L2

/-! ### a def of the text, where it stands -/
structure DefAt (K : PySem.W.Frag) (mg : Str → Option Value) (x : Str) (ps : List Str) (st : Stmt) (f : Addr) (fd : FuncData) : Prop where
  fn : FunD K x x (defArgs st) (defBody st) (defScope st) [] [] f fd
  at_ : mg x = some (.ref f)
  bi : Binds K fd ps []
structure DefOk (P : Program) (w : World) (K : PySem.W.Frag) (mg : Str → Option Value) (base : Heap) (x : Str) (k : Nat) (ps : List Str) (sp : Sp) : Prop where
  ex : ∃ (f : Addr) (fd : FuncData), FnOk P w K mg base CX0 k f fd ps sp ∧ mg x = some (.ref f) ∧ PySem.W.keepIn K (.ref f) = true ∧ Binds K fd ps []
section
variable {P : Program} {w : World} {K : PySem.W.Frag} {mg : Str → Option Value} {base : Heap} {x : Str} {k : Nat} {ps N : List Str} {sp : Sp} {st : Stmt} {f : Addr} {fd : FuncData}
theorem DefAt.ok (F : DefAt K mg x ps st f fd) (S : FnScope N ps (defScope st)) (len : ∀ vs H Q E, sp vs H Q E → vs.length = ps.length)
    (hbody : ∀ (cdv : Value) (A : Around) (outer : List Env) (s : Shared) (H : Hp) (vs : List V) (Q : VK) (E : XK), Room k (A.deeper (envOfC x (defScope st) s.heap.objs.size f cdv)) → sp vs H Q E →
      ∃ t, PSs (cxOf CX0 P w K mg base N x (defScope st) f cdv A outer s H E).nox (defBody st) t ∧ t { nx := fun _ H' => Q .non H', rt := Q } (start N vs) H) : DefOk P w K mg base x (k + 1) ps sp := by
  refine ⟨f, fd, F.fn.ok S len fun cdv A outer s H vs Q E hr h => ?_, F.at_, F.fn.kp, F.bi⟩
  obtain ⟨t, h1, h2⟩ := hbody cdv A outer s H vs Q E hr h
  exact ⟨t, PSs.nox h1, h2⟩
theorem DefOk.mono {j : Nat} (D : DefOk P w K mg base x j ps sp) (h : j ≤ k) : DefOk P w K mg base x k ps sp := by
  obtain ⟨f, fd, F, a, b, c⟩ := D.ex
  exact ⟨f, fd, F.mono h, a, b, c⟩
end
section
variable {X : Cx} {k : Nat} {ps : List Str} {sp : Sp} {x : Str} {p pos : Pos} {e : Expr} {es : List Expr} {t : TA}
theorem pe_def (D : DefOk X.prog X.w X.K X.mg X.base x k ps sp) (hr : Room k X.A) (ha : PA X (e :: es) t) (hg : Gl X x := by rfl) (hdb : (x == ("__debug__" : Str)) = false := by decide)
    (he : starEach (e :: es) X.env = (false, eval e X.env) :: starEach es X.env := by rfl) (hpl : (backTo pos (starEach es X.env)).any (·.1) = false := by rfl) (hx : Passes CX0 X E0 := by exact pass0) :
    PE X (.Call (.Name x p) (e :: es) [] pos) (tCall sp [] E0 t) := by
  obtain ⟨f, fd, F, a, b, c⟩ := D.ex
  exact pe_call F hr hg a b c .nil hx ha hdb he hpl
theorem pe_def0 (D : DefOk X.prog X.w X.K X.mg X.base x k ps sp) (hr : Room k X.A) (hg : Gl X x := by rfl) (hdb : (x == ("__debug__" : Str)) = false := by decide) (hx : Passes CX0 X E0 := by exact pass0) :
    PE X (.Call (.Name x p) [] [] pos) (tCall sp [] E0 tNil) := by
  obtain ⟨f, fd, F, a, b, c⟩ := D.ex
  exact pe_call0 F hr hg a b c .nil hx hdb
/-- ints to a power, the result below 2 ^ 27 bits -/
theorem op_powW : OpR X (binaryOp .Pow) (rI (fun i j => 0 ≤ j ∧ (Builtin.Int.intBits i : Int) * j ≤ 2 ^ 27) fun i j => .int (i ^ j.toNat)) := opI fun _ _ _ _ _ _ _ hc q => pow_int hc.1 hc.2 q
end

/-! ### the names of the built-ins that the text uses are free -/
def bNames : List Str := ["len", "sum", "max", "min", "int", "range", "list", "tuple", "dict", "set", "sorted", "all", "any", "isinstance", "enumerate", "zip", "reversed", "bool", "str", "repr", "ValueError", "abs"]
def BFree (mg : Str → Option Value) : Prop := ∀ x ∈ bNames, mg x = none

/-! ### the law's draws: a purse is a list of four ints at p, the third counts the draws -/
def PurseIs (n : Nat) (H : Hp) (p : Addr) : Prop := ∃ a b c d : Int, H p = some (.lst [.int a, .int b, .int c, .int d]) ∧ 0 ≤ a ∧ a < 10 ^ 480 ∧ 0 ≤ b ∧ b < 2147483629 ∧ 0 ≤ c ∧ c ≤ n ∧ d = 0
theorem PurseIs.mono {n m : Nat} {H : Hp} {p : Addr} (h : PurseIs n H p) (l : n ≤ m) : PurseIs m H p := by
  obtain ⟨a, b, c, d, h0, h1, h2, h3, h4, h5, h6, h7⟩ := h
  exact ⟨a, b, c, d, h0, h1, h2, h3, h4, h5, by omega, h7⟩
/-- all that was tracked but at p stands -/
def But (p : Addr) (H H' : Hp) : Prop := ∀ a o, a ≠ p → H a = some o → H' a = some o
theorem But.refl (p : Addr) (H : Hp) : But p H H := fun _ _ _ h => h
theorem But.trans {p : Addr} {H H1 H2 : Hp} (a : But p H H1) (b : But p H1 H2) : But p H H2 := fun x o n h => b x o n (a x o n h)
theorem But.of {p : Addr} {H H' : Hp} (h : Same H H') : But p H H' := fun a o _ e => h a o e

def spPurse (K : PySem.W.Frag) : Sp := fun vs H Q _ => ∃ (a : Addr) (ns : List Int), vs = [.ref a, .int 0] ∧ SqL K H a (ns.map V.int) ∧
  ∀ p H', Same H H' → H p = none → PurseIs 0 H' p → Q (.ref p) H'
def spMixed : Sp := fun vs _H Q _ => ∃ a b c : Int, vs = [.int a, .int b, .int c] ∧ (0 ≤ a ∧ a < 2 ^ 40) ∧ (0 ≤ b ∧ b < 2 ^ 60) ∧ c = 0 ∧ ∀ i : Int, 0 ≤ i → i < 2147483587 → Q (.int i) _H
def spDraw : Sp := fun vs H Q _ => ∃ (p : Addr) (n : Nat) (m : Int), vs = [.ref p, .int m] ∧ PurseIs n H p ∧ n ≤ 1000000 ∧ 0 < m ∧ m < 1000000 ∧
  ∀ (i : Int) (H' : Hp), 0 ≤ i → i < m → But p H H' → PurseIs (n + 1) H' p → Q (.int i) H'
end Zm


set_option Elab.async false
set_option linter.all false
set_option maxRecDepth 100000
set_option maxHeartbeats 4000000
set_option autoImplicit false
namespace Zm
open PySem PySem.Spec L2

/-! ### data: what a value stands for, whatever its addresses -/
inductive D where
  | non | bl (b : Bool) | int (i : Int) | str (x : Str)
  | lst (ds : List D) | tup (ds : List D) | dic (kvs : List (Key × D))
  | rcp (m : Int) (rows : List (List Int))
  | raw (v : V)
  | dtp (kvs : List (List Int × D))

abbrev sMany : Str := "_many"
abbrev sNeeds : Str := "_needs"
def fsR (m : Int) (t : Addr) : List (Str × V) := [(sMany, .int m), (sNeeds, .ref t)]
/-- the tuple of tuples of a recipe's needs -/
def RowsT (K : PySem.W.Frag) (H : Hp) : List (List Int) → List V → Prop
  | [], xs => xs = []
  | r :: rs, xs => ∃ a ys, xs = .ref a :: ys ∧ H a = some (.tup (r.map V.int)) ∧ RowsT K H rs ys
mutual
/-- v stands for d; C: where the class of recipes stands -/
def Dat (K : PySem.W.Frag) (C : Addr) (H : Hp) : D → V → Prop
  | .non, v => v = .non
  | .bl b, v => v = .bl b
  | .int i, v => v = .int i
  | .str x, v => v = .str x
  | .lst ds, v => ∃ a xs, v = .ref a ∧ H a = some (.lst xs) ∧ Dats K C H ds xs
  | .tup ds, v => ∃ a xs, v = .ref a ∧ H a = some (.tup xs) ∧ Dats K C H ds xs
  | .dic kvs, v => ∃ a kws, v = .ref a ∧ H a = some (.dK kws) ∧ DatK K C H kvs kws
  | .rcp m rows, v => ∃ a dx t xs, v = .ref a ∧ H a = some (.ins C dx (fsR m t)) ∧ H t = some (.tup xs) ∧ RowsT K H rows xs
  | .raw w, v => v = w
  | .dtp kvs, v => ∃ a kws, v = .ref a ∧ H a = some (.dT kws) ∧ DatT K C H kvs kws
def Dats (K : PySem.W.Frag) (C : Addr) (H : Hp) : List D → List V → Prop
  | [], xs => xs = []
  | d :: ds, xs => ∃ x ys, xs = x :: ys ∧ Dat K C H d x ∧ Dats K C H ds ys
def DatK (K : PySem.W.Frag) (C : Addr) (H : Hp) : List (Key × D) → List (Key × V) → Prop
  | [], xs => xs = []
  | (k, d) :: ds, xs => ∃ x ys, xs = (k, x) :: ys ∧ Dat K C H d x ∧ DatK K C H ds ys
/-- the entries of a dict whose keys are tuples of ints -/
def DatT (K : PySem.W.Frag) (C : Addr) (H : Hp) : List (List Int × D) → List (List Key × V) → Prop
  | [], xs => xs = []
  | (k, d) :: ds, xs => ∃ x ys, xs = (k.map Sum.inl, x) :: ys ∧ Dat K C H d x ∧ DatT K C H ds ys
end
section
variable {K : PySem.W.Frag} {C : Addr} {H H' : Hp}
theorem same_rd (e : Same H H') {a : Addr} {u : HO} (h : Rd H a u) : Rd H' a u := by
  rcases h with h | ⟨o, h⟩
  · exact .inl (e _ _ h)
  · exact .inr ⟨o, e _ _ h⟩
theorem same_l (e : Same H H') {a : Addr} {xs : List V} (h : SqL K H a xs) : SqL K H' a xs := e.seq h
theorem same_t (e : Same H H') {a : Addr} {xs : List V} (h : SqT K H a xs) : SqT K H' a xs := by
  rcases h with h | h
  · exact .inl (same_rd e h)
  · exact .inr h
theorem RowsT.same (e : Same H H') : ∀ (rs : List (List Int)) (xs : List V), RowsT K H rs xs → RowsT K H' rs xs
  | [], _, h => h
  | _ :: rs, _, h => by
    obtain ⟨a, ys, h1, h2, h3⟩ := h
    exact ⟨a, ys, h1, e _ _ h2, RowsT.same e rs ys h3⟩
mutual
theorem Dat.same (e : Same H H') : ∀ (d : D) (v : V), Dat K C H d v → Dat K C H' d v
  | .non, _, h => h
  | .bl _, _, h => h
  | .int _, _, h => h
  | .str _, _, h => h
  | .raw _, _, h => h
  | .dtp ds, v, h => by
    unfold Dat at h ⊢
    obtain ⟨a, xs, h1, h2, h3⟩ := h
    exact ⟨a, xs, h1, e _ _ h2, DatT.same e ds xs h3⟩
  | .lst ds, v, h => by
    unfold Dat at h ⊢
    obtain ⟨a, xs, h1, h2, h3⟩ := h
    exact ⟨a, xs, h1, e _ _ h2, Dats.same e ds xs h3⟩
  | .tup ds, v, h => by
    unfold Dat at h ⊢
    obtain ⟨a, xs, h1, h2, h3⟩ := h
    exact ⟨a, xs, h1, e _ _ h2, Dats.same e ds xs h3⟩
  | .dic ds, v, h => by
    unfold Dat at h ⊢
    obtain ⟨a, xs, h1, h2, h3⟩ := h
    exact ⟨a, xs, h1, e _ _ h2, DatK.same e ds xs h3⟩
  | .rcp m rows, v, h => by
    unfold Dat at h ⊢
    obtain ⟨a, dx, t, xs, h1, h2, h3, h4⟩ := h
    exact ⟨a, dx, t, xs, h1, e _ _ h2, e _ _ h3, RowsT.same e rows xs h4⟩
theorem Dats.same (e : Same H H') : ∀ (d : List D) (v : List V), Dats K C H d v → Dats K C H' d v
  | [], _, h => h
  | d :: ds, v, h => by
    unfold Dats at h ⊢
    obtain ⟨x, ys, h1, h2, h3⟩ := h
    exact ⟨x, ys, h1, Dat.same e d x h2, Dats.same e ds ys h3⟩
theorem DatK.same (e : Same H H') : ∀ (d : List (Key × D)) (v : List (Key × V)), DatK K C H d v → DatK K C H' d v
  | [], _, h => h
  | (k, d) :: ds, v, h => by
    unfold DatK at h ⊢
    obtain ⟨x, ys, h1, h2, h3⟩ := h
    exact ⟨x, ys, h1, Dat.same e d x h2, DatK.same e ds ys h3⟩
theorem DatT.same (e : Same H H') : ∀ (d : List (List Int × D)) (v : List (List Key × V)), DatT K C H d v → DatT K C H' d v
  | [], _, h => h
  | (k, d) :: ds, v, h => by
    unfold DatT at h ⊢
    obtain ⟨x, ys, h1, h2, h3⟩ := h
    exact ⟨x, ys, h1, Dat.same e d x h2, DatT.same e ds ys h3⟩
end
theorem Dats.length : ∀ {ds : List D} {xs : List V}, Dats K C H ds xs → xs.length = ds.length
  | [], _, h => by
    unfold Dats at h
    rw [h]
    rfl
  | d :: ds, v, h => by
    unfold Dats at h
    obtain ⟨x, ys, h1, h2, h3⟩ := h
    rw [h1, List.length_cons, List.length_cons, Dats.length h3]
theorem Dats.get : ∀ {ds : List D} {xs : List V} {i : Nat} {d : D}, Dats K C H ds xs → ds[i]? = some d → ∃ x, xs[i]? = some x ∧ Dat K C H d x
  | [], _, _, _, h, e => by simp at e
  | d :: ds, v, i, d', h, e => by
    unfold Dats at h
    obtain ⟨x, ys, h1, h2, h3⟩ := h
    subst h1
    cases i with
    | zero =>
      have q : d = d' := by simpa using e
      subst q
      exact ⟨x, rfl, h2⟩
    | succ j =>
      obtain ⟨y, q1, q2⟩ := Dats.get (i := j) h3 (by simpa using e)
      exact ⟨y, by simpa using q1, q2⟩
theorem Dats.get' : ∀ {ds : List D} {xs : List V} {i : Nat} {x : V}, Dats K C H ds xs → xs[i]? = some x → ∃ d, ds[i]? = some d ∧ Dat K C H d x
  | ds, xs, i, x, h, e => by
    have hl := h.length
    have hi : i < ds.length := by
      rw [← hl]
      exact (List.getElem?_eq_some_iff.mp e).1
    obtain ⟨y, q1, q2⟩ := h.get (i := i) (d := ds[i]) (by simp [hi])
    rw [e] at q1
    cases q1
    exact ⟨_, by simp [hi], q2⟩
theorem Dats.append : ∀ {ds es : List D} {xs ys : List V}, Dats K C H ds xs → Dats K C H es ys → Dats K C H (ds ++ es) (xs ++ ys)
  | [], es, xs, ys, h, g => by
    unfold Dats at h
    subst h
    exact g
  | d :: ds, es, v, ys, h, g => by
    unfold Dats at h
    obtain ⟨x, zs, h1, h2, h3⟩ := h
    subst h1
    show Dats K C H (d :: (ds ++ es)) (x :: (zs ++ ys))
    unfold Dats
    exact ⟨x, _, rfl, h2, h3.append g⟩
theorem Dats.one {d : D} {x : V} (h : Dat K C H d x) : Dats K C H [d] [x] := by
  unfold Dats
  exact ⟨x, [], rfl, h, by unfold Dats; rfl⟩
theorem Dats.nil : Dats K C H [] [] := by
  unfold Dats
  rfl
theorem Dats.cons {d : D} {x : V} {ds : List D} {xs : List V} (h : Dat K C H d x) (g : Dats K C H ds xs) : Dats K C H (d :: ds) (x :: xs) := by
  unfold Dats
  exact ⟨x, xs, rfl, h, g⟩
theorem Dats.take (n : Nat) : ∀ {ds : List D} {xs : List V}, Dats K C H ds xs → Dats K C H (ds.take n) (xs.take n) := by
  induction n with
  | zero =>
    intro ds xs h
    rw [List.take_zero, List.take_zero]
    exact .nil
  | succ n ih =>
    intro ds xs h
    cases ds with
    | nil =>
      unfold Dats at h
      subst h
      rw [List.take_nil, List.take_nil]
      exact .nil
    | cons d ds =>
      unfold Dats at h
      obtain ⟨x, zs, h1, h2, h3⟩ := h
      subst h1
      rw [List.take_succ_cons, List.take_succ_cons]
      exact .cons h2 (ih h3)
theorem Dats.drop (n : Nat) : ∀ {ds : List D} {xs : List V}, Dats K C H ds xs → Dats K C H (ds.drop n) (xs.drop n) := by
  induction n with
  | zero =>
    intro ds xs h
    rw [List.drop_zero, List.drop_zero]
    exact h
  | succ n ih =>
    intro ds xs h
    cases ds with
    | nil =>
      unfold Dats at h
      subst h
      rw [List.drop_nil, List.drop_nil]
      exact .nil
    | cons d ds =>
      unfold Dats at h
      obtain ⟨x, zs, h1, h2, h3⟩ := h
      subst h1
      rw [List.drop_succ_cons, List.drop_succ_cons]
      exact ih h3
/-- lists of ints -/
def dI (ns : List Int) : List D := ns.map D.int
theorem dats_ints : ∀ {ns : List Int} {xs : List V}, Dats K C H (dI ns) xs ↔ xs = ns.map V.int
  | [], xs => by
    show Dats K C H [] xs ↔ xs = []
    unfold Dats
    exact Iff.rfl
  | n :: ns, xs => by
    show Dats K C H (.int n :: dI ns) xs ↔ xs = V.int n :: ns.map V.int
    unfold Dats
    constructor
    · rintro ⟨x, ys, h1, h2, h3⟩
      unfold Dat at h2
      rw [h1, h2, dats_ints.mp h3]
    · intro h
      exact ⟨_, _, h, by unfold Dat; rfl, dats_ints.mpr rfl⟩
end
/-! ### objects that are one's own: hidden from the data -/
def hid (O : Addr → Bool) (H : Hp) : Hp := fun a => if O a = true then none else H a
/-- no tuple -/
def NoT : HO → Prop
  | .tup _ => False
  | _ => True
/-- what is one's own is there, and is no tuple -/
structure OIn (O : Addr → Bool) (H : Hp) : Prop where
  ne : ∀ a, O a = true → H a ≠ none
  nt : ∀ a o, O a = true → H a = some o → NoT o
instance {O : Addr → Bool} {H : Hp} : CoeFun (OIn O H) (fun _ => ∀ a, O a = true → H a ≠ none) := ⟨OIn.ne⟩
section
variable {O : Addr → Bool} {H H' : Hp}
theorem hid_same : Same (hid O H) H := fun a o e => by
  unfold hid at e
  split at e
  · cases e
  · exact e
theorem same_hid (s : Same H H') : Same (hid O H) (hid O H') := fun a o e => by
  unfold hid at e ⊢
  split at e
  · cases e
  · rename_i h
    rw [if_neg h]
    exact s a o e
theorem OIn.same (s : Same H H') (h : OIn O H) : OIn O H' := by
  refine ⟨fun a e q => ?_, fun a o e q => ?_⟩
  · have h1 := h a e
    cases r : H a with
    | none => exact h1 r
    | some o =>
      rw [s a o r] at q
      cases q
  · have h1 := h a e
    cases r : H a with
    | none => exact absurd r h1
    | some u =>
      rw [s a u r] at q
      rw [← Option.some.inj q]
      exact h.nt a u e r
theorem hid_new {p : Addr} {o : HO} (h : OIn O H) (n : H p = none) : hid O (upd H p o) p = some o := by
  unfold hid
  rw [if_neg (fun q => h p q n), upd_same]
theorem same_new {p : Addr} {o : HO} (h : H p = none) : Same H (upd H p o) := fun b u e => by
  rw [upd_ne (ne_of_none e h)]
  exact e
end
/-! ### what is known of the slots -/
abbrev Dl : Type := List (Option D)
def EnvR (K : PySem.W.Frag) (C : Addr) (H : Hp) (σ : L2.St) (δ : Dl) : Prop := σ.length = δ.length ∧ ∀ (i : Nat) (d : D), δ[i]? = some (some d) → ∃ v, σ[i]? = some (some v) ∧ Dat K C H d v
section
variable {K : PySem.W.Frag} {C : Addr} {H H' : Hp} {σ : L2.St} {δ : Dl}
theorem EnvR.same (e : Same H H') (h : EnvR K C H σ δ) : EnvR K C H' σ δ := ⟨h.1, fun i d q => by
  obtain ⟨v, a, b⟩ := h.2 i d q
  exact ⟨v, a, b.same e⟩⟩
theorem EnvR.set {v : V} {d : D} (i : Nat) (h : EnvR K C H σ δ) (hv : Dat K C H d v) : EnvR K C H (σ.set i (some v)) (δ.set i (some d)) := ⟨by rw [List.length_set, List.length_set, h.1], fun j e q => by
  by_cases hj : i = j
  · subst hj
    rw [List.getElem?_set] at q
    split at q
    · split at q
      · have q' : d = e := by simpa using q
        subst q'
        exact ⟨v, by rw [List.getElem?_set_self (by rw [h.1]; assumption)], hv⟩
      · cases q
    · exact absurd rfl (by assumption)
  · rw [List.getElem?_set_ne hj] at q ⊢
    exact h.2 j e q⟩
theorem EnvR.unset (v : Option V) (i : Nat) (h : EnvR K C H σ δ) : EnvR K C H (σ.set i v) (δ.set i none) := ⟨by rw [List.length_set, List.length_set, h.1], fun j e q => by
  by_cases hj : i = j
  · subst hj
    rw [List.getElem?_set] at q
    split at q
    · split at q <;> cases q
    · exact absurd rfl (by assumption)
  · rw [List.getElem?_set_ne hj] at q ⊢
    exact h.2 j e q⟩
def wipeD (δ : Dl) : List Nat → Dl
  | [] => δ
  | v :: vs => (wipeD δ vs).set v none
theorem EnvR.wipe (h : EnvR K C H σ δ) : ∀ vs : List Nat, EnvR K C H (L2.wipe σ vs) (wipeD δ vs)
  | [] => h
  | v :: vs => by
    unfold L2.wipe wipeD
    exact EnvR.unset none v (h.wipe vs)
theorem EnvR.none (σ : L2.St) : EnvR K C H σ (σ.map fun _ => Option.none) := ⟨by rw [List.length_map], fun i d q => by
  rw [List.getElem?_map] at q
  cases e : σ[i]? with
  | none =>
    rw [e] at q
    cases q
  | some o =>
    rw [e] at q
    cases q⟩
end
/-- where an evaluation stands -/
structure At (K : PySem.W.Frag) (C : Addr) (O : Addr → Bool) (H : Hp) (σ : L2.St) (δ : Dl) : Prop where
  own : OIn O H
  env : EnvR K C (hid O H) σ δ
theorem At.same {K : PySem.W.Frag} {C : Addr} {O : Addr → Bool} {H H' : Hp} {σ : L2.St} {δ : Dl} (n : At K C O H σ δ) (s : Same H H') : At K C O H' σ δ := ⟨n.own.same s, n.env.same (same_hid s)⟩
/-! ### evaluation, by data -/
section
variable (K : PySem.W.Frag) (C : Addr)
def EvD (te : TE) (δ : Dl) (d : D) : Prop := ∀ O σ H, At K C O H σ δ → ∀ Q : VK, (∀ v H', Same H H' → Dat K C (hid O H') d v → Q v H') → te σ H Q
/-- .. a new object -/
def EvN (te : TE) (δ : Dl) (d : D) : Prop := ∀ O σ H, At K C O H σ δ → ∀ Q : VK, (∀ p H', Same H H' → H p = none → Dat K C (hid O H') d (.ref p) → Q (.ref p) H') → te σ H Q
def EvT (tt : TT) (δ : Dl) (b : Bool) : Prop := ∀ O σ H, At K C O H σ δ → ∀ Q : Bool → Hp → Prop, (∀ H', Same H H' → Q b H') → tt σ H Q
def EvA (ta : TA) (δ : Dl) (ds : List D) : Prop := ∀ O σ H, At K C O H σ δ → ∀ Q : List V → Hp → Prop, (∀ vs H', Same H H' → Dats K C (hid O H') ds vs → Q vs H') → ta σ H Q
def EvO (to : TO) (δ : Dl) (o : Option Int) : Prop := ∀ O σ H, At K C O H σ δ → ∀ Q : Option Int → Hp → Prop, (∀ H', Same H H' → Q o H') → to σ H Q
/-- an operation on two values, one value, a call -/
def R2D (r : R2) (d e z : D) : Prop := ∀ O H x y, OIn O H → Dat K C (hid O H) d x → Dat K C (hid O H) e y → ∀ Q : VK, (∀ v H', Same H H' → Dat K C (hid O H') z v → Q v H') → r x y H Q
def R2N (r : R2) (d e z : D) : Prop := ∀ O H x y, OIn O H → Dat K C (hid O H) d x → Dat K C (hid O H) e y → ∀ Q : VK, (∀ p H', Same H H' → H p = none → Dat K C (hid O H') z (.ref p) → Q (.ref p) H') → r x y H Q
def R1D (r : V → Hp → VK → Prop) (d z : D) : Prop := ∀ O H x, OIn O H → Dat K C (hid O H) d x → ∀ Q : VK, (∀ v H', Same H H' → Dat K C (hid O H') z v → Q v H') → r x H Q
def RCD (r : List V → Hp → VK → Prop) (ds : List D) (z : D) : Prop := ∀ O H vs, OIn O H → Dats K C (hid O H) ds vs → ∀ Q : VK, (∀ v H', Same H H' → Dat K C (hid O H') z v → Q v H') → r vs H Q
def RCN (r : List V → Hp → VK → Prop) (ds : List D) (z : D) : Prop := ∀ O H vs, OIn O H → Dats K C (hid O H) ds vs → ∀ Q : VK, (∀ p H', Same H H' → H p = none → Dat K C (hid O H') z (.ref p) → Q (.ref p) H') → r vs H Q
/-- what a def promises: a function of its arguments' data -/
def SpD (pre : List D → Prop) (f : List D → D) (n : Nat) : Sp := fun vs H Q _ => vs.length = n ∧ ∃ O ds, OIn O H ∧ Dats K C (hid O H) ds vs ∧ pre ds ∧ ∀ v H', Same H H' → Dat K C (hid O H') (f ds) v → Q v H'
/-- .. a new object -/
def SpN (pre : List D → Prop) (f : List D → D) (n : Nat) : Sp := fun vs H Q _ => vs.length = n ∧ ∃ O ds, OIn O H ∧ Dats K C (hid O H) ds vs ∧ pre ds ∧ ∀ p H', Same H H' → H p = none → Dat K C (hid O H') (f ds) (.ref p) → Q (.ref p) H'
end
section
variable {K : PySem.W.Frag} {C : Addr} {δ : Dl} {ta tb te : TE} {t u : TT} {d e z : D} {r : R2} {ds : List D}
theorem EvN.toD (h : EvN K C te δ d) : EvD K C te δ d := fun O σ H n Q q => h O σ H n Q fun p H' s _ hd => q _ _ s hd
theorem ev_var {i : Nat} (h : δ[i]? = some (some d)) : EvD K C (tVar i) δ d := fun O σ H n Q q => by
  obtain ⟨v, a, b⟩ := n.env.2 i d h
  exact ⟨v, a, q v H (Same.refl H) b⟩
theorem ev_int {i : Int} : EvD K C (tC (.int i)) δ (.int i) := fun O σ H n Q q => q _ H (Same.refl H) (by unfold Dat; rfl)
theorem ev_bl {b : Bool} : EvD K C (tC (.bl b)) δ (.bl b) := fun O σ H n Q q => q _ H (Same.refl H) (by unfold Dat; rfl)
theorem ev_str {x : Str} : EvD K C (tC (.str x)) δ (.str x) := fun O σ H n Q q => q _ H (Same.refl H) (by unfold Dat; rfl)
theorem ev_non : EvD K C (tC .non) δ .non := fun O σ H n Q q => q _ H (Same.refl H) (by unfold Dat; rfl)
theorem ev_raw {v : V} : EvD K C (tC v) δ (.raw v) := fun O σ H n Q q => q _ H (Same.refl H) (by unfold Dat; rfl)
theorem ev_op (ha : EvD K C ta δ d) (hb : EvD K C tb δ e) (hr : R2D K C r d e z) : EvD K C (tOp r ta tb) δ z := fun O σ H n Q q =>
  ha O σ H n _ fun v H1 s1 d1 => hb O σ H1 (n.same s1) _ fun w H2 s2 d2 => hr O H2 v w (n.same (s1.trans s2)).own (d1.same (same_hid s2)) d2 Q fun x H3 s3 d3 => q x H3 ((s1.trans s2).trans s3) d3
theorem back_none {H H' : Hp} {p : Addr} (s : Same H H') (h : H' p = none) : H p = none := s.free h
theorem en_op (ha : EvD K C ta δ d) (hb : EvD K C tb δ e) (hr : R2N K C r d e z) : EvN K C (tOp r ta tb) δ z := fun O σ H n Q q =>
  ha O σ H n _ fun v H1 s1 d1 => hb O σ H1 (n.same s1) _ fun w H2 s2 d2 => hr O H2 v w (n.same (s1.trans s2)).own (d1.same (same_hid s2)) d2 Q fun p H3 s3 hp d3 => q p H3 ((s1.trans s2).trans s3) (back_none (s1.trans s2) hp) d3
theorem ev_un {r : V → Hp → VK → Prop} (ha : EvD K C ta δ d) (hr : R1D K C r d z) : EvD K C (tUn r ta) δ z := fun O σ H n Q q =>
  ha O σ H n _ fun v H1 s1 d1 => hr O H1 v (n.same s1).own d1 Q fun x H3 s3 d3 => q x H3 (s1.trans s3) d3
theorem ea_nil : EvA K C tNil δ [] := fun O σ H n Q q => q [] H (Same.refl H) .nil
theorem ea_cons {tr : TA} (ha : EvD K C ta δ d) (hr : EvA K C tr δ ds) : EvA K C (tCons ta tr) δ (d :: ds) := fun O σ H n Q q =>
  ha O σ H n _ fun v H1 s1 d1 => hr O σ H1 (n.same s1) _ fun vs H2 s2 d2 => q _ _ (s1.trans s2) (.cons (d1.same (same_hid s2)) d2)
theorem ev_cb {r : List V → Hp → VK → Prop} {tr : TA} (ha : EvA K C tr δ ds) (hr : RCD K C r ds z) : EvD K C (tCB r tr) δ z := fun O σ H n Q q =>
  ha O σ H n _ fun vs H1 s1 d1 => hr O H1 vs (n.same s1).own d1 Q fun x H3 s3 d3 => q x H3 (s1.trans s3) d3
theorem en_cb {r : List V → Hp → VK → Prop} {tr : TA} (ha : EvA K C tr δ ds) (hr : RCN K C r ds z) : EvN K C (tCB r tr) δ z := fun O σ H n Q q =>
  ha O σ H n _ fun vs H1 s1 d1 => hr O H1 vs (n.same s1).own d1 Q fun p H3 s3 hp d3 => q p H3 (s1.trans s3) (back_none s1 hp) d3
theorem dat_lst {H : Hp} {p : Addr} {xs : List V} (h : H p = some (.lst xs)) (g : Dats K C H ds xs) : Dat K C H (.lst ds) (.ref p) := by
  unfold Dat
  exact ⟨p, xs, rfl, h, g⟩
theorem dat_tup {H : Hp} {p : Addr} {xs : List V} (h : H p = some (.tup xs)) (g : Dats K C H ds xs) : Dat K C H (.tup ds) (.ref p) := by
  unfold Dat
  exact ⟨p, xs, rfl, h, g⟩
/-- a new list of such items -/
theorem new_lst {O : Addr → Bool} {H : Hp} {p : Addr} {xs : List V} (o : OIn O H) (hp : H p = none) (g : Dats K C (hid O H) ds xs) : Dat K C (hid O (upd H p (.lst xs))) (.lst ds) (.ref p) :=
  dat_lst (hid_new o hp) (g.same (same_hid (same_new hp)))
theorem new_tup {O : Addr → Bool} {H : Hp} {p : Addr} {xs : List V} (o : OIn O H) (hp : H p = none) (g : Dats K C (hid O H) ds xs) : Dat K C (hid O (upd H p (.tup xs))) (.tup ds) (.ref p) :=
  dat_tup (hid_new o hp) (g.same (same_hid (same_new hp)))
theorem en_lst {tr : TA} (ha : EvA K C tr δ ds) (hl : ds.length ≤ 100000) : EvN K C (tLst tr) δ (.lst ds) := fun O σ H n Q q =>
  ha O σ H n _ fun vs H1 s1 d1 => ⟨by rw [d1.length]; exact Nat.le_trans hl (by decide), fun p hp => q p _ (s1.trans (same_new hp)) (back_none s1 hp) (new_lst (n.same s1).own hp d1)⟩
theorem en_tup {tr : TA} (ha : EvA K C tr δ ds) (hl : ds.length ≤ 100000) : EvN K C (tTup tr) δ (.tup ds) := fun O σ H n Q q =>
  ha O σ H n _ fun vs H1 s1 d1 => ⟨by rw [d1.length]; exact Nat.le_trans hl (by decide), fun p hp => q p _ (s1.trans (same_new hp)) (back_none s1 hp) (new_tup (n.same s1).own hp d1)⟩
theorem ev_call {pre : List D → Prop} {f : List D → D} {m : Nat} {E : XK} {tr : TA} (ha : EvA K C tr δ ds) (hn : ds.length = m) (hp : pre ds) : EvD K C (tCall (SpD K C pre f m) [] E tr) δ (f ds) := fun O σ H n Q q =>
  ha O σ H n _ fun vs H1 s1 d1 => by
    show SpD K C pre f m (vs ++ []) H1 Q E
    rw [List.append_nil]
    exact ⟨by rw [d1.length, hn], O, ds, (n.same s1).own, d1, hp, fun v H2 s2 d2 => q v H2 (s1.trans s2) d2⟩
theorem en_call {pre : List D → Prop} {f : List D → D} {m : Nat} {E : XK} {tr : TA} (ha : EvA K C tr δ ds) (hn : ds.length = m) (hp : pre ds) : EvN K C (tCall (SpN K C pre f m) [] E tr) δ (f ds) := fun O σ H n Q q =>
  ha O σ H n _ fun vs H1 s1 d1 => by
    show SpN K C pre f m (vs ++ []) H1 Q E
    rw [List.append_nil]
    exact ⟨by rw [d1.length, hn], O, ds, (n.same s1).own, d1, hp, fun v H2 s2 hp d2 => q v H2 (s1.trans s2) (back_none s1 hp) d2⟩
/-! tests -/
theorem et_test {b : Bool} (h : EvD K C te δ (.bl b)) : EvT K C (tTest te) δ b := fun O σ H n Q q => h O σ H n _ fun v H' s hd => by
  unfold Dat at hd
  exact ⟨b, hd, q H' s⟩
theorem et_B {b : Bool} (h : EvD K C te δ (.bl b)) : EvT K C (tB te) δ b := fun O σ H n Q q => h O σ H n _ fun v H' s hd => by
  unfold Dat at hd
  exact ⟨b, hd, q H' s⟩
theorem et_not {b : Bool} (h : EvT K C t δ b) : EvT K C (tNot t) δ (!b) := fun O σ H n Q q => h O σ H n _ fun H' s => q H' s
theorem et_and {a b : Bool} (h1 : EvT K C t δ a) (h2 : a = true → EvT K C u δ b) : EvT K C (tAnd t u) δ (a && b) := fun O σ H n Q q => h1 O σ H n _ fun H' s => by
  cases a with
  | true => exact h2 rfl O σ H' (n.same s) Q fun H2 s2 => q H2 (s.trans s2)
  | false => exact q H' s
theorem et_or {a b : Bool} (h1 : EvT K C t δ a) (h2 : a = false → EvT K C u δ b) : EvT K C (tOr t u) δ (a || b) := fun O σ H n Q q => h1 O σ H n _ fun H' s => by
  cases a with
  | true => exact q H' s
  | false => exact h2 rfl O σ H' (n.same s) Q fun H2 s2 => q H2 (s.trans s2)
theorem dat_int {H : Hp} {i : Int} {v : V} : Dat K C H (.int i) v ↔ v = .int i := by
  unfold Dat
  exact Iff.rfl
theorem dat_bl {H : Hp} {i : Bool} {v : V} : Dat K C H (.bl i) v ↔ v = .bl i := by
  unfold Dat
  exact Iff.rfl
theorem dat_str {H : Hp} {i : Str} {v : V} : Dat K C H (.str i) v ↔ v = .str i := by
  unfold Dat
  exact Iff.rfl
theorem dat_non {H : Hp} {v : V} : Dat K C H .non v ↔ v = .non := by
  unfold Dat
  exact Iff.rfl
theorem dat_raw {H : Hp} {v w : V} : Dat K C H (.raw w) v ↔ v = w := by
  unfold Dat
  exact Iff.rfl
theorem ev_andV {a b : Bool} (h1 : EvD K C ta δ (.bl a)) (h2 : a = true → EvD K C tb δ (.bl b)) : EvD K C (tAndV ta tb) δ (.bl (a && b)) := fun O σ H n Q q => h1 O σ H n _ fun v H' s hd => by
  refine ⟨a, dat_bl.mp hd, ?_⟩
  cases a with
  | true => exact h2 rfl O σ H' (n.same s) Q fun v2 H2 s2 d2 => q v2 H2 (s.trans s2) d2
  | false => exact q _ H' s (dat_bl.mpr rfl)
theorem ev_orV {a b : Bool} (h1 : EvD K C ta δ (.bl a)) (h2 : a = false → EvD K C tb δ (.bl b)) : EvD K C (tOrV ta tb) δ (.bl (a || b)) := fun O σ H n Q q => h1 O σ H n _ fun v H' s hd => by
  refine ⟨a, dat_bl.mp hd, ?_⟩
  cases a with
  | true => exact q _ H' s (dat_bl.mpr rfl)
  | false => exact h2 rfl O σ H' (n.same s) Q fun v2 H2 s2 d2 => q v2 H2 (s.trans s2) d2
theorem ev_notV {a : Bool} (h1 : EvD K C ta δ (.bl a)) : EvD K C (tNotV ta) δ (.bl (!a)) := fun O σ H n Q q => h1 O σ H n _ fun v H' s hd => ⟨a, dat_bl.mp hd, q _ H' s (dat_bl.mpr rfl)⟩
theorem ev_if {b : Bool} (h : EvT K C t δ b) (h1 : b = true → EvD K C ta δ z) (h2 : b = false → EvD K C tb δ z) : EvD K C (tIf t ta tb) δ z := fun O σ H n Q q => h O σ H n _ fun H' s => by
  cases b with
  | true => exact h1 rfl O σ H' (n.same s) Q fun v2 H2 s2 d2 => q v2 H2 (s.trans s2) d2
  | false => exact h2 rfl O σ H' (n.same s) Q fun v2 H2 s2 d2 => q v2 H2 (s.trans s2) d2
/-! operators on ints -/
theorem r2_Ii {g : Int → Int → Int} {i j : Int} : R2D K C (rI0 fun i j => .int (g i j)) (.int i) (.int j) (.int (g i j)) := fun O H x y o hx hy Q q =>
  ⟨i, j, dat_int.mp hx, dat_int.mp hy, q _ H (Same.refl H) (dat_int.mpr rfl)⟩
theorem r2_Ib {g : Int → Int → Bool} {i j : Int} : R2D K C (rI0 fun i j => .bl (g i j)) (.int i) (.int j) (.bl (g i j)) := fun O H x y o hx hy Q q =>
  ⟨i, j, dat_int.mp hx, dat_int.mp hy, q _ H (Same.refl H) (dat_bl.mpr rfl)⟩
theorem r2_Ci {c : Int → Int → Prop} {g : Int → Int → Int} {i j : Int} (hc : c i j) : R2D K C (rI c fun i j => .int (g i j)) (.int i) (.int j) (.int (g i j)) := fun O H x y o hx hy Q q =>
  ⟨i, j, dat_int.mp hx, dat_int.mp hy, hc, q _ H (Same.refl H) (dat_int.mpr rfl)⟩
theorem r1_U {g : Int → Int} {i : Int} : R1D K C (rU fun i => .int (g i)) (.int i) (.int (g i)) := fun O H x o hx Q q => ⟨i, dat_int.mp hx, q _ H (Same.refl H) (dat_int.mpr rfl)⟩
theorem ev_is (h : EvD K C te δ d) (e : d = z) : EvD K C te δ z := e ▸ h
theorem en_is (h : EvN K C te δ d) (e : d = z) : EvN K C te δ z := e ▸ h
theorem et_is {a b : Bool} (h : EvT K C t δ a) (e : a = b) : EvT K C t δ b := e ▸ h
/-! parts of slices -/
theorem eo_none : EvO K C tNoPart δ none := fun O σ H n Q q => q H (Same.refl H)
theorem eo_some {i : Int} (h : EvD K C te δ (.int i)) : EvO K C (tPart te) δ (some i) := fun O σ H n Q q => h O σ H n _ fun v H' s hd => ⟨i, dat_int.mp hd, q H' s⟩
/-! statements -/
/-- ends by a return of d -/
def StR (K : PySem.W.Frag) (C : Addr) (ts : TS) (δ : Dl) (d : D) : Prop := ∀ O σ H, At K C O H σ δ → ∀ Z : Ends, (∀ v H', Same H H' → Dat K C (hid O H') d v → Z.rt v H') → ts Z σ H
/-- .. of a new object -/
def StN (K : PySem.W.Frag) (C : Addr) (ts : TS) (δ : Dl) (d : D) : Prop := ∀ O σ H, At K C O H σ δ → ∀ Z : Ends, (∀ p H', Same H H' → H p = none → Dat K C (hid O H') d (.ref p) → Z.rt (.ref p) H') → ts Z σ H
/-- goes on with other slots -/
def StX (K : PySem.W.Frag) (C : Addr) (ts : TS) (δ δ' : Dl) : Prop := ∀ O σ H, At K C O H σ δ → ∀ Z : Ends, (∀ σ' H', Same H H' → At K C O H' σ' δ' → Z.nx σ' H') → ts Z σ H
variable {ts ts' : TS} {δ' : Dl}
theorem sr_ret (h : EvD K C te δ d) : StR K C (tRet te) δ d := fun O σ H n Z q => h O σ H n _ fun v H' s hd => q v H' s hd
theorem sn_ret (h : EvN K C te δ d) : StN K C (tRet te) δ d := fun O σ H n Z q => h O σ H n _ fun v H' s hp hd => q v H' s hp hd
theorem sr_retN : StR K C tRetN δ .non := fun O σ H n Z q => q _ H (Same.refl H) (dat_non.mpr rfl)
theorem sr_seq (h : StX K C ts δ δ') (g : StR K C ts' δ' d) : StR K C (tSeq ts ts') δ d := fun O σ H n Z q => h O σ H n { Z with nx := ts' Z } fun σ' H' s n' => g O σ' H' n' Z fun v H2 s2 d2 => q v H2 (s.trans s2) d2
theorem sn_seq (h : StX K C ts δ δ') (g : StN K C ts' δ' d) : StN K C (tSeq ts ts') δ d := fun O σ H n Z q => h O σ H n { Z with nx := ts' Z } fun σ' H' s n' => g O σ' H' n' Z fun v H2 s2 hp d2 => q v H2 (s.trans s2) (back_none s hp) d2
theorem sr_seq1 (h : StR K C ts δ d) : StR K C (tSeq ts ts') δ d := fun O σ H n Z q => h O σ H n { Z with nx := ts' Z } q
theorem sx_seq {δ2 : Dl} (h : StX K C ts δ δ') (g : StX K C ts' δ' δ2) : StX K C (tSeq ts ts') δ δ2 := fun O σ H n Z q => h O σ H n { Z with nx := ts' Z } fun σ' H' s n' => g O σ' H' n' Z fun v H2 s2 d2 => q v H2 (s.trans s2) d2
theorem sx_set {i : Nat} (h : EvD K C te δ d) : StX K C (tAsg te (gName i)) δ (δ.set i (some d)) := fun O σ H n Z q => h O σ H n _ fun v H' s hd => q _ H' s ⟨(n.same s).own, (n.same s).env.set i hd⟩
theorem sx_next : StX K C tNext δ δ := fun O σ H n Z q => q σ H (Same.refl H) n
theorem sx_drop (h : EvD K C te δ d) : StX K C (tDrop te) δ δ := fun O σ H n Z q => h O σ H n _ fun v H' s hd => q _ H' s (n.same s)
theorem sr_if {b : Bool} (h : EvT K C t δ b) (h1 : b = true → StR K C ts δ d) (h2 : b = false → StR K C ts' δ d) : StR K C (tIfS t ts ts') δ d := fun O σ H n Z q => h O σ H n _ fun H' s => by
  cases b with
  | true => exact h1 rfl O σ H' (n.same s) Z fun v2 H2 s2 d2 => q v2 H2 (s.trans s2) d2
  | false => exact h2 rfl O σ H' (n.same s) Z fun v2 H2 s2 d2 => q v2 H2 (s.trans s2) d2
theorem sx_if {b : Bool} (h : EvT K C t δ b) (h1 : b = true → StX K C ts δ δ') (h2 : b = false → StX K C ts' δ δ') : StX K C (tIfS t ts ts') δ δ' := fun O σ H n Z q => h O σ H n _ fun H' s => by
  cases b with
  | true => exact h1 rfl O σ H' (n.same s) Z fun v2 H2 s2 d2 => q v2 H2 (s.trans s2) d2
  | false => exact h2 rfl O σ H' (n.same s) Z fun v2 H2 s2 d2 => q v2 H2 (s.trans s2) d2
/-- if c: return ..; rest -/
theorem sr_guard {b : Bool} (h : EvT K C t δ b) (h1 : b = true → StR K C ts δ d) (h2 : b = false → StR K C ts' δ d) : StR K C (tSeq (tIfS t ts tNext) ts') δ d := fun O σ H n Z q => h O σ H n _ fun H' s => by
  cases b with
  | true => exact h1 rfl O σ H' (n.same s) { Z with nx := ts' Z } fun v2 H2 s2 d2 => q v2 H2 (s.trans s2) d2
  | false => exact h2 rfl O σ H' (n.same s) Z fun v2 H2 s2 d2 => q v2 H2 (s.trans s2) d2
theorem sn_guard {b : Bool} (h : EvT K C t δ b) (h1 : b = true → StN K C ts δ d) (h2 : b = false → StN K C ts' δ d) : StN K C (tSeq (tIfS t ts tNext) ts') δ d := fun O σ H n Z q => h O σ H n _ fun H' s => by
  cases b with
  | true => exact h1 rfl O σ H' (n.same s) { Z with nx := ts' Z } fun v2 H2 s2 hp d2 => q v2 H2 (s.trans s2) (back_none s hp) d2
  | false => exact h2 rfl O σ H' (n.same s) Z fun v2 H2 s2 hp d2 => q v2 H2 (s.trans s2) (back_none s hp) d2
/-- the slots at a def's entry -/
def startD (N : List Str) (ds : List D) : Dl := ds.map some ++ List.replicate (N.length - ds.length) none
theorem at_start {O : Addr → Bool} {H : Hp} {vs : List V} {N : List Str} (o : OIn O H) (h : Dats K C (hid O H) ds vs) : At K C O H (L2.start N vs) (startD N ds) := by
  refine ⟨o, ?_, fun i d e => ?_⟩
  · unfold L2.start startD
    rw [List.length_append, List.length_append, List.length_map, List.length_map, List.length_replicate, List.length_replicate, h.length]
  · unfold startD at e
    by_cases hi : i < ds.length
    · rw [List.getElem?_append_left (by rw [List.length_map]; exact hi), List.getElem?_map] at e
      have e2 : ds[i]? = some d := by
        cases q : ds[i]? with
        | none =>
          rw [q] at e
          cases e
        | some d' =>
          rw [q] at e
          have e3 : d' = d := by simpa using e
          rw [e3]
      obtain ⟨v, h1, h2⟩ := h.get e2
      refine ⟨v, ?_, h2⟩
      unfold L2.start
      rw [List.getElem?_append_left (by rw [List.length_map, h.length]; exact hi), List.getElem?_map, h1]
      rfl
    · rw [List.getElem?_append_right (by rw [List.length_map]; omega), List.getElem?_replicate] at e
      split at e <;> cases e
end
section
open PyProof.Rows
variable {P : Program} {w : World} {K : PySem.W.Frag} {C : Addr} {mg : Str → Option Value} {base : Heap} {x : Str} {k : Nat} {ps N : List Str} {st : Stmt} {fa : Addr} {fd : FuncData} {pre : List D → Prop} {f : List D → D}
theorem okD (F : DefAt K mg x ps st fa fd) (S : FnScope N ps (defScope st))
    (hbody : ∀ (cdv : Value) (A : Around) (outer : List Env) (s : Shared) (H : Hp) (E : XK), Room k (A.deeper (envOfC x (defScope st) s.heap.objs.size fa cdv)) →
      ∃ t, PSs (cxOf CX0 P w K mg base N x (defScope st) fa cdv A outer s H E).nox (defBody st) t ∧ ∀ ds, pre ds → StR K C t (startD N ds) (f ds)) : DefOk P w K mg base x (k + 1) ps (SpD K C pre f ps.length) := by
  refine F.ok S (fun vs H Q E h => h.1) (fun cdv A outer s H vs Q E hr h => ?_)
  obtain ⟨t, h1, h2⟩ := hbody cdv A outer s H E hr
  obtain ⟨_, O, ds, o, hd, hp, hq⟩ := h
  exact ⟨t, h1, h2 ds hp O _ H (at_start o hd) _ hq⟩
theorem okN (F : DefAt K mg x ps st fa fd) (S : FnScope N ps (defScope st))
    (hbody : ∀ (cdv : Value) (A : Around) (outer : List Env) (s : Shared) (H : Hp) (E : XK), Room k (A.deeper (envOfC x (defScope st) s.heap.objs.size fa cdv)) →
      ∃ t, PSs (cxOf CX0 P w K mg base N x (defScope st) fa cdv A outer s H E).nox (defBody st) t ∧ ∀ ds, pre ds → StN K C t (startD N ds) (f ds)) : DefOk P w K mg base x (k + 1) ps (SpN K C pre f ps.length) := by
  refine F.ok S (fun vs H Q E h => h.1) (fun cdv A outer s H vs Q E hr h => ?_)
  obtain ⟨t, h1, h2⟩ := hbody cdv A outer s H E hr
  obtain ⟨_, O, ds, o, hd, hp, hq⟩ := h
  exact ⟨t, h1, h2 ds hp O _ H (at_start o hd) _ hq⟩
end
end Zm


set_option Elab.async false
set_option linter.all false
set_option maxRecDepth 100000
set_option maxHeartbeats 4000000
set_option autoImplicit false
namespace Zm
open PySem PySem.Spec L2

/-! ### one object more that is one's own -/
def addO (O : Addr → Bool) (p : Addr) : Addr → Bool := fun a => O a || decide (a = p)
section
variable {O : Addr → Bool} {H H' : Hp} {p : Addr} {o : HO} {K : PySem.W.Frag} {C : Addr} {σ : L2.St} {δ : Dl}
theorem OIn.add (h : OIn O H) (hp : ∃ o, H p = some o ∧ NoT o) : OIn (addO O p) H := by
  obtain ⟨u, hu, nu⟩ := hp
  refine ⟨fun a e => ?_, fun a o e q => ?_⟩
  · unfold addO at e
    rcases Bool.or_eq_true_iff.mp e with e | e
    · exact h a e
    · rw [of_decide_eq_true e, hu]
      exact fun z => by cases z
  · unfold addO at e
    rcases Bool.or_eq_true_iff.mp e with e | e
    · exact h.nt a o e q
    · rw [of_decide_eq_true e, hu] at q
      rw [← Option.some.inj q]
      exact nu
/-- one's own is written -/
theorem OIn.upd (h : OIn O H) (ho : NoT o) : OIn O (upd H p o) := by
  refine ⟨fun a e => ?_, fun a u e q => ?_⟩
  · by_cases z : a = p
    · rw [z, upd_same]
      exact fun y => by cases y
    · rw [upd_ne z]
      exact h a e
  · by_cases z : a = p
    · rw [z, upd_same] at q
      rw [← Option.some.inj q]
      exact ho
    · rw [upd_ne z] at q
      exact h.nt a u e q
theorem add_le : Same (hid (addO O p) H) (hid O H) := fun a u e => by
  unfold hid addO at e
  split at e
  · cases e
  · rename_i h
    unfold hid
    rw [if_neg (fun q => h (by rw [q]; rfl))]
    exact e
theorem add_upd : hid (addO O p) (upd H p o) = hid (addO O p) H := by
  funext a
  unfold hid
  by_cases h : a = p
  · subst h
    have e : addO O a a = true := by unfold addO; simp
    rw [if_pos e, if_pos e]
  · rw [upd_ne h]
theorem add_fresh (hp : H p = none) : Same (hid O H) (hid (addO O p) H) := fun a u e => by
  unfold hid at e ⊢
  split at e
  · cases e
  · rename_i h
    have ne : a ≠ p := ne_of_none e hp
    rw [if_neg (fun q => by unfold addO at q; rcases Bool.or_eq_true_iff.mp q with q | q; exact h q; exact ne (of_decide_eq_true q))]
    exact e
theorem add_new (hp : H p = none) : Same (hid O H) (hid (addO O p) (upd H p o)) := by
  rw [add_upd]
  exact add_fresh hp
theorem At.add (n : At K C O H σ δ) (hp : H p = none) (ho : NoT o := by trivial) : At K C (addO O p) (upd H p o) σ δ :=
  ⟨(n.own.same (same_new hp)).add ⟨o, upd_same, ho⟩, n.env.same (add_new hp)⟩
/-- one's own object is written -/
theorem At.write (n : At K C (addO O p) H σ δ) (ho : NoT o := by trivial) : At K C (addO O p) (upd H p o) σ δ := ⟨n.own.upd ho, by rw [add_upd]; exact n.env⟩
end
section
variable {K : PySem.W.Frag} {C : Addr} {δ : Dl} {ta tb te tl : TE} {t u : TT} {d e z : D} {ds es : List D}
theorem sqL_of {O : Addr → Bool} {H : Hp} {a : Addr} {xs : List V} (h : hid O H a = some (.lst xs)) : SqL K H a xs := SqL.of (hid_same _ _ h)
theorem sqT_of {O : Addr → Bool} {H : Hp} {a : Addr} {xs : List V} (h : hid O H a = some (.tup xs)) : SqT K H a xs := SqT.of (hid_same _ _ h)
theorem dat_lst_iff {H : Hp} {v : V} : Dat K C H (.lst ds) v ↔ ∃ a xs, v = .ref a ∧ H a = some (.lst xs) ∧ Dats K C H ds xs := by
  unfold Dat
  exact Iff.rfl
theorem dat_tup_iff {H : Hp} {v : V} : Dat K C H (.tup ds) v ↔ ∃ a xs, v = .ref a ∧ H a = some (.tup xs) ∧ Dats K C H ds xs := by
  unfold Dat
  exact Iff.rfl
theorem dats_nil {H : Hp} {xs : List V} : Dats K C H [] xs ↔ xs = [] := by
  unfold Dats
  exact Iff.rfl
theorem dats_cons {H : Hp} {xs : List V} : Dats K C H (d :: ds) xs ↔ ∃ x ys, xs = x :: ys ∧ Dat K C H d x ∧ Dats K C H ds ys := by
  conv => lhs; unfold Dats
theorem dats_one {H : Hp} {xs : List V} : Dats K C H [d] xs ↔ ∃ x, xs = [x] ∧ Dat K C H d x := by
  rw [dats_cons]
  constructor
  · rintro ⟨x, ys, h1, h2, h3⟩
    rw [dats_nil] at h3
    subst h3
    exact ⟨x, h1, h2⟩
  · rintro ⟨x, h1, h2⟩
    exact ⟨x, [], h1, h2, dats_nil.mpr rfl⟩
theorem dats_two {H : Hp} {xs : List V} : Dats K C H [d, e] xs ↔ ∃ x y, xs = [x, y] ∧ Dat K C H d x ∧ Dat K C H e y := by
  rw [dats_cons]
  constructor
  · rintro ⟨x, ys, h1, h2, h3⟩
    obtain ⟨y, h4, h5⟩ := dats_one.mp h3
    subst h4
    exact ⟨x, y, h1, h2, h5⟩
  · rintro ⟨x, y, h1, h2, h3⟩
    exact ⟨x, [y], h1, h2, dats_one.mpr ⟨y, rfl, h3⟩⟩
theorem dats_at {H : Hp} {xs : List V} {i : Int} (h : Dats K C H ds xs) (e : atI ds i = some d) : ∃ v, atI xs i = some v ∧ Dat K C H d v := by
  unfold atI at e ⊢
  rw [h.length]
  cases q : ixN ds.length i with
  | none =>
    rw [q] at e
    cases e
  | some j =>
    rw [q] at e
    exact h.get e
/-! subscripts, slices -/
theorem r2_ixL {i : Int} (h : atI ds i = some d) : R2D K C (rIxL K) (.lst ds) (.int i) d := fun O H x y o hx hy Q q => by
  obtain ⟨a, xs, rfl, h1, h2⟩ := dat_lst_iff.mp hx
  obtain ⟨v, h3, h4⟩ := dats_at h2 h
  exact ⟨a, xs, i, v, rfl, dat_int.mp hy, sqL_of h1, h3, q v H (Same.refl H) h4⟩
theorem r2_ixT {i : Int} (h : atI ds i = some d) : R2D K C (rIxT K) (.tup ds) (.int i) d := fun O H x y o hx hy Q q => by
  obtain ⟨a, xs, rfl, h1, h2⟩ := dat_tup_iff.mp hx
  obtain ⟨v, h3, h4⟩ := dats_at h2 h
  exact ⟨a, xs, i, v, rfl, dat_int.mp hy, sqT_of h1, h3, q v H (Same.refl H) h4⟩
def cutD {α : Type} (xs : List α) (lo hi : Option Int) : List α := (xs.drop (HT.sIx xs.length 0 lo)).take (HT.sIx xs.length xs.length hi - HT.sIx xs.length 0 lo)
theorem en_sl {to th : TO} {lo hi : Option Int} (h : EvD K C te δ (.lst ds)) (h1 : EvO K C to δ lo) (h2 : EvO K C th δ hi) : EvN K C (tSl (rSlL K) te to th) δ (.lst (cutD ds lo hi)) := fun O σ H n Q q =>
  h O σ H n _ fun v H1 s1 d1 => h1 O σ H1 (n.same s1) _ fun H2 s2 => h2 O σ H2 (n.same (s1.trans s2)) _ fun H3 s3 => by
    have d3 := d1.same (same_hid (O := O) (s2.trans s3))
    obtain ⟨a, xs, rfl, g1, g2⟩ := dat_lst_iff.mp d3
    have s13 := (s1.trans s2).trans s3
    refine ⟨a, xs, rfl, sqL_of g1, fun p hp => q p _ (s13.trans (same_new hp)) (back_none s13 hp) (new_lst (n.same s13).own hp ?_)⟩
    unfold cutV cutD
    rw [g2.length]
    exact (g2.drop _).take _
theorem r2_cat (hl : ds.length + es.length ≤ 100000) : R2N K C rCat (.lst ds) (.lst es) (.lst (ds ++ es)) := fun O H x y o hx hy Q q => by
  obtain ⟨a, xs, rfl, h1, h2⟩ := dat_lst_iff.mp hx
  obtain ⟨b, ys, rfl, g1, g2⟩ := dat_lst_iff.mp hy
  exact ⟨a, b, xs, ys, rfl, rfl, hid_same _ _ h1, hid_same _ _ g1, by rw [h2.length, g2.length]; exact Nat.le_trans hl (by decide), fun p hp => q p _ (same_new hp) hp (new_lst o hp (h2.append g2))⟩
/-! calls of built-ins -/
theorem rc_lenL : RCD K C (fun xs H Q => ∃ p ys, xs = [V.ref p] ∧ (SqL K H p ys ∨ SqT K H p ys) ∧ Q (.int ys.length) H) [.lst ds] (.int ds.length) := fun O H vs o h Q q => by
  obtain ⟨x, rfl, hx⟩ := dats_one.mp h
  obtain ⟨a, xs, rfl, h1, h2⟩ := dat_lst_iff.mp hx
  exact ⟨a, xs, rfl, .inl (sqL_of h1), q _ H (Same.refl H) (dat_int.mpr (by rw [h2.length]))⟩
theorem rc_lenT : RCD K C (fun xs H Q => ∃ p ys, xs = [V.ref p] ∧ (SqL K H p ys ∨ SqT K H p ys) ∧ Q (.int ys.length) H) [.tup ds] (.int ds.length) := fun O H vs o h Q q => by
  obtain ⟨x, rfl, hx⟩ := dats_one.mp h
  obtain ⟨a, xs, rfl, h1, h2⟩ := dat_tup_iff.mp hx
  exact ⟨a, xs, rfl, .inr (sqT_of h1), q _ H (Same.refl H) (dat_int.mpr (by rw [h2.length]))⟩
theorem rn_listL : RCN K C (fun xs H Q => ∃ p ys, xs = [V.ref p] ∧ (SqL K H p ys ∨ SqT K H p ys) ∧ ∀ l, H l = none → Q (.ref l) (upd H l (.lst ys))) [.lst ds] (.lst ds) := fun O H vs o h Q q => by
  obtain ⟨x, rfl, hx⟩ := dats_one.mp h
  obtain ⟨a, xs, rfl, h1, h2⟩ := dat_lst_iff.mp hx
  exact ⟨a, xs, rfl, .inl (sqL_of h1), fun p hp => q p _ (same_new hp) hp (new_lst o hp h2)⟩
theorem rn_listT : RCN K C (fun xs H Q => ∃ p ys, xs = [V.ref p] ∧ (SqL K H p ys ∨ SqT K H p ys) ∧ ∀ l, H l = none → Q (.ref l) (upd H l (.lst ys))) [.tup ds] (.lst ds) := fun O H vs o h Q q => by
  obtain ⟨x, rfl, hx⟩ := dats_one.mp h
  obtain ⟨a, xs, rfl, h1, h2⟩ := dat_tup_iff.mp hx
  exact ⟨a, xs, rfl, .inr (sqT_of h1), fun p hp => q p _ (same_new hp) hp (new_lst o hp h2)⟩
theorem rn_tupL : RCN K C (fun xs H Q => ∃ p ys, xs = [V.ref p] ∧ ((SqL K H p ys ∧ ∀ l, H l = none → Q (.ref l) (upd H l (.tup ys))) ∨ (SqT K H p ys ∧ Q (.ref p) H))) [.lst ds] (.tup ds) := fun O H vs o h Q q => by
  obtain ⟨x, rfl, hx⟩ := dats_one.mp h
  obtain ⟨a, xs, rfl, h1, h2⟩ := dat_lst_iff.mp hx
  exact ⟨a, xs, rfl, .inl ⟨sqL_of h1, fun p hp => q p _ (same_new hp) hp (new_tup o hp h2)⟩⟩
def dB (bs : List Bool) : List D := bs.map D.bl
theorem dats_bls {H : Hp} : ∀ {bs : List Bool} {xs : List V}, Dats K C H (dB bs) xs ↔ xs = bs.map V.bl
  | [], xs => dats_nil
  | b :: bs, xs => by
    show Dats K C H (.bl b :: dB bs) xs ↔ xs = V.bl b :: bs.map V.bl
    rw [dats_cons]
    constructor
    · rintro ⟨x, ys, h1, h2, h3⟩
      rw [h1, dat_bl.mp h2, dats_bls.mp h3]
    · intro h
      exact ⟨_, _, h, dat_bl.mpr rfl, dats_bls.mpr rfl⟩
theorem rc_all {bs : List Bool} : RCD K C (rAll K) [.lst (dB bs)] (.bl (bs.all id)) := fun O H vs o h Q q => by
  obtain ⟨x, rfl, hx⟩ := dats_one.mp h
  obtain ⟨a, xs, rfl, h1, h2⟩ := dat_lst_iff.mp hx
  rw [dats_bls.mp h2] at h1
  exact ⟨a, bs, rfl, sqL_of h1, q _ H (Same.refl H) (dat_bl.mpr rfl)⟩
theorem rc_any {bs : List Bool} : RCD K C (rAny K) [.lst (dB bs)] (.bl (bs.any id)) := fun O H vs o h Q q => by
  obtain ⟨x, rfl, hx⟩ := dats_one.mp h
  obtain ⟨a, xs, rfl, h1, h2⟩ := dat_lst_iff.mp hx
  rw [dats_bls.mp h2] at h1
  exact ⟨a, bs, rfl, sqL_of h1, q _ H (Same.refl H) (dat_bl.mpr rfl)⟩
theorem rc_sum {ns : List Int} : RCD K C (rSum K) [.lst (dI ns)] (.int ns.sum) := fun O H vs o h Q q => by
  obtain ⟨x, rfl, hx⟩ := dats_one.mp h
  obtain ⟨a, xs, rfl, h1, h2⟩ := dat_lst_iff.mp hx
  rw [dats_ints.mp h2] at h1
  exact ⟨a, ns, rfl, sqL_of h1, q _ H (Same.refl H) (dat_int.mpr rfl)⟩
theorem rc_max2 {i j : Int} : RCD K C (fun xs H Q => ∃ i j, xs = [V.int i, V.int j] ∧ Q (.int (if j > i then j else i)) H) [.int i, .int j] (.int (if j > i then j else i)) := fun O H vs o h Q q => by
  obtain ⟨x, y, rfl, hx, hy⟩ := dats_two.mp h
  rw [dat_int.mp hx, dat_int.mp hy]
  exact ⟨i, j, rfl, q _ H (Same.refl H) (dat_int.mpr rfl)⟩
theorem rc_min2 {i j : Int} : RCD K C (fun xs H Q => ∃ i j, xs = [V.int i, V.int j] ∧ Q (.int (if j < i then j else i)) H) [.int i, .int j] (.int (if j < i then j else i)) := fun O H vs o h Q q => by
  obtain ⟨x, y, rfl, hx, hy⟩ := dats_two.mp h
  rw [dat_int.mp hx, dat_int.mp hy]
  exact ⟨i, j, rfl, q _ H (Same.refl H) (dat_int.mpr rfl)⟩
theorem rc_int {i : Int} : RCD K C (fun xs H Q => (∃ i, xs = [V.int i] ∧ Q (.int i) H) ∨ ∃ k, xs = [V.bl k] ∧ Q (.int (if k then 1 else 0)) H) [.int i] (.int i) := fun O H vs o h Q q => by
  obtain ⟨x, rfl, hx⟩ := dats_one.mp h
  rw [dat_int.mp hx]
  exact .inl ⟨i, rfl, q _ H (Same.refl H) (dat_int.mpr rfl)⟩
/-- the sorted list -/
def srt (ns : List Int) : List Int := ns.mergeSort (fun a b => decide (a ≤ b))
theorem srt_perm (ns : List Int) : (srt ns).Perm ns := List.mergeSort_perm _ _
theorem srt_le (ns : List Int) : (srt ns).Pairwise (· ≤ ·) := by
  have h := List.pairwise_mergeSort (le := fun a b : Int => decide (a ≤ b)) (by intro a b c; simp; omega) (by intro a b; simp; omega) ns
  exact h.imp (fun q => by simpa using q)
theorem perm_le_eq : ∀ {l m : List Int}, l.Perm m → l.Pairwise (· ≤ ·) → m.Pairwise (· ≤ ·) → l = m := fun {l m} p h1 h2 =>
  p.eq_of_pairwise (fun a b _ _ hab hba => Int.le_antisymm hab hba) h1 h2
theorem rn_sorted {ns : List Int} : RCN K C (rSortedI K) [.lst (dI ns)] (.lst (dI (srt ns))) := fun O H vs o h Q q => by
  obtain ⟨x, rfl, hx⟩ := dats_one.mp h
  obtain ⟨a, xs, rfl, h1, h2⟩ := dat_lst_iff.mp hx
  rw [dats_ints.mp h2] at h1
  refine ⟨a, ns, rfl, sqL_of h1, fun ns' p hp hs hn => ?_⟩
  have e : ns' = srt ns := perm_le_eq (hp.trans (srt_perm ns).symm) hs (srt_le ns)
  subst e
  exact q p _ (same_new hn) hn (new_lst o hn (dats_ints.mpr rfl))
end
end Zm


set_option Elab.async false
set_option linter.all false
set_option maxRecDepth 100000
set_option maxHeartbeats 4000000
set_option autoImplicit false
namespace Zm
open PySem PySem.Spec L2

/-- what is walked, by data: at each turn the item's -/
structure WalkD (K : PySem.W.Frag) (C : Addr) (O : Addr → Bool) (Hb : Hp) (J : It) (ds : List D) : Prop where
  go : ∀ O' i H, Same (hid O Hb) (hid O' H) → OIn O' H → i < ds.length → J.go i H
  yld : ∀ O' i H x H' d, Same (hid O Hb) (hid O' H) → OIn O' H → ds[i]? = some d → J.yld i H x H' → Same H H' ∧ Dat K C (hid O' H') d x
  stop : ∀ O' H, Same (hid O Hb) (hid O' H) → OIn O' H → J.stop ds.length H
def EvI (K : PySem.W.Frag) (C : Addr) (ti : TI) (δ : Dl) (ds : List D) : Prop := ∀ O σ H, At K C O H σ δ → ∀ R : It → Hp → Prop, (∀ J H', Same H H' → WalkD K C O H' J ds → R J H') → ti σ H R
/-- a target takes data d; of the slots vs alone -/
def EvG (K : PySem.W.Frag) (C : Addr) (g : TG) (vs : List Nat) (δ : Dl) (d : D) (δ' : Dl) : Prop := ∀ O σ H v, At K C O H σ δ → Dat K C (hid O H) d v → ∀ Q : L2.St → Hp → Prop, (∀ σ', L2.wipe σ' vs = L2.wipe σ vs → At K C O H σ' δ' → Q σ' H) → g v σ H Q
/-- .. whatever slots -/
def EvGa (K : PySem.W.Frag) (C : Addr) (g : TG) (δ : Dl) (d : D) (δ' : Dl) : Prop := ∀ O σ H v, At K C O H σ δ → Dat K C (hid O H) d v → ∀ Q : L2.St → Hp → Prop, (∀ σ', At K C O H σ' δ' → Q σ' H) → g v σ H Q
theorem wipe_get (σ : L2.St) : ∀ (vs : List Nat) (j : Nat), (L2.wipe σ vs)[j]? = if j ∈ vs ∧ j < σ.length then some none else σ[j]?
  | [], j => by
    rw [if_neg (fun h => by cases h.1)]
    rfl
  | v :: vs, j => by
    unfold L2.wipe
    rw [List.getElem?_set, wipe_get σ vs j, L2.wipe_length]
    by_cases h : v = j
    · subst h
      rw [if_pos rfl]
      by_cases h2 : v < σ.length
      · rw [if_pos h2, if_pos ⟨List.mem_cons_self .., h2⟩]
      · rw [if_neg h2, if_neg (fun q => h2 q.2), List.getElem?_eq_none (by omega)]
    · rw [if_neg h]
      by_cases h2 : j ∈ vs ∧ j < σ.length
      · rw [if_pos h2, if_pos ⟨List.mem_cons_of_mem _ h2.1, h2.2⟩]
      · rw [if_neg h2, if_neg (fun q => h2 ⟨(List.mem_cons.mp q.1).resolve_left (fun e => h e.symm), q.2⟩)]
theorem wipe_set {σ : L2.St} {vs : List Nat} {i : Nat} {v : Option V} (h : i ∈ vs) : L2.wipe (σ.set i v) vs = L2.wipe σ vs := by
  apply List.ext_getElem?
  intro j
  rw [wipe_get, wipe_get, List.length_set]
  by_cases hj : j ∈ vs ∧ j < σ.length
  · rw [if_pos hj, if_pos hj]
  · rw [if_neg hj, if_neg hj, List.getElem?_set]
    split
    · rename_i e
      subst e
      split
      · exact absurd ⟨h, by assumption⟩ hj
      · rw [List.getElem?_eq_none (by omega)]
    · rfl
theorem wipe_wipe {σ : L2.St} {vs : List Nat} : L2.wipe (L2.wipe σ vs) vs = L2.wipe σ vs := by
  apply List.ext_getElem?
  intro j
  rw [wipe_get, L2.wipe_length, wipe_get]
  split <;> rfl
section
variable {K : PySem.W.Frag} {C : Addr} {δ δ' : Dl} {ta tb te tl : TE} {t u : TT} {d e z : D} {ds es : List D}
theorem eg_name {i : Nat} {vs : List Nat} (h : i ∈ vs) : EvG K C (gName i) vs δ d (δ.set i (some d)) := fun O σ H v n hd Q q =>
  q _ (wipe_set h) ⟨n.own, n.env.set i hd⟩
theorem ega_name {i : Nat} : EvGa K C (gName i) δ d (δ.set i (some d)) := fun O σ H v n hd Q q => q _ ⟨n.own, n.env.set i hd⟩
theorem eg_two {i j : Nat} {vs : List Nat} (h : i ∈ vs) (h2 : j ∈ vs) : EvG K C (gTup K 2 (gCons (gName i) (gCons (gName j) gNil))) vs δ (.tup [d, e]) ((δ.set i (some d)).set j (some e)) := fun O σ H v n hd Q q => by
  obtain ⟨a, xs, rfl, h1, h3⟩ := dat_tup_iff.mp hd
  obtain ⟨x, y, rfl, h4, h5⟩ := dats_two.mp h3
  refine ⟨a, [x, y], rfl, sqT_of h1, rfl, x, [y], rfl, y, [], rfl, rfl, q _ ?_ ⟨n.own, (n.env.set i h4).set j h5⟩⟩
  rw [wipe_set h2, wipe_set h]
theorem ega_two {i j : Nat} : EvGa K C (gTup K 2 (gCons (gName i) (gCons (gName j) gNil))) δ (.tup [d, e]) ((δ.set i (some d)).set j (some e)) := fun O σ H v n hd Q q => by
  obtain ⟨a, xs, rfl, h1, h3⟩ := dat_tup_iff.mp hd
  obtain ⟨x, y, rfl, h4, h5⟩ := dats_two.mp h3
  exact ⟨a, [x, y], rfl, sqT_of h1, rfl, x, [y], rfl, y, [], rfl, rfl, q _ ⟨n.own, (n.env.set i h4).set j h5⟩⟩
theorem ei_list (h : EvD K C tl δ (.lst ds)) : EvI K C (iList K tl) δ ds := fun O σ H n R q => h O σ H n _ fun v H1 s1 d1 => by
  obtain ⟨a, xs, rfl, h1, h2⟩ := dat_lst_iff.mp d1
  have key : ∀ O' H', Same (hid O H1) (hid O' H') → SqL K H' a xs ∧ Dats K C (hid O' H') ds xs := fun O' H' s => ⟨sqL_of (s _ _ h1), h2.same s⟩
  refine ⟨a, rfl, ⟨xs, sqL_of h1⟩, q _ _ s1 ⟨fun O' i H' s o hi => ?_, fun O' i H' x H2 d s o hi y => ?_, fun O' H' s o => ?_⟩⟩
  · exact ⟨xs, xs[i]'(by rw [h2.length]; exact hi), (key O' H' s).1, by simp [h2.length, hi]⟩
  · obtain ⟨e, y⟩ := y
    subst e
    obtain ⟨k1, k2⟩ := key O' _ s
    obtain ⟨w, g1, g2⟩ := k2.get hi
    have g3 := y xs k1
    rw [g1] at g3
    cases g3
    exact ⟨Same.refl _, g2⟩
  · exact ⟨xs, (key O' H' s).1, by rw [h2.length]; exact Nat.le_refl _⟩
theorem ei_tup (h : EvD K C tl δ (.tup ds)) : EvI K C (iTup K tl) δ ds := fun O σ H n R q => h O σ H n _ fun v H1 s1 d1 => by
  obtain ⟨a, xs, rfl, h1, h2⟩ := dat_tup_iff.mp d1
  have key : ∀ O' H', Same (hid O H1) (hid O' H') → SqT K H' a xs ∧ Dats K C (hid O' H') ds xs := fun O' H' s => ⟨sqT_of (s _ _ h1), h2.same s⟩
  refine ⟨a, rfl, ⟨xs, sqT_of h1⟩, q _ _ s1 ⟨fun O' i H' s o hi => ?_, fun O' i H' x H2 d s o hi y => ?_, fun O' H' s o => ?_⟩⟩
  · exact ⟨xs, xs[i]'(by rw [h2.length]; exact hi), (key O' H' s).1, by simp [h2.length, hi]⟩
  · obtain ⟨e, y⟩ := y
    subst e
    obtain ⟨k1, k2⟩ := key O' _ s
    obtain ⟨w, g1, g2⟩ := k2.get hi
    have g3 := y xs k1
    rw [g1] at g3
    cases g3
    exact ⟨Same.refl _, g2⟩
  · exact ⟨xs, (key O' H' s).1, by rw [h2.length]; exact Nat.le_refl _⟩
def rngD (lo : Int) (n : Nat) : List D := (List.range n).map fun (k : Nat) => D.int (lo + (k : Int))
theorem walk_rng {O : Addr → Bool} {H : Hp} {lo : Int} {n : Nat} : WalkD K C O H (Itr lo n) (rngD lo n) := by
  have hl : (rngD lo n).length = n := by unfold rngD; rw [List.length_map, List.length_range]
  refine ⟨fun O' i H' s o hi => (by rw [hl] at hi; exact hi), fun O' i H' x H2 d s o hi y => ?_, fun O' H' s o => (by rw [hl]; exact Nat.le_refl _)⟩
  obtain ⟨e1, e2⟩ := y
  subst e1 e2
  refine ⟨Same.refl _, ?_⟩
  have hi' : i < n := by rw [← hl]; exact (List.getElem?_eq_some_iff.mp hi).1
  unfold rngD at hi
  rw [List.getElem?_map, List.getElem?_range hi'] at hi
  have e3 : D.int (lo + (i : Int)) = d := by simpa using hi
  subst e3
  exact dat_int.mpr rfl
theorem ei_rng1 {j : Int} (h : EvA K C (tCons ta tNil) δ [.int j]) (h1 : -(2 ^ 62) ≤ j) (h2 : j < 2 ^ 62) : EvI K C (iRng1 (tCons ta tNil)) δ (rngD 0 j.toNat) := fun O σ H n R q => h O σ H n _ fun vs H1 s1 d1 => by
  obtain ⟨x, rfl, hx⟩ := dats_one.mp d1
  exact ⟨j, by rw [dat_int.mp hx], h1, h2, q _ _ s1 walk_rng⟩
theorem ei_rng2 {i j : Int} (h : EvA K C (tCons ta (tCons tb tNil)) δ [.int i, .int j]) (h0 : -(2 ^ 62) ≤ i ∧ i < 2 ^ 62 ∧ -(2 ^ 62) ≤ j ∧ j < 2 ^ 62) : EvI K C (iRng2 (tCons ta (tCons tb tNil))) δ (rngD i (j - i).toNat) := fun O σ H n R q => h O σ H n _ fun vs H1 s1 d1 => by
  obtain ⟨x, y, rfl, hx, hy⟩ := dats_two.mp d1
  exact ⟨i, j, by rw [dat_int.mp hx, dat_int.mp hy], h0, q _ _ s1 walk_rng⟩
theorem same_mut {H H' : Hp} {p : Addr} {o : HO} (s : Same H H') (h : H p = none) : Same H (upd H' p o) := fun a u ha => by
  rw [upd_ne (ne_of_none ha h)]
  exact s a u ha
/-- a comprehension: its items' data, one behind the other -/
theorem en_lc {α : Type} {as : List α} {g0 : α → D} {p : α → Bool} {f : α → D} {δi : α → Dl} {wi : TI} {g : TG} {tt : TT} {vs : List Nat} (hI : EvI K C wi δ (as.map g0)) (hG : ∀ a ∈ as, EvG K C g vs (wipeD δ vs) (g0 a) (δi a))
    (hT : ∀ a ∈ as, EvT K C tt (δi a) (p a)) (hE : ∀ a ∈ as, p a = true → EvD K C te (δi a) (f a)) (hl : as.length ≤ 100000) : EvN K C (tLc wi g tt te vs) δ (.lst ((as.filter p).map f)) := fun O σ H n Q q => hI O σ H n _ fun J H1 s1 w Da hD => by
  have n1 := n.same s1
  have o1 : OIn (addO O Da) (upd H1 Da (.lst [])) := (n1.add (o := .lst []) hD).own
  have key : ∀ H2, Same H1 H2 → Same (hid O H1) (hid (addO O Da) H2) := fun H2 s => (add_fresh hD).trans (same_hid s)
  refine ⟨fun i m H2 => m = as.length - i ∧ i ≤ as.length ∧ Same H1 H2 ∧ ∃ acc, H2 Da = some (.lst acc) ∧ Dats K C (hid (addO O Da) H2) (((as.take i).filter p).map f) acc, ⟨as.length, by omega, Nat.zero_le _, same_new hD, [], upd_same, by rw [List.take_zero]; exact .nil⟩, ?_⟩
  rintro i m H2 ⟨rfl, hi, s2, acc, ha, hacc⟩
  have o2 : OIn (addO O Da) H2 := (n1.own.same s2).add ⟨_, ha, trivial⟩
  have wl : (as.map g0).length = as.length := List.length_map _
  by_cases hlt : i < as.length
  · have hia : as[i]? = some as[i] := by simp [hlt]
    have hmem : as[i] ∈ as := List.getElem_mem hlt
    refine .inr ⟨w.go _ i H2 (key H2 s2) o2 (by rw [wl]; exact hlt), fun H3 => i + 1 ≤ as.length ∧ Same H1 H3 ∧ ∃ acc, H3 Da = some (.lst acc) ∧ Dats K C (hid (addO O Da) H3) (((as.take (i + 1)).filter p).map f) acc,
      fun H' hN => ⟨_, by omega, rfl, hN⟩, fun x H3 y => ?_⟩
    obtain ⟨s3, d3⟩ := w.yld _ i H2 x H3 (g0 as[i]) (key H2 s2) o2 (by rw [List.getElem?_map, hia]; rfl) y
    have s13 := s2.trans s3
    have n3 : At K C (addO O Da) H3 (L2.wipe σ vs) (wipeD δ vs) := ⟨o2.same s3, (n1.env.same (key H3 s13)).wipe vs⟩
    refine hG _ hmem _ _ _ _ n3 d3 _ fun σ4 hw n4 => ⟨by rw [hw, wipe_wipe], ?_⟩
    refine hT _ hmem _ _ _ n4 _ fun H5 s5 => ?_
    have ht : as.take (i + 1) = as.take i ++ [as[i]] := List.take_succ_eq_append_getElem hlt
    cases hp : p as[i] with
    | false =>
      refine iteF ⟨hlt, s13.trans s5, acc, s5 _ _ (s3 _ _ ha), ?_⟩
      rw [ht, List.filter_append, List.filter_cons, hp]
      rw [if_neg Bool.false_ne_true, List.filter_nil, List.append_nil]
      exact hacc.same (same_hid (s3.trans s5))
    | true =>
      refine iteT (hE _ hmem hp _ _ _ (n4.same s5) _ fun v H6 s6 d6 => ?_)
      have s36 := (s3.trans s5).trans s6
      have hl2 : acc.length ≤ as.length := by
        rw [hacc.length, List.length_map]
        exact Nat.le_trans (List.length_filter_le _ _) (by rw [List.length_take]; omega)
      refine ⟨acc, s36 _ _ ha, Nat.lt_of_le_of_lt (Nat.le_trans hl2 hl) (by decide), hlt, same_mut (s2.trans s36) hD, _, upd_same, ?_⟩
      rw [add_upd, ht, List.filter_append, List.filter_cons, hp]
      rw [if_pos rfl, List.filter_nil, List.map_append]
      exact (hacc.same (same_hid s36)).append (.one d6)
  · have e : i = as.length := by omega
    subst e
    refine .inl ⟨by rw [← wl]; exact w.stop _ H2 (key H2 s2) o2, q _ _ (s1.trans s2) (back_none s1 hD) ?_⟩
    rw [List.take_length] at hacc
    exact (dat_lst_iff.mpr ⟨Da, acc, rfl, ha, hacc.same (fun a u e => by exact hid_same _ _ e)⟩ : Dat K C H2 _ _) |> fun _ => dat_lst_iff.mpr ⟨Da, acc, rfl, by unfold hid; rw [if_neg (fun q => n1.own Da q hD)]; exact ha, hacc.same add_le⟩
/-- .. without a test -/
theorem et_yes : EvT K C tYes δ true := fun O σ H n Q q => q H (Same.refl H)
theorem en_lc1 {α : Type} {as : List α} {g0 : α → D} {f : α → D} {δi : α → Dl} {wi : TI} {g : TG} {vs : List Nat} (hI : EvI K C wi δ (as.map g0)) (hG : ∀ a ∈ as, EvG K C g vs (wipeD δ vs) (g0 a) (δi a))
    (hE : ∀ a ∈ as, EvD K C te (δi a) (f a)) (hl : as.length ≤ 100000) : EvN K C (tLc wi g tYes te vs) δ (.lst (as.map f)) := by
  have h := en_lc (p := fun _ => true) hI hG (fun a _ => et_yes) (fun a h _ => hE a h) hl
  rw [List.filter_eq_self.mpr (fun _ _ => rfl)] at h
  exact h
/-! loops -/
/-- less is known -/
def LeD (δ' δ : Dl) : Prop := δ'.length = δ.length ∧ ∀ (i : Nat) (d : D), δ'[i]? = some (some d) → δ[i]? = some (some d)
theorem At.weak {O : Addr → Bool} {H : Hp} {σ : L2.St} (n : At K C O H σ δ) (l : LeD δ' δ) : At K C O H σ δ' := ⟨n.own, n.env.1.trans l.1.symm, fun i d e => n.env.2 i d (l.2 i d e)⟩
theorem sx_weak {ts : TS} {δ2 : Dl} (h : StX K C ts δ δ2) (l : LeD δ' δ2) : StX K C ts δ δ' := fun O σ H n Z q => h O σ H n Z fun σ' H' s n' => q σ' H' s (n'.weak l)
/-- a loop whose turns go on; δs i: what is known ahead of turn i -/
theorem sx_for {α : Type} {as : List α} {g0 : α → D} {δs : Nat → Dl} {wi : TI} {g : TG} {tb : TS} (hI : EvI K C wi δ (as.map g0)) (h0 : LeD (δs 0) δ)
    (hB : ∀ i a, as[i]? = some a → ∃ δ1, EvGa K C g (δs i) (g0 a) δ1 ∧ StX K C tb δ1 (δs (i + 1))) : StX K C (tFor wi g tb) δ (δs as.length) := fun O σ H n Z q => hI O σ H n _ fun J H1 s1 w => by
  have n1 := n.same s1
  have wl : (as.map g0).length = as.length := List.length_map _
  refine ⟨fun i m σ2 H2 => m = as.length - i ∧ i ≤ as.length ∧ Same H1 H2 ∧ At K C O H2 σ2 (δs i), ⟨as.length, by omega, Nat.zero_le _, Same.refl _, n1.weak h0⟩, ?_⟩
  rintro i m σ2 H2 ⟨rfl, hi, s2, n2⟩
  by_cases hlt : i < as.length
  · have hia : as[i]? = some as[i] := by simp [hlt]
    refine .inr ⟨w.go _ i H2 (same_hid s2) n2.own (by rw [wl]; exact hlt), fun σ3 H3 => i + 1 ≤ as.length ∧ Same H1 H3 ∧ At K C O H3 σ3 (δs (i + 1)), fun σ' H' hN => ⟨_, by omega, rfl, hN⟩, fun x H3 y => ?_⟩
    obtain ⟨s3, d3⟩ := w.yld _ i H2 x H3 (g0 as[i]) (same_hid s2) n2.own (by rw [List.getElem?_map, hia]; rfl) y
    obtain ⟨δ1, hg, hb⟩ := hB i _ hia
    exact hg _ _ _ _ (n2.same s3) d3 _ fun σ4 n4 => hb _ _ _ n4 _ fun σ5 H5 s5 n5 => ⟨hlt, (s2.trans s3).trans s5, n5⟩
  · have e : i = as.length := by omega
    subst e
    exact .inl ⟨by rw [← wl]; exact w.stop _ H2 (same_hid s2) n2.own, q _ _ (s1.trans s2) n2⟩
/-- a loop that may return; it goes on through the first k turns -/
theorem sr_for {α : Type} {as : List α} {g0 : α → D} {δs : Nat → Dl} {wi : TI} {g : TG} {tb tr : TS} (k : Nat) (hk : k ≤ as.length) (hI : EvI K C wi δ (as.map g0)) (h0 : LeD (δs 0) δ)
    (hB : ∀ i a, i < k → as[i]? = some a → ∃ δ1, EvGa K C g (δs i) (g0 a) δ1 ∧ StX K C tb δ1 (δs (i + 1)))
    (hR : ∀ a, as[k]? = some a → ∃ δ1, EvGa K C g (δs k) (g0 a) δ1 ∧ StR K C tb δ1 d) (hE : k = as.length → StR K C tr (δs k) d) : StR K C (tSeq (tFor wi g tb) tr) δ d := fun O σ H n Z q => hI O σ H n _ fun J H1 s1 w => by
  have n1 := n.same s1
  have wl : (as.map g0).length = as.length := List.length_map _
  refine ⟨fun i m σ2 H2 => m = as.length - i ∧ i ≤ k ∧ Same H1 H2 ∧ At K C O H2 σ2 (δs i), ⟨as.length, by omega, Nat.zero_le _, Same.refl _, n1.weak h0⟩, ?_⟩
  rintro i m σ2 H2 ⟨rfl, hi, s2, n2⟩
  by_cases hlt : i < as.length
  · have hia : as[i]? = some as[i] := by simp [hlt]
    refine .inr ⟨w.go _ i H2 (same_hid s2) n2.own (by rw [wl]; exact hlt), fun σ3 H3 => i + 1 ≤ k ∧ Same H1 H3 ∧ At K C O H3 σ3 (δs (i + 1)), fun σ' H' hN => ⟨_, by omega, rfl, hN⟩, fun x H3 y => ?_⟩
    obtain ⟨s3, d3⟩ := w.yld _ i H2 x H3 (g0 as[i]) (same_hid s2) n2.own (by rw [List.getElem?_map, hia]; rfl) y
    by_cases hik : i < k
    · obtain ⟨δ1, hg, hb⟩ := hB i _ hik hia
      exact hg _ _ _ _ (n2.same s3) d3 _ fun σ4 n4 => hb _ _ _ n4 _ fun σ5 H5 s5 n5 => ⟨hik, (s2.trans s3).trans s5, n5⟩
    · have e : i = k := by omega
      subst e
      obtain ⟨δ1, hg, hb⟩ := hR _ hia
      exact hg _ _ _ _ (n2.same s3) d3 _ fun σ4 n4 => hb _ _ _ n4 _ fun v H5 s5 d5 => q _ _ (((s1.trans s2).trans s3).trans s5) d5
  · have e : i = as.length := by omega
    have e2 : k = as.length := by omega
    subst e
    exact .inl ⟨by rw [← wl]; exact w.stop _ H2 (same_hid s2) n2.own, by subst e2; exact hE rfl _ _ _ n2 Z fun v H5 s5 d5 => q _ _ ((s1.trans s2).trans s5) d5⟩
end
end Zm


set_option Elab.async false
set_option linter.all false
set_option maxRecDepth 100000
set_option maxHeartbeats 4000000
set_option autoImplicit false
namespace Zm
open PySem PySem.Spec L2

/-! ### kinds -/
/-- the built-in class of a datum that is no recipe -/
def tyD : D → Option String
  | .non => some "NoneType"
  | .bl _ => some "bool"
  | .int _ => some "int"
  | .str _ => some "str"
  | .lst _ => some "list"
  | .tup _ => some "tuple"
  | .dic _ => some "dict"
  | _ => none
def tyNames : List String := ["NoneType", "bool", "int", "str", "list", "tuple", "dict"]
def clNames : List String := ["int", "bool", "list", "tuple", "dict", "str"]
def isTy (d : D) (n : String) : Bool := match tyD d with
  | some t => t == n || (t == "bool" && n == "int")
  | none => false
theorem kit_all : ∀ t ∈ tyNames, ∀ n ∈ clNames, kitB t n = some (t == n || (t == "bool" && n == "int")) := by decide +kernel
theorem tyD_mem {d : D} {t : String} (h : tyD d = some t) : t ∈ tyNames := by
  cases d <;> first | (cases h; decide) | cases h
section
variable {K : PySem.W.Frag} {C : Addr} {δ δ' : Dl} {ta tb te tl : TE} {t u : TT} {d e z : D} {ds es : List D}
theorem ty_dat {O : Addr → Bool} {H : Hp} {v : V} {n : String} (h : Dat K C (hid O H) d v) (e : tyD d = some n) : TyX K H v (.type n) := by
  cases d with
  | non => cases e; rw [dat_non.mp h]; exact .base .non
  | bl b => cases e; rw [dat_bl.mp h]; exact .base (.bl b)
  | int i => cases e; rw [dat_int.mp h]; exact .base (.int i)
  | str x => cases e; rw [dat_str.mp h]; exact .base (.str x)
  | lst ds =>
    cases e
    obtain ⟨a, xs, rfl, h1, _⟩ := dat_lst_iff.mp h
    exact .base (.lst (hid_same _ _ h1))
  | tup ds =>
    cases e
    obtain ⟨a, xs, rfl, h1, _⟩ := dat_tup_iff.mp h
    exact .base (.tup (hid_same _ _ h1))
  | dic kvs =>
    cases e
    unfold Dat at h
    obtain ⟨a, xs, rfl, h1, _⟩ := h
    exact .base (.dK (hid_same _ _ h1))
  | rcp m r => cases e
  | raw w => cases e
  | dtp w => cases e
/-- isinstance(x, T), x no recipe, T built-in -/
theorem rc_isi {n s : String} (hd : tyD d = some s) (hn : n ∈ clNames) : RCD K C (rIsi K) [d, .raw (.ty n)] (.bl (isTy d n)) := fun O H vs o h Q q => by
  obtain ⟨x, y, rfl, hx, hy⟩ := dats_two.mp h
  rw [dat_raw.mp hy]
  refine ⟨x, .ty n, .type s, .type n, isTy d n, rfl, .ty n, ty_dat hx hd, ?_, q _ H (Same.refl H) (dat_bl.mpr rfl)⟩
  unfold isTy
  rw [hd]
  exact kit_ty (kit_all s (tyD_mem hd) n hn)
/-- isinstance(x, (T, U)) -/
theorem rc_isi2 {n m s : String} (hd : tyD d = some s) (hn : n ∈ clNames) (hm : m ∈ clNames) : RCD K C (rIsiT K) [d, .tup [.raw (.ty n), .raw (.ty m)]] (.bl (isTy d n || isTy d m)) := fun O H vs o h Q q => by
  obtain ⟨x, y, rfl, hx, hy⟩ := dats_two.mp h
  obtain ⟨a, xs, rfl, h1, h2⟩ := dat_tup_iff.mp hy
  obtain ⟨x1, x2, rfl, hx1, hx2⟩ := dats_two.mp h2
  rw [dat_raw.mp hx1, dat_raw.mp hx2] at h1
  refine ⟨x, a, [.ty n, .ty m], .type s, [.type n, .type m], isTy d n || isTy d m, rfl, hid_same _ _ h1, .cons (.ty n) (.cons (.ty m) .nil), ty_dat hx hd, ?_, q _ H (Same.refl H) (dat_bl.mpr rfl)⟩
  have e1 : PySem.W.kitOne K (.type s) (.type n) = some (isTy d n) := by
    unfold isTy
    rw [hd]
    exact kit_ty (kit_all s (tyD_mem hd) n hn)
  have e2 : PySem.W.kitOne K (.type s) (.type m) = some (isTy d m) := by
    unfold isTy
    rw [hd]
    exact kit_ty (kit_all s (tyD_mem hd) m hm)
  refine kitAny_cons e1 (fun q1 => ?_) (fun q1 => by rw [q1]; rfl)
  rw [q1]
  exact kitAny_cons e2 (fun q2 => by rw [q2]; exact kitAny_nil) (fun q2 => by rw [q2]; rfl)
/-! ### dicts that are made of pairs, and sorted -/
def keyV : Key → D
  | .inl i => .int i
  | .inr x => .str x
theorem dat_key {H : Hp} {k : Key} {v : V} : Dat K C H (keyV k) v ↔ v = kV k := by
  cases k with
  | inl i => exact dat_int
  | inr x => exact dat_str
theorem datK_nil {H : Hp} {xs : List (Key × V)} : DatK K C H [] xs ↔ xs = [] := by
  unfold DatK
  exact Iff.rfl
theorem datK_cons {H : Hp} {k : Key} {kvs : List (Key × D)} {xs : List (Key × V)} : DatK K C H ((k, d) :: kvs) xs ↔ ∃ x ys, xs = (k, x) :: ys ∧ Dat K C H d x ∧ DatK K C H kvs ys := by
  conv => lhs; unfold DatK
theorem dat_dic_iff {H : Hp} {kvs : List (Key × D)} {v : V} : Dat K C H (.dic kvs) v ↔ ∃ a kws, v = .ref a ∧ H a = some (.dK kws) ∧ DatK K C H kvs kws := by
  unfold Dat
  exact Iff.rfl
def putD (kvs : List (Key × D)) (k : Key) (v : D) : List (Key × D) := if (kvs.any fun p => decide (p.1 = k)) = true then kvs.map (fun p => if p.1 = k then (p.1, v) else p) else kvs ++ [(k, v)]
def mergeD (kvs more : List (Key × D)) : List (Key × D) := more.foldl (fun acc kv => putD acc kv.1 kv.2) kvs
theorem DatK.keys {H : Hp} : ∀ {kvs : List (Key × D)} {xs : List (Key × V)}, DatK K C H kvs xs → xs.map (·.1) = kvs.map (·.1)
  | [], xs, h => by rw [datK_nil.mp h]; rfl
  | (k, d) :: kvs, xs, h => by
    obtain ⟨x, ys, rfl, _, h2⟩ := datK_cons.mp h
    rw [List.map_cons, List.map_cons, h2.keys]
theorem DatK.any {H : Hp} (k : Key) {kvs : List (Key × D)} {xs : List (Key × V)} (h : DatK K C H kvs xs) : (xs.any fun p => decide (p.1 = k)) = kvs.any fun p => decide (p.1 = k) := by
  have e1 : (xs.any fun p => decide (p.1 = k)) = (xs.map (·.1)).any fun j => decide (j = k) := by rw [List.any_map]; rfl
  have e2 : (kvs.any fun p => decide (p.1 = k)) = (kvs.map (·.1)).any fun j => decide (j = k) := by rw [List.any_map]; rfl
  rw [e1, e2, h.keys]
theorem DatK.snoc {H : Hp} {k : Key} {v : V} (hv : Dat K C H d v) : ∀ {kvs : List (Key × D)} {xs : List (Key × V)}, DatK K C H kvs xs → DatK K C H (kvs ++ [(k, d)]) (xs ++ [(k, v)])
  | [], xs, h => by
    rw [datK_nil.mp h]
    exact datK_cons.mpr ⟨v, [], rfl, hv, datK_nil.mpr rfl⟩
  | (j, e) :: kvs, xs, h => by
    obtain ⟨x, ys, rfl, h1, h2⟩ := datK_cons.mp h
    exact datK_cons.mpr ⟨x, ys ++ [(k, v)], rfl, h1, h2.snoc hv⟩
theorem DatK.over {H : Hp} {k : Key} {v : V} (hv : Dat K C H d v) : ∀ {kvs : List (Key × D)} {xs : List (Key × V)}, DatK K C H kvs xs → DatK K C H (kvs.map fun p => if p.1 = k then (p.1, d) else p) (xs.map fun p => if p.1 = k then (p.1, v) else p)
  | [], xs, h => by
    rw [datK_nil.mp h]
    exact datK_nil.mpr rfl
  | (j, e) :: kvs, xs, h => by
    obtain ⟨x, ys, rfl, h1, h2⟩ := datK_cons.mp h
    rw [List.map_cons, List.map_cons]
    by_cases q : j = k
    · rw [if_pos q, if_pos q]
      exact datK_cons.mpr ⟨v, _, rfl, hv, h2.over hv⟩
    · rw [if_neg q, if_neg q]
      exact datK_cons.mpr ⟨x, _, rfl, h1, h2.over hv⟩
theorem DatK.put {H : Hp} {k : Key} {v : V} (hv : Dat K C H d v) {kvs : List (Key × D)} {xs : List (Key × V)} (h : DatK K C H kvs xs) : DatK K C H (putD kvs k d) (putK xs k v) := by
  unfold putD putK
  rw [h.any k]
  by_cases q : (kvs.any fun p => decide (p.1 = k)) = true
  · rw [if_pos q, if_pos q]
    exact h.over hv
  · rw [if_neg q, if_neg q]
    exact h.snoc hv
theorem DatK.merge {H : Hp} : ∀ {more : List (Key × D)} {ms : List (Key × V)} {kvs : List (Key × D)} {xs : List (Key × V)}, DatK K C H more ms → DatK K C H kvs xs → DatK K C H (mergeD kvs more) (mergeK xs ms)
  | [], ms, kvs, xs, h, g => by
    rw [datK_nil.mp h]
    exact g
  | (k, d) :: more, ms, kvs, xs, h, g => by
    obtain ⟨x, ys, rfl, h1, h2⟩ := datK_cons.mp h
    show DatK K C H (mergeD (putD kvs k d) more) (mergeK (putK xs k x) ys)
    exact DatK.merge h2 (DatK.put h1 g)
/-- the pairs of a list of pairs -/
def pairD (kv : Key × D) : D := .tup [keyV kv.1, kv.2]
theorem dats_pairs {O : Addr → Bool} {H : Hp} : ∀ {kvs : List (Key × D)} {xs : List V}, Dats K C (hid O H) (kvs.map pairD) xs →
    ∃ (ps : List Addr) (ms : List (Key × V)), xs = ps.map V.ref ∧ Paired (fun p kv => SqT K H p [kV kv.1, kv.2]) ps ms ∧ DatK K C (hid O H) kvs ms
  | [], xs, h => ⟨[], [], dats_nil.mp h, .nil, datK_nil.mpr rfl⟩
  | (k, d) :: kvs, xs, h => by
    obtain ⟨x, ys, rfl, h1, h2⟩ := dats_cons.mp h
    obtain ⟨a, zs, rfl, h3, h4⟩ := dat_tup_iff.mp h1
    obtain ⟨y1, y2, rfl, h5, h6⟩ := dats_two.mp h4
    obtain ⟨ps, ms, rfl, h7, h8⟩ := dats_pairs h2
    rw [dat_key.mp h5] at h3
    exact ⟨a :: ps, (k, y2) :: ms, rfl, .cons (sqT_of h3) h7, datK_cons.mpr ⟨y2, ms, rfl, h6, h8⟩⟩
theorem new_dic {O : Addr → Bool} {H : Hp} {p : Addr} {kvs : List (Key × D)} {xs : List (Key × V)} (o : OIn O H) (hp : H p = none) (g : DatK K C (hid O H) kvs xs) : Dat K C (hid O (upd H p (.dK xs))) (.dic kvs) (.ref p) :=
  dat_dic_iff.mpr ⟨p, xs, rfl, hid_new o hp, g.same (same_hid (same_new hp))⟩
theorem rn_dictP {kvs : List (Key × D)} : RCN K C (fun xs H Q => ∃ (a : Addr) (ps : List Addr) (kvs : List (Key × V)), xs = [V.ref a] ∧ SqL K H a (ps.map V.ref) ∧ Paired (fun p kv => SqT K H p [kV kv.1, kv.2]) ps kvs ∧
    ∀ p, H p = none → Q (.ref p) (upd H p (.dK (mergeK [] kvs)))) [.lst (kvs.map pairD)] (.dic (mergeD [] kvs)) := fun O H vs o h Q q => by
  obtain ⟨x, rfl, hx⟩ := dats_one.mp h
  obtain ⟨a, xs, rfl, h1, h2⟩ := dat_lst_iff.mp hx
  obtain ⟨ps, ms, rfl, h3, h4⟩ := dats_pairs h2
  exact ⟨a, ps, ms, rfl, sqL_of h1, h3, fun p hp => q p _ (same_new hp) hp (new_dic o hp (h4.merge (datK_nil.mpr rfl)))⟩
/-- sorted(d), the keys ints -/
theorem rn_sortedDI {kvs : List (Key × D)} {ks : List Int} (hk : kvs.map (·.1) = ks.map Sum.inl) (hl : ks.length < 64) : RCN K C (fun xs H Q => ∃ (a : Addr) (kvs : List (Key × V)) (ks : List Int), xs = [V.ref a] ∧ Rd H a (.dK kvs) ∧ kvs.map (·.1) = ks.map Sum.inl ∧ ks.length < 64 ∧
    ∀ (ys : List Int) (p : Addr), ys.Perm ks → ys.Pairwise (· ≤ ·) → H p = none → Q (.ref p) (upd H p (.lst (ys.map V.int)))) [.dic kvs] (.lst (dI (srt ks))) := fun O H vs o h Q q => by
  obtain ⟨x, rfl, hx⟩ := dats_one.mp h
  obtain ⟨a, xs, rfl, h1, h2⟩ := dat_dic_iff.mp hx
  refine ⟨a, xs, ks, rfl, .inl (hid_same _ _ h1), by rw [h2.keys, hk], hl, fun ys p hp hs hn => ?_⟩
  have e : ys = srt ks := perm_le_eq (hp.trans (srt_perm ks).symm) hs (srt_le ks)
  subst e
  exact q p _ (same_new hn) hn (new_lst o hn (dats_ints.mpr rfl))
/-! ### x in xs, flat things -/
def flatD : D → Bool
  | .non => true
  | .bl _ => true
  | .int _ => true
  | .str _ => true
  | _ => false
theorem inV_ints {i : Int} : ∀ {ns : List Int}, inV (.int i) (ns.map V.int) = decide (i ∈ ns)
  | [] => rfl
  | n :: ns => by
    have ih := inV_ints (i := i) (ns := ns)
    unfold inV at ih ⊢
    rw [List.map_cons, List.any_cons, ih]
    have e : eqV (.int n) (.int i) = decide (n = i) := by
      show (n == i) = decide (n = i)
      rw [Bool.eq_iff_iff]
      simp
    rw [e]
    by_cases h : n = i
    · subst h
      simp
    · have h' : ¬ i = n := fun q => h q.symm
      simp [h, h']
theorem flat_ints : ∀ {ns : List Int}, (ns.map V.int).all flatV = true
  | [] => rfl
  | n :: ns => by
    rw [List.map_cons, List.all_cons, flat_ints]
    rfl
theorem r2_in {i : Int} {ns : List Int} : R2D K C (rIn K false) (.int i) (.lst (dI ns)) (.bl (decide (i ∈ ns))) := fun O H x y o hx hy Q q => by
  obtain ⟨a, xs, rfl, h1, h2⟩ := dat_lst_iff.mp hy
  rw [dats_ints.mp h2] at h1
  refine ⟨a, ns.map V.int, rfl, .inl (sqL_of h1), by rw [dat_int.mp hx]; rfl, flat_ints, ?_⟩
  rw [dat_int.mp hx, inV_ints]
  exact q _ H (Same.refl H) (dat_bl.mpr rfl)
theorem r2_notIn {i : Int} {ns : List Int} : R2D K C (rIn K true) (.int i) (.lst (dI ns)) (.bl (!decide (i ∈ ns))) := fun O H x y o hx hy Q q => by
  obtain ⟨a, xs, rfl, h1, h2⟩ := dat_lst_iff.mp hy
  rw [dats_ints.mp h2] at h1
  refine ⟨a, ns.map V.int, rfl, .inl (sqL_of h1), by rw [dat_int.mp hx]; rfl, flat_ints, ?_⟩
  rw [dat_int.mp hx, inV_ints]
  exact q _ H (Same.refl H) (dat_bl.mpr rfl)
/-! ### == of data -/
mutual
def toPy : D → PyData
  | .non => .none
  | .bl b => .bool b
  | .int i => .int i
  | .str x => .str x
  | .lst ds => .list (toPys ds)
  | .tup ds => .tuple (toPys ds)
  | _ => .none
def toPys : List D → List PyData
  | [] => []
  | d :: ds => toPy d :: toPys ds
end
mutual
/-- no dict, recipe, raw value in it -/
def flatAll : D → Bool
  | .non => true
  | .bl _ => true
  | .int _ => true
  | .str _ => true
  | .lst ds => flatAlls ds
  | .tup ds => flatAlls ds
  | _ => false
def flatAlls : List D → Bool
  | [] => true
  | d :: ds => flatAll d && flatAlls ds
end
mutual
theorem dp_of {O : Addr → Bool} {H : Hp} : ∀ (d : D) (v : V), flatAll d = true → Dat K C (hid O H) d v → Dp K H v (toPy d)
  | .non, v, _, h => by
    rw [dat_non.mp h]
    unfold toPy
    exact .non
  | .bl b, v, _, h => by
    rw [dat_bl.mp h]
    unfold toPy
    exact .bl b
  | .int i, v, _, h => by
    rw [dat_int.mp h]
    unfold toPy
    exact .int i
  | .str x, v, _, h => by
    rw [dat_str.mp h]
    unfold toPy
    exact .str x
  | .lst ds, v, f, h => by
    obtain ⟨a, xs, rfl, h1, h2⟩ := dat_lst_iff.mp h
    unfold toPy
    unfold flatAll at f
    exact .lst (sqL_of h1) (dps_of ds xs f h2)
  | .tup ds, v, f, h => by
    obtain ⟨a, xs, rfl, h1, h2⟩ := dat_tup_iff.mp h
    unfold toPy
    unfold flatAll at f
    exact .tup (sqT_of h1) (dps_of ds xs f h2)
  | .dic _, v, f, _ => by
    unfold flatAll at f
    cases f
  | .rcp _ _, v, f, _ => by
    unfold flatAll at f
    cases f
  | .raw _, v, f, _ => by
    unfold flatAll at f
    cases f
  | .dtp _, v, f, _ => by
    unfold flatAll at f
    cases f
theorem dps_of {O : Addr → Bool} {H : Hp} : ∀ (ds : List D) (xs : List V), flatAlls ds = true → Dats K C (hid O H) ds xs → DpAll K H xs (toPys ds)
  | [], xs, _, h => by
    rw [dats_nil.mp h]
    unfold toPys
    exact .nil
  | d :: ds, xs, f, h => by
    obtain ⟨x, ys, rfl, h1, h2⟩ := dats_cons.mp h
    unfold flatAlls at f
    obtain ⟨f1, f2⟩ := Bool.and_eq_true_iff.mp f
    unfold toPys
    exact .cons (dp_of d x f1 h1) (dps_of ds ys f2 h2)
end
def shp (d : D) : Bool := flatAll d && SeqAt.shaped (toPy d)
def eqD (d e : D) : Bool := PyData.eqv (toPy d) (toPy e)
theorem r2_eq (h1 : shp d = true) (h2 : shp e = true) : R2D K C (rEqD K) d e (.bl (eqD d e)) := fun O H x y o hx hy Q q => by
  obtain ⟨a1, a2⟩ := Bool.and_eq_true_iff.mp h1
  obtain ⟨b1, b2⟩ := Bool.and_eq_true_iff.mp h2
  exact ⟨toPy d, toPy e, dp_of d x a1 hx, dp_of e y b1 hy, a2, b2, q _ H (Same.refl H) (dat_bl.mpr rfl)⟩
theorem r2_ne (h1 : shp d = true) (h2 : shp e = true) : R2D K C (rNeD K) d e (.bl (!eqD d e)) := fun O H x y o hx hy Q q => by
  obtain ⟨a1, a2⟩ := Bool.and_eq_true_iff.mp h1
  obtain ⟨b1, b2⟩ := Bool.and_eq_true_iff.mp h2
  exact ⟨toPy d, toPy e, dp_of d x a1 hx, dp_of e y b1 hy, a2, b2, q _ H (Same.refl H) (dat_bl.mpr rfl)⟩
theorem eqD_refl (h : shp d = true) : eqD d d = true := by
  obtain ⟨a1, a2⟩ := Bool.and_eq_true_iff.mp h
  exact SeqAt.eqv_refl _ (SeqAt.canLay_of_shaped a2)
theorem eqD_int {i j : Int} : eqD (.int i) (.int j) = decide (i = j) := by
  unfold eqD toPy PyData.eqv
  rw [Bool.eq_iff_iff]
  simp
theorem eqD_bl {i j : Bool} : eqD (.bl i) (.bl j) = (i == j) := by
  unfold eqD toPy PyData.eqv
  rfl
theorem shp_int {i : Int} : shp (.int i) = true := by rfl
theorem shp_bl {i : Bool} : shp (.bl i) = true := by rfl
theorem shp_non : shp .non = true := by rfl
/-! ### recipes -/
theorem dat_rcp_iff {H : Hp} {m : Int} {rows : List (List Int)} {v : V} : Dat K C H (.rcp m rows) v ↔ ∃ a dx t xs, v = .ref a ∧ H a = some (.ins C dx (fsR m t)) ∧ H t = some (.tup xs) ∧ RowsT K H rows xs := by
  unfold Dat
  exact Iff.rfl
theorem fsR_no {m : Str} {c : Int} {t : Addr} (hm : ¬ m = sMany) (hm2 : ¬ m = sNeeds) : (fsR c t).lookup m = none := by
  have e1 : (m == sMany) = false := beq_eq_false_iff_ne.mpr hm
  have e2 : (m == sNeeds) = false := beq_eq_false_iff_ne.mpr hm2
  unfold fsR
  rw [List.lookup_cons, e1]
  show ([(sNeeds, V.ref t)] : List (Str × V)).lookup m = none
  rw [List.lookup_cons, e2]
  rfl
/-- o.m(..) of a recipe -/
theorem ev_meth {pre : List D → Prop} {f : List D → D} {n : Nat} {E : XK} {tr : TA} {m : Str} {c : Int} {rows : List (List Int)} (h : EvD K C te δ (.rcp c rows)) (ha : EvA K C tr δ ds) (hm : ¬ m = sMany) (hm2 : ¬ m = sNeeds) (hn : ds.length + 1 = n) (hp : pre (.rcp c rows :: ds)) :
    EvD K C (tMeth C m (SpD K C pre f n) [] E te tr) δ (f (.rcp c rows :: ds)) := fun O σ H n Q q => h O σ H n _ fun v H1 s1 d1 => by
  obtain ⟨a, dx, t, xs, rfl, h1, h2, h3⟩ := dat_rcp_iff.mp d1
  refine ⟨a, dx, fsR c t, rfl, hid_same _ _ h1, ?_, ha O σ H1 (n.same s1) _ fun vs H2 s2 d2 => ?_⟩
  · exact fsR_no hm hm2
  · show SpD K C pre f _ (.ref a :: (vs ++ [])) H2 Q E
    rw [List.append_nil]
    exact ⟨by rw [List.length_cons, d2.length, hn], O, _, (n.same (s1.trans s2)).own, .cons (d1.same (same_hid s2)) d2, hp, fun v H3 s3 d3 => q v H3 ((s1.trans s2).trans s3) d3⟩
theorem en_meth {pre : List D → Prop} {f : List D → D} {n : Nat} {E : XK} {tr : TA} {m : Str} {c : Int} {rows : List (List Int)} (h : EvD K C te δ (.rcp c rows)) (ha : EvA K C tr δ ds) (hm : ¬ m = sMany) (hm2 : ¬ m = sNeeds) (hn : ds.length + 1 = n) (hp : pre (.rcp c rows :: ds)) :
    EvN K C (tMeth C m (SpN K C pre f n) [] E te tr) δ (f (.rcp c rows :: ds)) := fun O σ H n Q q => h O σ H n _ fun v H1 s1 d1 => by
  obtain ⟨a, dx, t, xs, rfl, h1, h2, h3⟩ := dat_rcp_iff.mp d1
  refine ⟨a, dx, fsR c t, rfl, hid_same _ _ h1, ?_, ha O σ H1 (n.same s1) _ fun vs H2 s2 d2 => ?_⟩
  · exact fsR_no hm hm2
  · show SpN K C pre f _ (.ref a :: (vs ++ [])) H2 Q E
    rw [List.append_nil]
    exact ⟨by rw [List.length_cons, d2.length, hn], O, _, (n.same (s1.trans s2)).own, .cons (d1.same (same_hid s2)) d2, hp, fun v H3 s3 hp d3 => q v H3 ((s1.trans s2).trans s3) (back_none (s1.trans s2) hp) d3⟩
/-- self._many -/
theorem ev_many {c : Int} {rows : List (List Int)} (cl : Cls K C) (na : NoAttr K C sMany) (h : EvD K C te δ (.rcp c rows)) : EvD K C (tFld K te sMany) δ (.int c) := fun O σ H n Q q => h O σ H n _ fun v H1 s1 d1 => by
  obtain ⟨a, dx, t, xs, rfl, h1, h2, h3⟩ := dat_rcp_iff.mp d1
  exact ⟨a, C, dx, _, .int c, rfl, hid_same _ _ h1, cl, na, by unfold fsR; rfl, q _ H1 s1 (dat_int.mpr rfl)⟩
theorem rows_dats {H : Hp} : ∀ {rows : List (List Int)} {xs : List V}, RowsT K H rows xs → Dats K C H (rows.map fun r => D.tup (dI r)) xs
  | [], xs, h => dats_nil.mpr h
  | r :: rows, xs, h => by
    obtain ⟨a, ys, rfl, h1, h2⟩ := h
    exact dats_cons.mpr ⟨_, _, rfl, dat_tup_iff.mpr ⟨a, _, rfl, h1, dats_ints.mpr rfl⟩, rows_dats h2⟩
theorem dats_rows {H : Hp} : ∀ {rows : List (List Int)} {xs : List V}, Dats K C H (rows.map fun r => D.tup (dI r)) xs → RowsT K H rows xs
  | [], xs, h => dats_nil.mp h
  | r :: rows, xs, h => by
    obtain ⟨x, ys, rfl, h1, h2⟩ := dats_cons.mp h
    obtain ⟨a, zs, rfl, h3, h4⟩ := dat_tup_iff.mp h1
    rw [dats_ints.mp h4] at h3
    exact ⟨a, ys, rfl, h3, dats_rows h2⟩
/-- the needs as they are kept -/
def rowsD (rows : List (List Int)) : D := .tup (rows.map fun r => D.tup (dI r))
/-- the needs as they are told -/
def rowsL (rows : List (List Int)) : D := .lst (rows.map fun r => D.lst (dI r))
theorem ev_needs {c : Int} {rows : List (List Int)} (cl : Cls K C) (na : NoAttr K C sNeeds) (h : EvD K C te δ (.rcp c rows)) : EvD K C (tFld K te sNeeds) δ (rowsD rows) := fun O σ H n Q q => h O σ H n _ fun v H1 s1 d1 => by
  obtain ⟨a, dx, t, xs, rfl, h1, h2, h3⟩ := dat_rcp_iff.mp d1
  exact ⟨a, C, dx, _, .ref t, rfl, hid_same _ _ h1, cl, na, by unfold fsR; rfl, q _ H1 s1 (dat_tup_iff.mpr ⟨t, xs, rfl, h2, rows_dats h3⟩)⟩
end
end Zm


set_option Elab.async false
set_option linter.all false
set_option maxRecDepth 100000
set_option maxHeartbeats 4000000
set_option autoImplicit false
namespace Zm
open PySem PySem.Spec L2
section
variable {X : Cx} {e : Expr} {es : List Expr} {t : TA} {te : TE} {p pos : Pos}
theorem c_isi {K : PySem.W.Frag} (b : BFree X.mg) (ha : PA X (e :: es) t) (hg : Gl X "isinstance" := by rfl) (hK : X.K = K := by rfl)
    (he : starEach (e :: es) X.env = (false, eval e X.env) :: starEach es X.env := by rfl) (hpl : (backTo pos (starEach es X.env)).any (·.1) = false := by rfl) :
    PE X (.Call (.Name "isinstance" p) (e :: es) [] pos) (tCB (rIsi K) t) := by
  subst hK
  exact pe_callB call_isi hg (b _ (by decide)) (by decide +kernel) ha (he := he) (hpl := hpl)
theorem c_isi2 {K : PySem.W.Frag} (b : BFree X.mg) (ha : PA X (e :: es) t) (hg : Gl X "isinstance" := by rfl) (hK : X.K = K := by rfl)
    (he : starEach (e :: es) X.env = (false, eval e X.env) :: starEach es X.env := by rfl) (hpl : (backTo pos (starEach es X.env)).any (·.1) = false := by rfl) :
    PE X (.Call (.Name "isinstance" p) (e :: es) [] pos) (tCB (rIsiT K) t) := by
  subst hK
  exact pe_callB call_isiT hg (b _ (by decide)) (by decide +kernel) ha (he := he) (hpl := hpl)
theorem c_len {K : PySem.W.Frag} (b : BFree X.mg) (ha : PA X (e :: es) t) (hg : Gl X "len" := by rfl) (hK : X.K = K := by rfl)
    (he : starEach (e :: es) X.env = (false, eval e X.env) :: starEach es X.env := by rfl) (hpl : (backTo pos (starEach es X.env)).any (·.1) = false := by rfl) :
    PE X (.Call (.Name "len" p) (e :: es) [] pos) (tCB (fun xs H Q => ∃ p ys, xs = [V.ref p] ∧ (SqL K H p ys ∨ SqT K H p ys) ∧ Q (.int ys.length) H) t) := by
  subst hK
  exact pe_callB call_len_seq hg (b _ (by decide)) (by decide +kernel) ha (he := he) (hpl := hpl)
theorem c_sum {K : PySem.W.Frag} (b : BFree X.mg) (ha : PA X (e :: es) t) (hg : Gl X "sum" := by rfl) (hc : X.calm = true := by rfl) (hK : X.K = K := by rfl)
    (he : starEach (e :: es) X.env = (false, eval e X.env) :: starEach es X.env := by rfl) (hpl : (backTo pos (starEach es X.env)).any (·.1) = false := by rfl) :
    PE X (.Call (.Name "sum" p) (e :: es) [] pos) (tCB (rSum K) t) := by
  subst hK
  exact pe_callB (cr_sum hc) hg (b _ (by decide)) (by decide +kernel) ha (he := he) (hpl := hpl)
theorem c_all {K : PySem.W.Frag} (b : BFree X.mg) (ha : PA X (e :: es) t) (hg : Gl X "all" := by rfl) (hc : X.calm = true := by rfl) (hK : X.K = K := by rfl)
    (he : starEach (e :: es) X.env = (false, eval e X.env) :: starEach es X.env := by rfl) (hpl : (backTo pos (starEach es X.env)).any (·.1) = false := by rfl) :
    PE X (.Call (.Name "all" p) (e :: es) [] pos) (tCB (rAll K) t) := by
  subst hK
  exact pe_callB (cr_all hc) hg (b _ (by decide)) (by decide +kernel) ha (he := he) (hpl := hpl)
theorem c_any {K : PySem.W.Frag} (b : BFree X.mg) (ha : PA X (e :: es) t) (hg : Gl X "any" := by rfl) (hc : X.calm = true := by rfl) (hK : X.K = K := by rfl)
    (he : starEach (e :: es) X.env = (false, eval e X.env) :: starEach es X.env := by rfl) (hpl : (backTo pos (starEach es X.env)).any (·.1) = false := by rfl) :
    PE X (.Call (.Name "any" p) (e :: es) [] pos) (tCB (rAny K) t) := by
  subst hK
  exact pe_callB (cr_any hc) hg (b _ (by decide)) (by decide +kernel) ha (he := he) (hpl := hpl)
theorem c_maxL {K : PySem.W.Frag} (b : BFree X.mg) (ha : PA X (e :: es) t) (hg : Gl X "max" := by rfl) (hc : X.calm = true := by rfl) (hK : X.K = K := by rfl)
    (he : starEach (e :: es) X.env = (false, eval e X.env) :: starEach es X.env := by rfl) (hpl : (backTo pos (starEach es X.env)).any (·.1) = false := by rfl) :
    PE X (.Call (.Name "max" p) (e :: es) [] pos) (tCB (rMax K) t) := by
  subst hK
  exact pe_callB (cr_max hc) hg (b _ (by decide)) (by decide +kernel) ha (he := he) (hpl := hpl)
theorem c_minL {K : PySem.W.Frag} (b : BFree X.mg) (ha : PA X (e :: es) t) (hg : Gl X "min" := by rfl) (hc : X.calm = true := by rfl) (hK : X.K = K := by rfl)
    (he : starEach (e :: es) X.env = (false, eval e X.env) :: starEach es X.env := by rfl) (hpl : (backTo pos (starEach es X.env)).any (·.1) = false := by rfl) :
    PE X (.Call (.Name "min" p) (e :: es) [] pos) (tCB (rMin K) t) := by
  subst hK
  exact pe_callB (cr_min hc) hg (b _ (by decide)) (by decide +kernel) ha (he := he) (hpl := hpl)
theorem c_max2 {K : PySem.W.Frag} (b : BFree X.mg) (ha : PA X (e :: es) t) (hg : Gl X "max" := by rfl) (hc : X.calm = true := by rfl) (hK : X.K = K := by rfl)
    (he : starEach (e :: es) X.env = (false, eval e X.env) :: starEach es X.env := by rfl) (hpl : (backTo pos (starEach es X.env)).any (·.1) = false := by rfl) :
    PE X (.Call (.Name "max" p) (e :: es) [] pos) (tCB (fun xs H Q => ∃ i j, xs = [V.int i, V.int j] ∧ Q (.int (if j > i then j else i)) H) t) := by
  subst hK
  exact pe_callB (call_max2 hc) hg (b _ (by decide)) (by decide +kernel) ha (he := he) (hpl := hpl)
theorem c_min2 {K : PySem.W.Frag} (b : BFree X.mg) (ha : PA X (e :: es) t) (hg : Gl X "min" := by rfl) (hc : X.calm = true := by rfl) (hK : X.K = K := by rfl)
    (he : starEach (e :: es) X.env = (false, eval e X.env) :: starEach es X.env := by rfl) (hpl : (backTo pos (starEach es X.env)).any (·.1) = false := by rfl) :
    PE X (.Call (.Name "min" p) (e :: es) [] pos) (tCB (fun xs H Q => ∃ i j, xs = [V.int i, V.int j] ∧ Q (.int (if j < i then j else i)) H) t) := by
  subst hK
  exact pe_callB (call_min2 hc) hg (b _ (by decide)) (by decide +kernel) ha (he := he) (hpl := hpl)
theorem c_sorted {K : PySem.W.Frag} (b : BFree X.mg) (ha : PA X (e :: es) t) (hg : Gl X "sorted" := by rfl) (hK : X.K = K := by rfl)
    (he : starEach (e :: es) X.env = (false, eval e X.env) :: starEach es X.env := by rfl) (hpl : (backTo pos (starEach es X.env)).any (·.1) = false := by rfl) :
    PE X (.Call (.Name "sorted" p) (e :: es) [] pos) (tCB (rSortedI K) t) := by
  subst hK
  exact pe_callB cr_sortedI hg (b _ (by decide)) (by decide +kernel) ha (he := he) (hpl := hpl)
theorem c_sortedDI {K : PySem.W.Frag} (b : BFree X.mg) (ha : PA X (e :: es) t) (hg : Gl X "sorted" := by rfl) (hc : X.calm = true := by rfl) (hK : X.K = K := by rfl)
    (he : starEach (e :: es) X.env = (false, eval e X.env) :: starEach es X.env := by rfl) (hpl : (backTo pos (starEach es X.env)).any (·.1) = false := by rfl) :
    PE X (.Call (.Name "sorted" p) (e :: es) [] pos) (tCB (fun xs H Q => ∃ (a : Addr) (kvs : List (Key × V)) (ks : List Int), xs = [V.ref a] ∧ Rd H a (.dK kvs) ∧ kvs.map (·.1) = ks.map Sum.inl ∧ ks.length < 64 ∧ ∀ (ys : List Int) (p : Addr), ys.Perm ks → ys.Pairwise (· ≤ ·) → H p = none → Q (.ref p) (upd H p (.lst (ys.map V.int)))) t) := by
  subst hK
  exact pe_callB (call_sortedDI hc) hg (b _ (by decide)) (by decide +kernel) ha (he := he) (hpl := hpl)
theorem c_int {K : PySem.W.Frag} (b : BFree X.mg) (ha : PA X (e :: es) t) (hg : Gl X "int" := by rfl) (hK : X.K = K := by rfl)
    (he : starEach (e :: es) X.env = (false, eval e X.env) :: starEach es X.env := by rfl) (hpl : (backTo pos (starEach es X.env)).any (·.1) = false := by rfl) :
    PE X (.Call (.Name "int" p) (e :: es) [] pos) (tCB (fun xs H Q => (∃ i, xs = [V.int i] ∧ Q (.int i) H) ∨ ∃ k, xs = [V.bl k] ∧ Q (.int (if k then 1 else 0)) H) t) := by
  subst hK
  exact pe_callTy call_int1 hg (b _ (by decide)) (by decide +kernel) ha (he := he) (hpl := hpl)
theorem c_list {K : PySem.W.Frag} (b : BFree X.mg) (ha : PA X (e :: es) t) (hg : Gl X "list" := by rfl) (hK : X.K = K := by rfl)
    (he : starEach (e :: es) X.env = (false, eval e X.env) :: starEach es X.env := by rfl) (hpl : (backTo pos (starEach es X.env)).any (·.1) = false := by rfl) :
    PE X (.Call (.Name "list" p) (e :: es) [] pos) (tCB (fun xs H Q => ∃ p ys, xs = [V.ref p] ∧ (SqL K H p ys ∨ SqT K H p ys) ∧ ∀ l, H l = none → Q (.ref l) (upd H l (.lst ys))) t) := by
  subst hK
  exact pe_callTy call_list_of hg (b _ (by decide)) (by decide +kernel) ha (he := he) (hpl := hpl)
theorem c_tuple {K : PySem.W.Frag} (b : BFree X.mg) (ha : PA X (e :: es) t) (hg : Gl X "tuple" := by rfl) (hK : X.K = K := by rfl)
    (he : starEach (e :: es) X.env = (false, eval e X.env) :: starEach es X.env := by rfl) (hpl : (backTo pos (starEach es X.env)).any (·.1) = false := by rfl) :
    PE X (.Call (.Name "tuple" p) (e :: es) [] pos) (tCB (fun xs H Q => ∃ p ys, xs = [V.ref p] ∧ ((SqL K H p ys ∧ ∀ l, H l = none → Q (.ref l) (upd H l (.tup ys))) ∨ (SqT K H p ys ∧ Q (.ref p) H))) t) := by
  subst hK
  exact pe_callTy call_tuple_of hg (b _ (by decide)) (by decide +kernel) ha (he := he) (hpl := hpl)
theorem c_dictP {K : PySem.W.Frag} (b : BFree X.mg) (ha : PA X (e :: es) t) (hg : Gl X "dict" := by rfl) (hc : X.calm = true := by rfl) (hK : X.K = K := by rfl)
    (he : starEach (e :: es) X.env = (false, eval e X.env) :: starEach es X.env := by rfl) (hpl : (backTo pos (starEach es X.env)).any (·.1) = false := by rfl) :
    PE X (.Call (.Name "dict" p) (e :: es) [] pos) (tCB (fun xs H Q => ∃ (a : Addr) (ps : List Addr) (kvs : List (Key × V)), xs = [V.ref a] ∧ SqL K H a (ps.map V.ref) ∧ Paired (fun p kv => SqT K H p [kV kv.1, kv.2]) ps kvs ∧ ∀ p, H p = none → Q (.ref p) (upd H p (.dK (mergeK [] kvs)))) t) := by
  subst hK
  exact pe_callTy (call_dictP hc) hg (b _ (by decide)) (by decide +kernel) ha (he := he) (hpl := hpl)
theorem n_ty {x : Str} {n : String} (b : BFree X.mg) (hx : x ∈ bNames := by decide) (hv : bootBuiltins x = some (.type n) := by decide +kernel) (hg : Gl X x := by rfl) (hn : x ≠ "__name__" := by decide) (hd : (x == ("__debug__" : Str)) = false := by decide) :
    PE X (.Name x pos) (tC (.ty n)) := pe_bltn hg (b x hx) hv rfl hn hd
theorem i_rng1 {tg a : Expr} {ta : TA} (b : BFree X.mg) (ha : PA X [a] ta) (hg : Gl X "range" := by rfl) (hs : starEach [a] X.env = [(false, eval a X.env)] := by rfl) : PI X tg (.Call (.Name "range" p) [a] [] pos) (iRng1 ta) :=
  pi_range1 hg (b _ (by decide)) ha hs
theorem i_rng2 {tg a c : Expr} {ta : TA} (b : BFree X.mg) (ha : PA X [a, c] ta) (hg : Gl X "range" := by rfl) (hs : starEach [a, c] X.env = [(false, eval a X.env), (false, eval c X.env)] := by rfl) (hs2 : starEach [c] X.env = [(false, eval c X.env)] := by rfl) :
    PI X tg (.Call (.Name "range" p) [a, c] [] pos) (iRng2 ta) := pi_range2 hg (b _ (by decide)) ha hs hs2
/-! the same for what a rule says of the written part -/
theorem o_eq {K : PySem.W.Frag} (hu : X.A.units + 64 < cLine) (hK : X.K = K := by rfl) : OpR X (compareOp .Eq) (rEqD K) := by
  subst hK
  exact op_eqD hu
theorem o_ne {K : PySem.W.Frag} (hu : X.A.units + 64 < cLine) (hK : X.K = K := by rfl) : OpR X (compareOp .NotEq) (rNeD K) := by
  subst hK
  exact op_neD hu
theorem o_in {K : PySem.W.Frag} (hK : X.K = K := by rfl) : OpR X (compareOp .In) (rIn K false) := by
  subst hK
  exact op_in_seq
theorem o_notIn {K : PySem.W.Frag} (hK : X.K = K := by rfl) : OpR X (compareOp .NotIn) (rIn K true) := by
  subst hK
  exact op_notIn_seq
theorem x_list {K : PySem.W.Frag} (hK : X.K = K := by rfl) : IxR X (rIxL K) := by
  subst hK
  exact ix_list
theorem x_tup {K : PySem.W.Frag} (hK : X.K = K := by rfl) : IxR X (rIxT K) := by
  subst hK
  exact ix_tup
theorem x_sl {K : PySem.W.Frag} (hK : X.K = K := by rfl) : SlR X (rSlL K) := by
  subst hK
  exact sl_list
theorem i_list {K : PySem.W.Frag} {tg l : Expr} {tl : TE} (hl : PE X l tl) (hK : X.K = K := by rfl) : PI X tg l (iList K tl) := by
  subst hK
  exact pi_list hl
theorem i_tup {K : PySem.W.Frag} {tg l : Expr} {tl : TE} (hl : PE X l tl) (hK : X.K = K := by rfl) : PI X tg l (iTup K tl) := by
  subst hK
  exact pi_tup hl
theorem g_tup {K : PySem.W.Frag} {es : List Expr} {k n : Nat} {t : TGs} (h : PGs X es t) (hc : X.calm = true := by rfl) (hn : (assignEach es X.env).length = n := by rfl) (hst : (assignEach es X.env).findIdx? (·.1) = none := by rfl) (hK : X.K = K := by rfl) : PG X (.Tuple es k pos) (gTup K n t) := by
  subst hK
  exact pg_tup hc h hn hst
theorem e_fld {K : PySem.W.Frag} {f : Str} {ta : TE} (he : PE X e ta) (hb : attributeBase e f X.env (eval e X.env) = eval e X.env := by rfl) (hK : X.K = K := by rfl) : PE X (.Attribute e f pos) (tFld K ta f) := by
  subst hK
  exact pe_fld he hb
/-- a method of the class at C -/
structure MethOk (P : Program) (w : World) (K : PySem.W.Frag) (mg : Str → Option Value) (base : Heap) (C : Addr) (m : Str) (k : Nat) (ps : List Str) (sp : Sp) : Prop where
  cl : Cls K C
  ex : ∃ (f : Addr) (fd : FuncData), FnOk P w K mg base CX0 k f fd ps sp ∧ Meth K C m f ∧ Binds K fd ps []
end
end Zm


set_option Elab.async false
set_option linter.all false
set_option maxRecDepth 100000
set_option maxHeartbeats 4000000
set_option autoImplicit false
namespace Zm
open PySem PySem.Spec L2

/-! ### evaluation that draws from the purse in slot 0 -/
structure AtP (K : PySem.W.Frag) (C : Addr) (O : Addr → Bool) (H : Hp) (σ : L2.St) (δ : Dl) (p : Addr) (n : Nat) : Prop where
  at_ : At K C O H σ δ
  own : O p = true
  purse : PurseIs n H p
  slot : σ[0]? = some (some (.ref p))
section
variable {K : PySem.W.Frag} {C : Addr} {O : Addr → Bool} {H H' : Hp} {σ : L2.St} {δ : Dl} {p : Addr} {n m : Nat}
theorem but_hid (s : But p H H') (h : O p = true) : Same (hid O H) (hid O H') := fun a o e => by
  unfold hid at e ⊢
  split at e
  · cases e
  · rename_i q
    rw [if_neg q]
    exact s a o (fun z => by rw [z] at q; exact q h) e
theorem PurseIs.some (h : PurseIs n H p) : H p ≠ none := by
  obtain ⟨a, b, c, d, h, _⟩ := h
  rw [h]
  exact fun q => by cases q
theorem but_own (o : OIn O H) (s : But p H H') (h : PurseIs m H' p) : OIn O H' := by
  refine ⟨fun a e q => ?_, fun a v e q => ?_⟩
  · by_cases hp : a = p
    · subst hp
      exact h.some q
    · have h1 := o a e
      cases r : H a with
      | none => exact h1 r
      | some u =>
        rw [s a u hp r] at q
        cases q
  · by_cases hp : a = p
    · subst hp
      obtain ⟨x, y, z, w, h0, _⟩ := h
      rw [h0] at q
      rw [← Option.some.inj q]
      trivial
    · have h1 := o a e
      cases r : H a with
      | none => exact absurd r h1
      | some u =>
        rw [s a u hp r] at q
        rw [← Option.some.inj q]
        exact o.nt a u e r
theorem AtP.but (x : AtP K C O H σ δ p n) (s : But p H H') (h : PurseIs m H' p) : AtP K C O H' σ δ p m := ⟨⟨but_own x.at_.own s h, x.at_.env.same (but_hid s x.own)⟩, x.own, h, x.slot⟩
theorem PurseIs.same (h : PurseIs n H p) (s : Same H H') : PurseIs n H' p := by
  obtain ⟨a, b, c, d, h0, h1⟩ := h
  exact ⟨a, b, c, d, s _ _ h0, h1⟩
theorem PurseIs.upd {q : Addr} {o : HO} (h : PurseIs n H p) (hq : q ≠ p) : PurseIs n (L2.upd H q o) p := by
  obtain ⟨a, b, c, d, h0, h1⟩ := h
  exact ⟨a, b, c, d, by rw [upd_ne hq.symm]; exact h0, h1⟩
theorem AtP.mono (x : AtP K C O H σ δ p n) (h : n ≤ m) : AtP K C O H σ δ p m := ⟨x.at_, x.own, x.purse.mono h, x.slot⟩
end
section
variable (K : PySem.W.Frag) (C : Addr)
def EvP (te : TE) (δ : Dl) (c : Nat) (R : D → Prop) : Prop := ∀ O σ H p n, AtP K C O H σ δ p n → n + c ≤ 1000000 → ∀ Q : VK, (∀ v H' d, But p H H' → PurseIs (n + c) H' p → R d → Dat K C (hid O H') d v → Q v H') → te σ H Q
def EvPT (tt : TT) (δ : Dl) (c : Nat) (B : Bool → Prop) : Prop := ∀ O σ H p n, AtP K C O H σ δ p n → n + c ≤ 1000000 → ∀ Q : Bool → Hp → Prop, (∀ b H', But p H H' → PurseIs (n + c) H' p → B b → Q b H') → tt σ H Q
def EvPA (ta : TA) (δ : Dl) (c : Nat) (R : List D → Prop) : Prop := ∀ O σ H p n, AtP K C O H σ δ p n → n + c ≤ 1000000 → ∀ Q : List V → Hp → Prop, (∀ vs H' ds, But p H H' → PurseIs (n + c) H' p → R ds → Dats K C (hid O H') ds vs → Q vs H') → ta σ H Q
def EvPI (ti : TI) (δ : Dl) (c : Nat) (R : List D → Prop) : Prop := ∀ O σ H p n, AtP K C O H σ δ p n → n + c ≤ 1000000 → ∀ Z : It → Hp → Prop, (∀ J H' ds, But p H H' → PurseIs (n + c) H' p → R ds → WalkD K C O H' J ds → Z J H') → ti σ H Z
/-- ends by a return of something that R tells -/
def StP (ts : TS) (δ : Dl) (c : Nat) (R : D → Prop) : Prop := ∀ O σ H p n, AtP K C O H σ δ p n → n + c ≤ 1000000 → ∀ Z : Ends, (∀ v H' d, But p H H' → PurseIs (n + c) H' p → R d → Dat K C (hid O H') d v → Z.rt v H') → ts Z σ H
end
section
variable {K : PySem.W.Frag} {C : Addr} {δ : Dl} {ta tb te : TE} {tr : TA} {R R1 R2 : D → Prop} {c c1 c2 : Nat} {d e z : D}
theorem ep_d (h : EvD K C te δ d) : EvP K C te δ 0 (fun x => x = d) := fun O σ H p n x hn Q q => h O σ H x.at_ Q fun v H' s hd => q v H' d (But.of s) (x.purse.same s) rfl hd
theorem ep_imp (h : EvP K C te δ c R) (g : ∀ d, R d → R1 d) (hc : c ≤ c1) : EvP K C te δ c1 R1 := fun O σ H p n x hn Q q => h O σ H p n x (by omega) Q fun v H' d s pu r hd => q v H' d s (pu.mono (by omega)) (g d r) hd
theorem ep_op {r : L2.R2} (ha : EvP K C ta δ c1 R1) (hb : EvP K C tb δ c2 R2) (hr : ∀ d e, R1 d → R2 e → ∃ z, R2D K C r d e z ∧ R z) : EvP K C (tOp r ta tb) δ (c1 + c2) R := fun O σ H p n x hn Q q =>
  ha O σ H p n x (by omega) _ fun v H1 d1 s1 p1 r1 hd1 => hb O σ H1 p _ (x.but s1 p1) (by omega) _ fun w H2 d2 s2 p2 r2 hd2 => by
    obtain ⟨z, k1, k2⟩ := hr d1 d2 r1 r2
    refine k1 O H2 v w (but_own (but_own x.at_.own s1 p1) s2 p2) (hd1.same (but_hid s2 x.own)) hd2 Q fun y H3 s3 hd3 => q y H3 z ((s1.trans s2).trans (But.of s3)) ?_ k2 hd3
    have e : n + c1 + c2 = n + (c1 + c2) := by omega
    rw [← e]
    exact p2.same s3
theorem epa_nil : EvPA K C tNil δ 0 (fun ds => ds = []) := fun O σ H p n x hn Q q => q [] H [] (But.refl p H) x.purse rfl .nil
theorem epa_cons {Rs : List D → Prop} (ha : EvP K C ta δ c1 R1) (hr : EvPA K C tr δ c2 Rs) : EvPA K C (tCons ta tr) δ (c1 + c2) (fun ds => ∃ d es, ds = d :: es ∧ R1 d ∧ Rs es) := fun O σ H p n x hn Q q =>
  ha O σ H p n x (by omega) _ fun v H1 d1 s1 p1 r1 hd1 => hr O σ H1 p _ (x.but s1 p1) (by omega) _ fun vs H2 d2 s2 p2 r2 hd2 =>
    q _ H2 (d1 :: d2) (s1.trans s2) (by rw [← Nat.add_assoc]; exact p2) ⟨d1, d2, rfl, r1, r2⟩ (.cons (hd1.same (but_hid s2 x.own)) hd2)
theorem epa_imp {Rs Rs' : List D → Prop} (h : EvPA K C tr δ c Rs) (g : ∀ d, Rs d → Rs' d) (hc : c ≤ c1) : EvPA K C tr δ c1 Rs' := fun O σ H p n x hn Q q => h O σ H p n x (by omega) Q fun v H' d s pu r hd => q v H' d s (pu.mono (by omega)) (g d r) hd
/-- a draw -/
theorem ep_draw {E : XK} {m : Int} (h : EvD K C te δ (.int m)) (h0 : 0 < m) (h1 : m < 1000000) : EvP K C (tCall spDraw [] E (tCons (tVar 0) (tCons te tNil))) δ 1 (fun d => ∃ i, d = .int i ∧ 0 ≤ i ∧ i < m) := fun O σ H p n x hn Q q =>
  ⟨_, x.slot, h O σ H x.at_ _ fun v H1 s1 d1 => by
    rw [dat_int.mp d1]
    exact ⟨p, n, m, rfl, x.purse.same s1, by omega, h0, h1, fun i H' i0 i1 b pu => q _ H' (.int i) ((But.of s1).trans b) pu ⟨i, rfl, i0, i1⟩ (dat_int.mpr rfl)⟩⟩
/-- a built-in's call -/
theorem ep_cb {r : List V → Hp → VK → Prop} {Rs : List D → Prop} (ha : EvPA K C tr δ c Rs) (hr : ∀ ds, Rs ds → ∃ z, RCD K C r ds z ∧ R z) : EvP K C (tCB r tr) δ c R := fun O σ H p n x hn Q q =>
  ha O σ H p n x hn _ fun vs H1 ds s1 p1 r1 hd1 => by
    obtain ⟨z, k1, k2⟩ := hr ds r1
    exact k1 O H1 vs (but_own x.at_.own s1 p1) hd1 Q fun y H3 s3 hd3 => q y H3 z (s1.trans (But.of s3)) (p1.same s3) k2 hd3
theorem RCN.toD {r : List V → Hp → VK → Prop} {ds : List D} (h : RCN K C r ds z) : RCD K C r ds z := fun O H vs o hd Q q => h O H vs o hd Q fun p H' s _ hd' => q _ H' s hd'
theorem R2N.toD {r : L2.R2} (h : R2N K C r d e z) : R2D K C r d e z := fun O H x y o hx hy Q q => h O H x y o hx hy Q fun p H' s _ hd' => q _ H' s hd'
/-- a list of drawn things -/
theorem ep_lst {Rs : List D → Prop} (ha : EvPA K C tr δ c Rs) (hl : ∀ ds, Rs ds → ds.length ≤ 100000) : EvP K C (tLst tr) δ c (fun d => ∃ ds, d = .lst ds ∧ Rs ds) := fun O σ H p n x hn Q q =>
  ha O σ H p n x hn _ fun vs H1 ds s1 p1 r1 hd1 => ⟨by rw [hd1.length]; exact Nat.le_trans (hl ds r1) (by decide), fun l hl => by
    have o1 := but_own x.at_.own s1 p1
    exact q _ _ (.lst ds) (s1.trans (But.of (same_new hl))) (p1.same (same_new hl)) ⟨ds, rfl, r1⟩ (new_lst o1 hl hd1)⟩
theorem epi_of {ti : TI} {ds : List D} (h : EvI K C ti δ ds) : EvPI K C ti δ 0 (fun x => x = ds) := fun O σ H p n x hn Z q => h O σ H x.at_ Z fun J H' s w => q J H' ds (But.of s) (x.purse.same s) rfl w
theorem epi_rng1 (h : EvP K C ta δ c (fun d => ∃ i, d = .int i ∧ R1 (.int i))) (hb : ∀ i, R1 (.int i) → -(2 ^ 62) ≤ i ∧ i < 2 ^ 62) : EvPI K C (iRng1 (tCons ta tNil)) δ c (fun ds => ∃ i, ds = rngD 0 i.toNat ∧ R1 (.int i)) := fun O σ H p n x hn Z q =>
  h O σ H p n x hn _ fun v H1 d s1 p1 r1 hd => by
    obtain ⟨i, rfl, ri⟩ := r1
    rw [dat_int.mp hd]
    exact ⟨i, rfl, (hb i ri).1, (hb i ri).2, q _ H1 _ s1 p1 ⟨i, rfl, ri⟩ walk_rng⟩
/-- items left out (where the test may say so), or given out as Re tells -/
inductive Picks {α : Type} (B : Bool → Prop) (Re : α → D → Prop) : List α → List D → Prop where
  | nil : Picks B Re [] []
  | skip {a : α} {as : List α} {ds : List D} : Picks B Re as ds → B false → Picks B Re (as ++ [a]) ds
  | take {a : α} {as : List α} {ds : List D} {d : D} : Picks B Re as ds → Re a d → Picks B Re (as ++ [a]) (ds ++ [d])
theorem Picks.len {α : Type} {B : Bool → Prop} {Re : α → D → Prop} {as : List α} {ds : List D} (h : Picks B Re as ds) : ds.length ≤ as.length := by
  induction h with
  | nil => exact Nat.le_refl _
  | skip _ _ ih => rw [List.length_append]; omega
  | take _ _ ih => rw [List.length_append, List.length_append]; exact Nat.add_le_add ih (Nat.le_refl _)
/-- a comprehension whose tests or elements draw; every turn draws at most c2 -/
theorem ep_lc {α : Type} {B : Bool → Prop} {Re : α → D → Prop} {g0 : α → D} {δi : α → Dl} {wi : TI} {g : TG} {tt : TT} {vs : List Nat} {Rs : List α → Prop} (hI : EvPI K C wi δ c1 (fun ds => ∃ as, ds = as.map g0 ∧ Rs as)) (h0 : 0 ∉ vs) (N : Nat) (hN : ∀ as, Rs as → as.length ≤ N) (hN2 : N ≤ 100000)
    (hG : ∀ as, Rs as → ∀ a ∈ as, EvG K C g vs (wipeD δ vs) (g0 a) (δi a)) 
    {ct ce : Nat} (hT : ∀ as, Rs as → ∀ a ∈ as, EvPT K C tt (δi a) ct B) (hE : ∀ as, Rs as → ∀ a ∈ as, EvP K C te (δi a) ce (Re a)) : EvP K C (tLc wi g tt te vs) δ (c1 + N * (ct + ce)) (fun d => ∃ as ds, d = .lst ds ∧ Rs as ∧ Picks B Re as ds) := fun O σ H p n x hn Q q => by
  refine hI O σ H p n x (by omega) _ fun J H1 ds0 s1 p1 r1 w Da hD => ?_
  obtain ⟨as, rfl, hR⟩ := r1
  have x1 := x.but s1 p1
  have hL := hN as hR
  have np : Da ≠ p := fun z => by rw [z] at hD; exact p1.some hD
  have key : ∀ H2, But p H1 H2 → Same (hid O H1) (hid (addO O Da) H2) := fun H2 s => (add_fresh hD).trans (but_hid s (by unfold addO; rw [x.own]; rfl))
  have opx : addO O Da p = true := by unfold addO; rw [x.own]; rfl
  refine ⟨fun i m H2 => m = as.length - i ∧ i ≤ as.length ∧ But p H1 H2 ∧ PurseIs (n + c1 + i * (ct + ce)) H2 p ∧ ∃ acc ds, H2 Da = some (.lst acc) ∧ Picks B Re (as.take i) ds ∧ Dats K C (hid (addO O Da) H2) ds acc,
    ⟨as.length, by omega, Nat.zero_le _, But.of (same_new hD), by rw [Nat.zero_mul]; exact p1.same (same_new hD), [], [], upd_same, by rw [List.take_zero]; exact .nil, .nil⟩, ?_⟩
  rintro i m H2 ⟨rfl, hi, s2, p2, acc, ds, ha, hpk, hacc⟩
  have o2 : OIn (addO O Da) H2 := (but_own x1.at_.own s2 p2).add ⟨_, ha, trivial⟩
  have wl : (as.map g0).length = as.length := List.length_map _
  by_cases hlt : i < as.length
  · have hia : as[i]? = some as[i] := by simp [hlt]
    have hmem : as[i] ∈ as := List.getElem_mem hlt
    have hb : (i + 1) * (ct + ce) ≤ N * (ct + ce) := Nat.mul_le_mul_right _ (by omega)
    have hb2 : (i + 1) * (ct + ce) = i * (ct + ce) + (ct + ce) := Nat.succ_mul _ _
    refine .inr ⟨w.go _ i H2 (key H2 s2) o2 (by rw [wl]; exact hlt), fun H3 => i + 1 ≤ as.length ∧ But p H1 H3 ∧ PurseIs (n + c1 + (i + 1) * (ct + ce)) H3 p ∧ ∃ acc ds, H3 Da = some (.lst acc) ∧ Picks B Re (as.take (i + 1)) ds ∧ Dats K C (hid (addO O Da) H3) ds acc,
      fun H' hN => ⟨_, by omega, rfl, hN⟩, fun y H3 hy => ?_⟩
    obtain ⟨s3, d3⟩ := w.yld _ i H2 y H3 (g0 as[i]) (key H2 s2) o2 (by rw [List.getElem?_map, hia]; rfl) hy
    have s13 := s2.trans (But.of s3)
    have n3 : At K C (addO O Da) H3 (L2.wipe σ vs) (wipeD δ vs) := ⟨o2.same s3, (x1.at_.env.same (key H3 s13)).wipe vs⟩
    refine hG as hR _ hmem _ _ _ _ n3 d3 _ fun σ4 hw n4 => ⟨by rw [hw, wipe_wipe], ?_⟩
    have slot4 : σ4[0]? = some (some (.ref p)) := by
      have e1 := congrArg (fun s : L2.St => s[0]?) hw
      simp only [wipe_get] at e1
      rw [if_neg (fun q => h0 q.1), if_neg (fun q => h0 q.1), if_neg (fun q => h0 q.1)] at e1
      rw [e1]
      exact x.slot
    have x4 : AtP K C (addO O Da) H3 σ4 (δi as[i]) p (n + c1 + i * (ct + ce)) := ⟨n4, opx, p2.same s3, slot4⟩
    refine hT as hR _ hmem _ _ _ _ _ x4 (by omega) _ fun b H5 s5 p5 hb5 => ?_
    have ht : as.take (i + 1) = as.take i ++ [as[i]] := List.take_succ_eq_append_getElem hlt
    have s25 : But p H2 H5 := (But.of s3).trans s5
    cases b with
    | false =>
      refine iteF ⟨hlt, s2.trans s25, p5.mono (by omega), acc, ds, s25 _ _ np ha, by rw [ht]; exact .skip hpk hb5, hacc.same (but_hid s25 opx)⟩
    | true =>
      refine iteT (hE as hR _ hmem _ _ _ _ _ (x4.but s5 p5) (by omega) _ fun v H6 d6 s6 p6 r6 hd6 => ?_)
      have s26 := s25.trans s6
      have hl2 : acc.length ≤ as.length := by
        rw [hacc.length]
        exact Nat.le_trans hpk.len (by rw [List.length_take]; omega)
      refine ⟨acc, s26 _ _ np ha, Nat.lt_of_le_of_lt (Nat.le_trans hl2 (Nat.le_trans hL hN2)) (by decide), hlt, fun a u na ea => ?_, (p6.mono (by omega)).upd np, _, ds ++ [d6], upd_same, by rw [ht]; exact .take hpk r6, ?_⟩
      · rw [upd_ne (ne_of_none ea hD)]
        exact s2.trans s26 a u na ea
      · rw [add_upd]
        exact (hacc.same (but_hid s26 opx)).append (.one hd6)
  · have e : i = as.length := by omega
    subst e
    refine .inl ⟨by rw [← wl]; exact w.stop _ H2 (key H2 s2) o2, ?_⟩
    rw [List.take_length] at hpk
    have hb : as.length * (ct + ce) ≤ N * (ct + ce) := Nat.mul_le_mul_right _ hL
    refine q _ _ (.lst ds) (s1.trans s2) (p2.mono (by omega)) ⟨as, ds, rfl, hR, hpk⟩ (dat_lst_iff.mpr ⟨Da, acc, rfl, ?_, hacc.same add_le⟩)
    unfold hid
    rw [if_neg (fun z => x1.at_.own Da z hD)]
    exact ha
theorem ept_d {tt : TT} {b : Bool} (h : EvT K C tt δ b) : EvPT K C tt δ 0 (fun x => x = b) := fun O σ H p n x hn Q q => h O σ H x.at_ Q fun H' s => q b H' (But.of s) (x.purse.same s) rfl
theorem ept_test (h : EvP K C te δ c (fun d => ∃ b, d = .bl b)) : EvPT K C (tTest te) δ c (fun _ => True) := fun O σ H p n x hn Q q => h O σ H p n x hn _ fun v H' d s pu r hd => by
  obtain ⟨b, rfl⟩ := r
  exact ⟨b, dat_bl.mp hd, q b H' s pu True.intro⟩
theorem ep_if {tt : TT} {B : Bool → Prop} (h : EvPT K C tt δ c1 B) (h1 : EvP K C ta δ c2 R) (h2 : EvP K C tb δ c2 R) : EvP K C (tIf tt ta tb) δ (c1 + c2) R := fun O σ H p n x hn Q q => h O σ H p n x (by omega) _ fun b H' s pu _ => by
  have e : n + c1 + c2 = n + (c1 + c2) := by omega
  cases b with
  | true => exact h1 O σ H' p _ (x.but s pu) (by omega) Q fun v H2 d s2 p2 r hd => q v H2 d (s.trans s2) (by rw [← e]; exact p2) r hd
  | false => exact h2 O σ H' p _ (x.but s pu) (by omega) Q fun v H2 d s2 p2 r hd => q v H2 d (s.trans s2) (by rw [← e]; exact p2) r hd
/-- .. the test's answer is known -/
theorem ep_ifB {tt : TT} {b : Bool} (h : EvT K C tt δ b) (h1 : b = true → EvP K C ta δ c R) (h2 : b = false → EvP K C tb δ c R) : EvP K C (tIf tt ta tb) δ c R := fun O σ H p n x hn Q q => h O σ H x.at_ _ fun H' s => by
  have x' := x.but (But.of s) (x.purse.same s)
  cases b with
  | true => exact h1 rfl O σ H' p _ x' hn Q fun v H2 d s2 p2 r hd => q v H2 d ((But.of s).trans s2) p2 r hd
  | false => exact h2 rfl O σ H' p _ x' hn Q fun v H2 d s2 p2 r hd => q v H2 d ((But.of s).trans s2) p2 r hd
/-! statements -/
variable {ts ts' : TS} {tt : TT}
theorem sp_ret (h : EvP K C te δ c R) : StP K C (tRet te) δ c R := fun O σ H p n x hn Z q => h O σ H p n x hn _ fun v H' d s pu r hd => q v H' d s pu r hd
theorem sp_guard {b : Bool} (h : EvT K C tt δ b) (h1 : b = true → StP K C ts δ c R) (h2 : b = false → StP K C ts' δ c R) : StP K C (tSeq (tIfS tt ts tNext) ts') δ c R := fun O σ H p n x hn Z q => h O σ H x.at_ _ fun H' s => by
  have x' := x.but (But.of s) (x.purse.same s)
  cases b with
  | true => exact h1 rfl O σ H' p _ x' hn { Z with nx := ts' Z } fun v H2 d s2 p2 r hd => q v H2 d ((But.of s).trans s2) p2 r hd
  | false => exact h2 rfl O σ H' p _ x' hn Z fun v H2 d s2 p2 r hd => q v H2 d ((But.of s).trans s2) p2 r hd
theorem sp_set {i : Nat} (hi : i ≠ 0) (h : EvP K C te δ c1 R1) (g : ∀ d, R1 d → StP K C ts' (δ.set i (some d)) c2 R) : StP K C (tSeq (tAsg te (gName i)) ts') δ (c1 + c2) R := fun O σ H p n x hn Z q =>
  h O σ H p n x (by omega) _ fun v H' d s pu r hd => by
    have x1 := x.but s pu
    have e : n + c1 + c2 = n + (c1 + c2) := by omega
    exact g d r O _ H' p _ ⟨⟨x1.at_.own, x1.at_.env.set i hd⟩, x1.own, x1.purse, by rw [List.getElem?_set_ne hi]; exact x1.slot⟩ (by omega) Z fun v2 H2 d2 s2 p2 r2 hd2 => q v2 H2 d2 (s.trans s2) (by rw [← e]; exact p2) r2 hd2
theorem sp_imp (h : StP K C ts δ c R) (g : ∀ d, R d → R1 d) (hc : c ≤ c1) : StP K C ts δ c1 R1 := fun O σ H p n x hn Z q => h O σ H p n x (by omega) Z fun v H' d s pu r hd => q v H' d s (pu.mono (by omega)) (g d r) hd
end
/-- a def that draws: its purse first -/
def SpP (K : PySem.W.Frag) (C : Addr) (pre : List D → Prop) (c : Nat) (R : List D → D → Prop) (m : Nat) : Sp := fun vs H Q _ => vs.length = m + 1 ∧ ∃ O p n ds ws, vs = .ref p :: ws ∧ OIn O H ∧ O p = true ∧ PurseIs n H p ∧ n + c ≤ 1000000 ∧ Dats K C (hid O H) ds ws ∧ pre ds ∧
  ∀ v H' d, But p H H' → PurseIs (n + c) H' p → R ds d → Dat K C (hid O H') d v → Q v H'
section
variable {K : PySem.W.Frag} {C : Addr} {δ : Dl} {tr : TA} {ds : List D}
theorem ep_call {pre : List D → Prop} {c m : Nat} {R : List D → D → Prop} {E : XK} (ha : EvA K C tr δ ds) (hn : ds.length = m) (hp : pre ds) : EvP K C (tCall (SpP K C pre c R m) [] E (tCons (tVar 0) tr)) δ c (R ds) := fun O σ H p n x hn2 Q q =>
  ⟨_, x.slot, ha O σ H x.at_ _ fun vs H1 s1 d1 => by
    show SpP K C pre c R m ((V.ref p :: vs) ++ []) H1 Q E
    rw [List.append_nil]
    exact ⟨by rw [List.length_cons, d1.length, hn], O, p, n, ds, vs, rfl, x.at_.own.same s1, x.own, x.purse.same s1, hn2, d1, hp, fun v H' d b pu r hd => q v H' d ((But.of s1).trans b) pu r hd⟩⟩
/-- .. whose other arguments draw, too -/
theorem ep_callP {pre : List D → Prop} {c1 c2 m : Nat} {Rs : List D → Prop} {R : List D → D → Prop} {E : XK} (ha : EvPA K C tr δ c1 Rs) (hp : ∀ ds, Rs ds → ds.length = m ∧ pre ds) : EvP K C (tCall (SpP K C pre c2 R m) [] E (tCons (tVar 0) tr)) δ (c1 + c2) (fun d => ∃ ds, Rs ds ∧ R ds d) := fun O σ H p n x hn2 Q q =>
  ⟨_, x.slot, ha O σ H p n x (by omega) _ fun vs H1 ds s1 p1 r1 d1 => by
    show SpP K C pre c2 R m ((V.ref p :: vs) ++ []) H1 Q E
    rw [List.append_nil]
    obtain ⟨e1, e2⟩ := hp ds r1
    have e : n + c1 + c2 = n + (c1 + c2) := by omega
    exact ⟨by rw [List.length_cons, d1.length, e1], O, p, n + c1, ds, vs, rfl, but_own x.at_.own s1 p1, x.own, p1, by omega, d1, e2, fun v H' d b pu r hd => q v H' d (s1.trans b) (by rw [← e]; exact pu) ⟨ds, r1, r⟩ hd⟩⟩
end
section
open PyProof.Rows
variable {P : Program} {w : World} {K : PySem.W.Frag} {C : Addr} {mg : Str → Option Value} {base : Heap} {x : Str} {k : Nat} {ps N : List Str} {st : Stmt} {fa : Addr} {fd : FuncData} {pre : List D → Prop} {c m : Nat} {R : List D → D → Prop}
theorem okP (F : DefAt K mg x ps st fa fd) (S : FnScope N ps (defScope st)) (hm : ps.length = m + 1)
    (hbody : ∀ (cdv : Value) (A : Around) (outer : List Env) (s : Shared) (H : Hp) (E : XK), Room k (A.deeper (envOfC x (defScope st) s.heap.objs.size fa cdv)) →
      ∃ t, PSs (cxOf CX0 P w K mg base N x (defScope st) fa cdv A outer s H E).nox (defBody st) t ∧ ∀ ds, pre ds → ds.length = m → StP K C t (none :: (ds.map some ++ List.replicate (N.length - (m + 1)) none)) c (R ds)) : DefOk P w K mg base x (k + 1) ps (SpP K C pre c R m) := by
  refine F.ok S (fun vs H Q E h => by rw [h.1, hm]) (fun cdv A outer s H vs Q E hr h => ?_)
  obtain ⟨t, h1, h2⟩ := hbody cdv A outer s H E hr
  obtain ⟨hl, O, p, n, ds, ws, rfl, o, op, pu, hn, hd, hp, hq⟩ := h
  have hlm : ds.length = m := by rw [← hd.length]; simpa using hl
  refine ⟨t, h1, h2 ds hp hlm O _ H p n ⟨⟨o, ?_, fun i d e => ?_⟩, op, pu, ?_⟩ hn _ fun v H' d b pu r hd => hq v H' d b pu r hd⟩
  · have e := (at_start (N := N) o (Dats.cons (d := .raw (.ref p)) (dat_raw.mpr rfl) hd)).env.1
    rw [e]
    unfold startD
    simp only [List.length_append, List.length_cons, List.length_map, List.length_replicate, hlm]
    omega
  · have a := at_start (N := N) o (Dats.cons (d := .raw (.ref p)) (dat_raw.mpr rfl) hd)
    cases i with
    | zero => cases e
    | succ i =>
      refine a.env.2 (i + 1) d ?_
      unfold startD
      rw [List.map_cons, List.cons_append, List.getElem?_cons_succ, List.length_cons, hlm]
      exact e
  · unfold L2.start
    rfl
end
end Zm


set_option Elab.async false
set_option linter.all false
set_option maxRecDepth 100000
set_option maxHeartbeats 4000000
set_option autoImplicit false
namespace Zm
open PySem PySem.Spec L2

section
variable {X : Cx} {a b : Expr} {ta tb : TE} {p pos p2 pos2 : Pos}
theorem c_listRg1 (bf : BFree X.mg) (ha : PE X a ta) (hg : Gl X "list" := by rfl) (hg2 : Gl X "range" := by rfl) (hc : X.calm = true := by rfl) (na : starEach [a] X.env = (false, eval a X.env) :: starEach [] X.env := by rfl)
    (na2 : starEach [(Expr.Call (.Name "range" p2) [a] [] pos2)] X.env = (false, eval (Expr.Call (.Name "range" p2) [a] [] pos2) X.env) :: starEach [] X.env := by rfl) :
    PE X (.Call (.Name "list" p) [.Call (.Name "range" p2) [a] [] pos2] [] pos) (tLstRg (tRg1 ta)) := pe_listRg hc hg (bf _ (by decide)) (prg_1 hg2 (bf _ (by decide)) ha na) na2
theorem c_listRg2 (bf : BFree X.mg) (ha : PE X a ta) (hb : PE X b tb) (hg : Gl X "list" := by rfl) (hg2 : Gl X "range" := by rfl) (hc : X.calm = true := by rfl) (na : starEach [a, b] X.env = (false, eval a X.env) :: starEach [b] X.env := by rfl)
    (nb : starEach [b] X.env = (false, eval b X.env) :: starEach [] X.env := by rfl) (hp : (backTo pos2 (starEach [b] X.env)).any (·.1) = false := by rfl)
    (na2 : starEach [(Expr.Call (.Name "range" p2) [a, b] [] pos2)] X.env = (false, eval (Expr.Call (.Name "range" p2) [a, b] [] pos2) X.env) :: starEach [] X.env := by rfl) :
    PE X (.Call (.Name "list" p) [.Call (.Name "range" p2) [a, b] [] pos2] [] pos) (tLstRg (tRg2 ta tb)) := pe_listRg hc hg (bf _ (by decide)) (prg_2 hg2 (bf _ (by decide)) ha hb na nb hp) na2
end
/-- a, a + 1, .. below b -/
def rgI (a b : Int) : List Int := (List.range (b - a).toNat).map fun (i : Nat) => a + (i : Int)
theorem rgV_map (a b : Int) : rgV a b = (rgI a b).map V.int := by
  unfold rgV rgI
  rw [List.map_map]
  rfl
section
variable {K : PySem.W.Frag} {C : Addr} {δ : Dl} {ta tb te : TE} {c1 c2 : Nat} {R R1 R2 : D → Prop}
theorem en_listRg1 {j : Int} (h : EvD K C ta δ (.int j)) (ok : RgOk 0 j) : EvN K C (tLstRg (tRg1 ta)) δ (.lst (dI (rgI 0 j))) := fun O σ H n Q q => h O σ H n _ fun v H1 s1 d1 => by
  refine ⟨j, dat_int.mp d1, ok, fun p hp => ?_⟩
  rw [rgV_map]
  exact q p _ (s1.trans (same_new hp)) (back_none s1 hp) (new_lst (n.same s1).own hp (dats_ints.mpr rfl))
theorem en_listRg2 {i j : Int} (h : EvD K C ta δ (.int i)) (h2 : EvD K C tb δ (.int j)) (ok : RgOk i j) : EvN K C (tLstRg (tRg2 ta tb)) δ (.lst (dI (rgI i j))) := fun O σ H n Q q => h O σ H n _ fun v H1 s1 d1 => h2 O σ H1 (n.same s1) _ fun w H2 s2 d2 => by
  refine ⟨i, j, dat_int.mp d1, dat_int.mp d2, ok, fun p hp => ?_⟩
  rw [rgV_map]
  have s12 := s1.trans s2
  exact q p _ (s12.trans (same_new hp)) (back_none s12 hp) (new_lst (n.same s12).own hp (dats_ints.mpr rfl))
theorem ep_listRg2 (h : EvP K C ta δ c1 (fun d => ∃ i, d = .int i ∧ R1 (.int i))) (h2 : EvP K C tb δ c2 (fun d => ∃ i, d = .int i ∧ R2 (.int i))) (hk : ∀ i j, R1 (.int i) → R2 (.int j) → RgOk i j) :
    EvP K C (tLstRg (tRg2 ta tb)) δ (c1 + c2) (fun d => ∃ i j, d = .lst (dI (rgI i j)) ∧ R1 (.int i) ∧ R2 (.int j)) := fun O σ H p n x hn Q q => h O σ H p n x (by omega) _ fun v H1 d1 s1 p1 r1 hd1 => h2 O σ H1 p _ (x.but s1 p1) (by omega) _ fun w H2 d2 s2 p2 r2 hd2 => by
  obtain ⟨i, rfl, r1⟩ := r1
  obtain ⟨j, rfl, r2⟩ := r2
  refine ⟨i, j, dat_int.mp hd1, dat_int.mp hd2, hk i j r1 r2, fun l hl => ?_⟩
  rw [rgV_map]
  have o2 := but_own (but_own x.at_.own s1 p1) s2 p2
  have e : n + c1 + c2 = n + (c1 + c2) := by omega
  exact q _ _ (.lst (dI (rgI i j))) ((s1.trans s2).trans (But.of (same_new hl))) (by rw [← e]; exact p2.same (same_new hl)) ⟨i, j, rfl, r1, r2⟩ (new_lst o2 hl (dats_ints.mpr rfl))
/-- a comprehension over range(n), its tests or elements drawing -/
theorem ep_lcR {i : Nat} {B : Bool → Prop} {tt : TT} {vs : List Nat} {Re : Nat → D → Prop} {n : Int} {N ct ce : Nat} (h : EvD K C ta δ (.int n)) (h0 : 0 ∉ vs) (hi : i ∈ vs) (hN : n.toNat ≤ N) (hN2 : N ≤ 100000) (hn : 0 ≤ n)
    (hT : ∀ k : Nat, k < n.toNat → EvPT K C tt ((wipeD δ vs).set i (some (.int (0 + (k : Int))))) ct B) (hE : ∀ k : Nat, k < n.toNat → EvP K C te ((wipeD δ vs).set i (some (.int (0 + (k : Int))))) ce (Re k)) :
    EvP K C (tLc (iRng1 (tCons ta tNil)) (gName i) tt te vs) δ (N * (ct + ce)) (fun d => ∃ ds, d = .lst ds ∧ Picks B Re (List.range n.toNat) ds) := by
  refine ep_imp (ep_lc (B := B) (c1 := 0) (ct := ct) (ce := ce) (Re := Re) (g0 := fun (k : Nat) => D.int (0 + (k : Int))) (δi := fun k => (wipeD δ vs).set i (some (.int (0 + (k : Int))))) (Rs := fun as => as = List.range n.toNat) (N := N) (fun O σ H p m x hm Z q => ?_) h0 (fun as h => by rw [h, List.length_range]; exact hN) hN2
    (fun as h a ha => eg_name hi) (fun as h a ha => hT a (by rw [h] at ha; exact List.mem_range.mp ha)) (fun as h a ha => hE a (by rw [h] at ha; exact List.mem_range.mp ha))) (fun d h => ?_) (by omega)
  · exact epi_of (ei_rng1 (ea_cons h ea_nil) (by omega) (by omega)) O σ H p m x hm Z fun J H' ds' b pu e w => q J H' ds' b pu ⟨_, e, rfl⟩ w
  · obtain ⟨as, ds, e, rfl, hp⟩ := h
    exact ⟨ds, e, hp⟩
/-- a drawn number beside a written one -/
theorem ep_dr {E : XK} {m : Int} (h0 : 0 < m) (h1 : m < 1000000) : EvP K C (tCall spDraw [] E (tCons (tVar 0) (tCons (tC (.int m)) tNil))) δ 1 (fun d => ∃ i, d = .int i ∧ 0 ≤ i ∧ i < m) := ep_draw ev_int h0 h1
theorem ept_drEq {E : XK} {m z : Int} (h0 : 0 < m) (h1 : m < 1000000) : EvPT K C (tTest (tOp (rEqD K) (tCall spDraw [] E (tCons (tVar 0) (tCons (tC (.int m)) tNil))) (tC (.int z)))) δ 1 (fun _ => True) :=
  ept_test (ep_op (ep_dr h0 h1) (ep_d ev_int) fun d e r1 r2 => by
    obtain ⟨i, rfl, _⟩ := r1
    subst r2
    exact ⟨_, r2_eq shp_int shp_int, _, rfl⟩)
theorem ept_drGt {E : XK} {m z : Int} (h0 : 0 < m) (h1 : m < 1000000) : EvPT K C (tTest (tOp (rI0 fun i j => .bl (decide (j < i))) (tCall spDraw [] E (tCons (tVar 0) (tCons (tC (.int m)) tNil))) (tC (.int z)))) δ 1 (fun _ => True) :=
  ept_test (ep_op (ep_dr h0 h1) (ep_d ev_int) fun d e r1 r2 => by
    obtain ⟨i, rfl, _⟩ := r1
    subst r2
    exact ⟨_, r2_Ib, _, rfl⟩)
end
/-! ### rows -/
/-- a row of needs over so many old blocks -/
def RowOk (old : Int) (ns : List Int) : Prop := ns.Pairwise (· < ·) ∧ ∀ x ∈ ns, 0 ≤ x ∧ x < old
theorem range_up (lo : Int) (n : Nat) : ((List.range n).map fun (k : Nat) => lo + (k : Int)).Pairwise (· < ·) := by
  rw [List.pairwise_map]
  exact List.pairwise_lt_range.imp (fun h => by omega)
theorem picks_sub {α : Type} {g : α → Int} {as : List α} {ds : List D} {B : Bool → Prop} (h : Picks B (fun k d => d = .int (g k)) as ds) : ∃ ns, ds = dI ns ∧ ns.Sublist (as.map g) := by
  induction h with
  | nil => exact ⟨[], rfl, List.Sublist.refl _⟩
  | @skip a as ds _ _ ih =>
    obtain ⟨ns, rfl, h2⟩ := ih
    refine ⟨ns, rfl, ?_⟩
    rw [List.map_append]
    exact h2.trans (List.sublist_append_left _ _)
  | @take a as ds d _ e ih =>
    obtain ⟨ns, rfl, h2⟩ := ih
    subst e
    refine ⟨ns ++ [g a], by unfold dI; rw [List.map_append]; rfl, ?_⟩
    rw [List.map_append]
    exact h2.append (List.Sublist.refl _)
theorem rowOk_sub {old : Int} {n : Nat} {ns : List Int} (h0 : (n : Int) = old) (h : ns.Sublist ((List.range n).map fun (k : Nat) => (0 : Int) + (k : Int))) : RowOk old ns := by
  refine ⟨(range_up 0 n).sublist h, fun x hx => ?_⟩
  have h1 := h.subset hx
  rw [List.mem_map] at h1
  obtain ⟨k, hk, rfl⟩ := h1
  have h2 := List.mem_range.mp hk
  omega
theorem rowOk_rg {old i j : Int} (h0 : 0 ≤ i) (h1 : j ≤ old) : RowOk old (rgI i j) := by
  unfold rgI
  refine ⟨range_up i _, fun x hx => ?_⟩
  rw [List.mem_map] at hx
  obtain ⟨k, hk, rfl⟩ := hx
  have h2 := List.mem_range.mp hk
  omega
theorem srt_lt {ns : List Int} (h : ns.Nodup) : (srt ns).Pairwise (· < ·) := by
  have h1 := srt_le ns
  have h2 : (srt ns).Nodup := (srt_perm ns).nodup_iff.mpr h
  exact (List.pairwise_and_iff.mpr ⟨h1, h2⟩).imp (fun q => by have := q.1; have := q.2; omega)
/-! keys of dicts that are made of pairs -/
section
variable {K : PySem.W.Frag}
theorem putD_any (kvs : List (Key × D)) (k : Key) : ((kvs.any fun p => decide (p.1 = k)) = true) ↔ k ∈ kvs.map (·.1) := by
  simp only [List.any_eq_true, decide_eq_true_eq, List.mem_map]
theorem putD_old {kvs : List (Key × D)} {k : Key} (v : D) (h : k ∈ kvs.map (·.1)) : (putD kvs k v).map (·.1) = kvs.map (·.1) := by
  unfold putD
  rw [if_pos ((putD_any kvs k).mpr h), List.map_map]
  apply List.map_congr_left
  intro p _
  show (if p.1 = k then (p.1, v) else p).1 = p.1
  split <;> rfl
theorem putD_new {kvs : List (Key × D)} {k : Key} (v : D) (h : k ∉ kvs.map (·.1)) : (putD kvs k v).map (·.1) = kvs.map (·.1) ++ [k] := by
  unfold putD
  rw [if_neg (fun q => h ((putD_any kvs k).mp q)), List.map_append]
  rfl
theorem mergeD_keys : ∀ (more kvs : List (Key × D)), (kvs.map (·.1)).Nodup → ((mergeD kvs more).map (·.1)).Nodup ∧ ∀ k, k ∈ (mergeD kvs more).map (·.1) ↔ k ∈ kvs.map (·.1) ∨ k ∈ more.map (·.1)
  | [], kvs, h => ⟨h, fun k => by
    show k ∈ kvs.map (·.1) ↔ _
    simp⟩
  | (j, v) :: more, kvs, h => by
    by_cases hj : j ∈ kvs.map (·.1)
    · have e := putD_old v hj
      obtain ⟨h1, h2⟩ := mergeD_keys more (putD kvs j v) (by rw [e]; exact h)
      refine ⟨h1, fun k => ?_⟩
      show k ∈ (mergeD (putD kvs j v) more).map (·.1) ↔ _
      rw [h2 k, e, List.map_cons, List.mem_cons]
      constructor
      · rintro (a | a)
        · exact .inl a
        · exact .inr (.inr a)
      · rintro (a | a | a)
        · exact .inl a
        · subst a
          exact .inl hj
        · exact .inr a
    · have e := putD_new v hj
      have hn : (kvs.map (·.1) ++ [j]).Nodup := by
        rw [List.nodup_append]
        refine ⟨h, by simp, fun a ha b hb => ?_⟩
        rw [List.mem_singleton] at hb
        subst hb
        intro q
        subst q
        exact hj ha
      obtain ⟨h1, h2⟩ := mergeD_keys more (putD kvs j v) (by rw [e]; exact hn)
      refine ⟨h1, fun k => ?_⟩
      show k ∈ (mergeD (putD kvs j v) more).map (·.1) ↔ _
      rw [h2 k, e, List.map_cons, List.mem_cons, List.mem_append, List.mem_singleton]
      constructor
      · rintro ((a | a) | a)
        · exact .inl a
        · exact .inr (.inl a)
        · exact .inr (.inr a)
      · rintro (a | a | a)
        · exact .inl (.inl a)
        · exact .inl (.inr a)
        · exact .inr a
theorem putD_len (kvs : List (Key × D)) (k : Key) (v : D) : (putD kvs k v).length ≤ kvs.length + 1 := by
  unfold putD
  split
  · rw [List.length_map]
    omega
  · rw [List.length_append]
    exact Nat.le_refl _
theorem mergeD_len : ∀ (more kvs : List (Key × D)), (mergeD kvs more).length ≤ kvs.length + more.length
  | [], kvs => Nat.le_refl _
  | (j, v) :: more, kvs => by
    have h1 := mergeD_len more (putD kvs j v)
    have h2 := putD_len kvs j v
    show (mergeD (putD kvs j v) more).length ≤ _
    rw [List.length_cons]
    omega
/-- the pairs (n, True) -/
def trues (ns : List Int) : List (Key × D) := ns.map fun n => (Sum.inl n, D.bl true)
/-- the ints of keys -/
theorem keys_ints : ∀ {ks : List Key}, (∀ k ∈ ks, ∃ i, k = Sum.inl i) → ∃ is : List Int, ks = is.map Sum.inl
  | [], _ => ⟨[], rfl⟩
  | k :: ks, h => by
    obtain ⟨i, rfl⟩ := h k (List.mem_cons_self ..)
    obtain ⟨is, rfl⟩ := keys_ints (ks := ks) fun j hj => h j (List.mem_cons_of_mem _ hj)
    exact ⟨i :: is, rfl⟩
/-- the ascending list without doubles that sorted(dict([(n, True) ..])) gives -/
theorem trues_keys (ns : List Int) : ∃ is : List Int, (mergeD [] (trues ns)).map (·.1) = is.map Sum.inl ∧ is.Nodup ∧ is.length ≤ ns.length ∧ ∀ i, i ∈ is ↔ i ∈ ns := by
  obtain ⟨h1, h2⟩ := mergeD_keys (trues ns) [] List.nodup_nil
  have e : (trues ns).map (·.1) = ns.map Sum.inl := by
    unfold trues
    rw [List.map_map]
    rfl
  rw [e] at h2
  obtain ⟨is, hi⟩ := keys_ints (ks := (mergeD [] (trues ns)).map (·.1)) fun k hk => by
    rcases (h2 k).mp hk with q | q
    · cases q
    · obtain ⟨i, _, rfl⟩ := List.mem_map.mp q
      exact ⟨i, rfl⟩
  refine ⟨is, hi, ?_, ?_, fun i => ?_⟩
  rotate_left
  · have h3 := mergeD_len (trues ns) []
    have h4 := congrArg List.length hi
    rw [List.length_map, List.length_map] at h4
    have h5 : (trues ns).length = ns.length := by unfold trues; rw [List.length_map]
    rw [← h4]
    rw [h5] at h3
    simpa using h3
  rotate_left
  · rw [hi] at h1
    have h3 : (is.map Sum.inl : List Key).Pairwise (· ≠ ·) := h1
    rw [List.pairwise_map] at h3
    exact h3.imp (fun q z => q (by rw [z]))
  · have h3 := h2 (Sum.inl i)
    rw [hi] at h3
    have e1 : (Sum.inl i : Key) ∈ is.map Sum.inl ↔ i ∈ is := by
      constructor
      · intro h
        obtain ⟨j, hj, q⟩ := List.mem_map.mp h
        rw [← Sum.inl.inj q]
        exact hj
      · exact fun h => List.mem_map.mpr ⟨i, h, rfl⟩
    have e2 : (Sum.inl i : Key) ∈ ns.map Sum.inl ↔ i ∈ ns := by
      constructor
      · intro h
        obtain ⟨j, hj, q⟩ := List.mem_map.mp h
        rw [← Sum.inl.inj q]
        exact hj
      · exact fun h => List.mem_map.mpr ⟨i, h, rfl⟩
    rw [← e1, h3, e2]
    constructor
    · rintro (q | q)
      · cases q
      · exact q
    · exact fun q => .inr q
end
section
variable {K : PySem.W.Frag} {C : Addr} {δ : Dl} {tr : TA} {c : Nat}
theorem ep_tup {Rs : List D → Prop} (ha : EvPA K C tr δ c Rs) (hl : ∀ ds, Rs ds → ds.length ≤ 100000) : EvP K C (tTup tr) δ c (fun d => ∃ ds, d = .tup ds ∧ Rs ds) := fun O σ H p n x hn Q q =>
  ha O σ H p n x hn _ fun vs H1 ds s1 p1 r1 hd1 => ⟨by rw [hd1.length]; exact Nat.le_trans (hl ds r1) (by decide), fun l hl => by
    have o1 := but_own x.at_.own s1 p1
    exact q _ _ (.tup ds) (s1.trans (But.of (same_new hl))) (p1.same (same_new hl)) ⟨ds, rfl, r1⟩ (new_tup o1 hl hd1)⟩
theorem picks_trues {α : Type} {B : Bool → Prop} {P : Int → Prop} {as : List α} {ds : List D} (h : Picks B (fun _ d => ∃ i, d = pairD (Sum.inl i, .bl true) ∧ P i) as ds) : ∃ ns : List Int, ds = (trues ns).map pairD ∧ ns.length ≤ as.length ∧ ∀ i ∈ ns, P i := by
  induction h with
  | nil => exact ⟨[], rfl, Nat.le_refl _, fun i h => by cases h⟩
  | skip _ _ ih =>
    obtain ⟨ns, rfl, h1, h2⟩ := ih
    exact ⟨ns, rfl, by rw [List.length_append]; omega, h2⟩
  | take _ r ih =>
    obtain ⟨ns, rfl, h1, h2⟩ := ih
    obtain ⟨i, rfl, hi⟩ := r
    refine ⟨ns ++ [i], by unfold trues; rw [List.map_append, List.map_append]; rfl, by rw [List.length_append, List.length_append]; exact Nat.add_le_add h1 (Nat.le_refl _), fun j hj => ?_⟩
    rcases List.mem_append.mp hj with q | q
    · exact h2 j q
    · rw [List.mem_singleton.mp q]
      exact hi
end
/-- every item is taken -/
theorem picks_all {α : Type} {Re : α → D → Prop} {as : List α} {ds : List D} (h : Picks (fun x => x = true) Re as ds) : ds.length = as.length := by
  induction h with
  | nil => rfl
  | skip _ q ih => cases q
  | take _ _ ih => rw [List.length_append, List.length_append, ih]; rfl
/-- rows, each as P tells -/
theorem picks_rows {α : Type} {B : Bool → Prop} {P : List Int → Prop} {as : List α} {ds : List D} (h : Picks B (fun _ d => ∃ ns, d = D.lst (dI ns) ∧ P ns) as ds) : ∃ rows : List (List Int), ds = rows.map (fun r => D.lst (dI r)) ∧ ∀ r ∈ rows, P r := by
  induction h with
  | nil => exact ⟨[], rfl, fun r h => by cases h⟩
  | skip _ _ ih => exact ih
  | take _ e ih =>
    obtain ⟨rows, rfl, h2⟩ := ih
    obtain ⟨ns, rfl, hp⟩ := e
    refine ⟨rows ++ [ns], by rw [List.map_append]; rfl, fun r hr => ?_⟩
    rcases List.mem_append.mp hr with q | q
    · exact h2 r q
    · rw [List.mem_singleton.mp q]
      exact hp
def recD (old : Int) (rows : List (List Int)) : D := .lst [.int old, rowsL rows]
def RecOk (mn mo : Int) (old : Int) (rows : List (List Int)) : Prop := 0 ≤ old ∧ old ≤ mo ∧ 1 ≤ rows.length ∧ (rows.length : Int) ≤ mn ∧ ∀ r ∈ rows, RowOk old r
section
variable {K : PySem.W.Frag} {C : Addr} {δ : Dl} {ta : TA} {ts : TS} {c1 c2 : Nat} {R : D → Prop}
theorem sp_par3 {i j l : Nat} {R1 R2 R3 : D → Prop} (hi : i ≠ 0) (hj : j ≠ 0) (hl : l ≠ 0) (h : EvPA K C ta δ c1 (fun ds => ∃ a b c, ds = [a, b, c] ∧ R1 a ∧ R2 b ∧ R3 c)) (g : ∀ a b c, R1 a → R2 b → R3 c → StP K C ts (((δ.set i (some a)).set j (some b)).set l (some c)) c2 R) :
    StP K C (tSeq (tPar3 i j l ta) ts) δ (c1 + c2) R := fun O σ H p n x hn Z q => h O σ H p n x (by omega) _ fun vs H' ds s pu r hd => by
  obtain ⟨a, b, c, rfl, r1, r2, r3⟩ := r
  obtain ⟨v, ys, rfl, h1, h2⟩ := dats_cons.mp hd
  obtain ⟨w, z, rfl, h3, h4⟩ := dats_two.mp h2
  have x1 := x.but s pu
  have e : n + c1 + c2 = n + (c1 + c2) := by omega
  refine ⟨v, w, z, rfl, g a b c r1 r2 r3 O _ H' p _ ⟨⟨x1.at_.own, ((x1.at_.env.set i h1).set j h3).set l h4⟩, x1.own, x1.purse, ?_⟩ (by omega) Z fun v2 H2 d2 s2 p2 r2 hd2 => q v2 H2 d2 (s.trans s2) (by rw [← e]; exact p2) r2 hd2⟩
  rw [List.getElem?_set_ne hl, List.getElem?_set_ne hj, List.getElem?_set_ne hi]
  exact x1.slot
theorem sp_tup3 {i j l : Nat} {R1 R2 R3 : D → Prop} (hi : i ≠ 0) (hj : j ≠ 0) (hl : l ≠ 0) (h : EvPA K C ta δ c1 (fun ds => ∃ a b c, ds = [a, b, c] ∧ R1 a ∧ R2 b ∧ R3 c)) (g : ∀ a b c, R1 a → R2 b → R3 c → StP K C ts (((δ.set i (some a)).set j (some b)).set l (some c)) c2 R) :
    StP K C (tSeq (tAsg (tTup ta) (gTup K 3 (gCons (gName i) (gCons (gName j) (gCons (gName l) gNil))))) ts) δ (c1 + c2) R := fun O σ H p n x hn Z q => h O σ H p n x (by omega) _ fun vs H' ds s pu r hd => by
  obtain ⟨a, b, c, rfl, r1, r2, r3⟩ := r
  obtain ⟨v, ys, rfl, h1, h2⟩ := dats_cons.mp hd
  obtain ⟨w, z, rfl, h3, h4⟩ := dats_two.mp h2
  have x1 := x.but s pu
  have e : n + c1 + c2 = n + (c1 + c2) := by omega
  refine ⟨by show 3 ≤ sizeLine; decide, fun T hT => ⟨T, [v, w, z], rfl, SqT.of upd_same, rfl, v, [w, z], rfl, w, [z], rfl, z, [], rfl, rfl, ?_⟩⟩
  have sT : Same H' (upd H' T (.tup [v, w, z])) := same_new hT
  have x2 := x1.but (But.of sT) (x1.purse.same sT)
  refine g a b c r1 r2 r3 O _ _ p _ ⟨⟨x2.at_.own, ((x2.at_.env.set i (h1.same (same_hid sT))).set j (h3.same (same_hid sT))).set l (h4.same (same_hid sT))⟩, x2.own, x2.purse, ?_⟩ (by omega) Z fun v2 H2 d2 s2 p2 r2 hd2 => q v2 H2 d2 ((s.trans (But.of sT)).trans s2) (by rw [← e]; exact p2) r2 hd2
  rw [List.getElem?_set_ne hl, List.getElem?_set_ne hj, List.getElem?_set_ne hi]
  exact x2.slot
end
end Zm


set_option Elab.async false
set_option linter.all false
set_option maxRecDepth 100000
set_option maxHeartbeats 4000000
set_option autoImplicit false
namespace Zm
open PySem PySem.Spec L2

/-! ### wholly new things: what is new since a heap -/
def isO : Option HO → Bool
  | some (.tup _) => false
  | some _ => true
  | none => false
/-- all but tuples, which never change -/
def dom (H : Hp) : Addr → Bool := fun a => isO (H a)
theorem isO_some {u : HO} (h : isO (some u) = true) : NoT u := by
  cases u <;> first | trivial | cases h
theorem isO_of {u : HO} (h : NoT u) : isO (some u) = true := by
  cases u <;> first | rfl | exact h.elim
section
variable {O : Addr → Bool} {H H1 H' : Hp} {p : Addr} {o : HO} {K : PySem.W.Frag} {C : Addr} {d : D} {ds : List D}
theorem dom_some {a : Addr} (e : dom H a = true) : ∃ u, H a = some u ∧ NoT u := by
  unfold dom at e
  cases r : H a with
  | none =>
    rw [r] at e
    cases e
  | some u =>
    rw [r] at e
    exact ⟨u, rfl, isO_some e⟩
theorem dom_of {a : Addr} {u : HO} (e : H a = some u) (h : NoT u) : dom H a = true := by
  unfold dom
  rw [e]
  exact isO_of h
theorem dom_in (s : Same H H') : OIn (dom H) H' := by
  refine ⟨fun a e q => ?_, fun a v e q => ?_⟩
  · obtain ⟨u, r, nu⟩ := dom_some e
    rw [s a u r] at q
    cases q
  · obtain ⟨u, r, nu⟩ := dom_some e
    rw [s a u r] at q
    rw [← Option.some.inj q]
    exact nu
theorem dom_mono (s : Same H H1) {a : Addr} (e : dom H a = true) : dom H1 a = true := by
  obtain ⟨u, r, nu⟩ := dom_some e
  exact dom_of (s a u r) nu
/-- what is new since a later heap is new since an earlier one -/
theorem dom_le (s : Same H H1) : Same (hid (dom H1) H') (hid (dom H) H') := fun a u e => by
  unfold hid at e ⊢
  split at e
  · cases e
  · rename_i q
    rw [if_neg (fun z => q (dom_mono s z))]
    exact e
theorem own_dom (h : OIn O H) {a : Addr} (z : O a = true) : dom H a = true := by
  cases r : H a with
  | none => exact absurd r (h a z)
  | some w => exact dom_of r (h.nt a w z r)
/-- .. and is none of one's own -/
theorem dom_own (h : OIn O H) : Same (hid (dom H) H') (hid O H') := fun a u e => by
  unfold hid at e ⊢
  split at e
  · cases e
  · rename_i q
    rw [if_neg (fun z => q (own_dom h z))]
    exact e
end
section
variable (K : PySem.W.Frag) (C : Addr)
def EvF (te : TE) (δ : Dl) (d : D) : Prop := ∀ O σ H, At K C O H σ δ → ∀ Q : VK, (∀ v H', Same H H' → Dat K C (hid (dom H) H') d v → Q v H') → te σ H Q
def SpF (pre : List D → Prop) (f : List D → D) (n : Nat) : Sp := fun vs H Q _ => vs.length = n ∧ ∃ O ds, OIn O H ∧ Dats K C (hid O H) ds vs ∧ pre ds ∧ ∀ v H', Same H H' → Dat K C (hid (dom H) H') (f ds) v → Q v H'
def StF (ts : TS) (δ : Dl) (d : D) : Prop := ∀ O σ H, At K C O H σ δ → ∀ Z : Ends, (∀ v H', Same H H' → Dat K C (hid (dom H) H') d v → Z.rt v H') → ts Z σ H
end
section
variable {K : PySem.W.Frag} {C : Addr} {δ δ' : Dl} {ta tb te tl : TE} {t u : TT} {d e z : D} {ds es : List D} {ts ts' : TS}
theorem EvF.toD (h : EvF K C te δ d) : EvD K C te δ d := fun O σ H n Q q => h O σ H n Q fun v H' s hd => q v H' s (hd.same (dom_own n.own))
theorem ef_call {pre : List D → Prop} {f : List D → D} {m : Nat} {E : XK} {tr : TA} (ha : EvA K C tr δ ds) (hn : ds.length = m) (hp : pre ds) : EvF K C (tCall (SpF K C pre f m) [] E tr) δ (f ds) := fun O σ H n Q q =>
  ha O σ H n _ fun vs H1 s1 d1 => by
    show SpF K C pre f m (vs ++ []) H1 Q E
    rw [List.append_nil]
    exact ⟨by rw [d1.length, hn], O, ds, (n.same s1).own, d1, hp, fun v H2 s2 d2 => q v H2 (s1.trans s2) (d2.same (dom_le s1))⟩
theorem ef_meth {pre : List D → Prop} {f : List D → D} {n : Nat} {E : XK} {tr : TA} {m : Str} {c : Int} {rows : List (List Int)} (h : EvD K C te δ (.rcp c rows)) (ha : EvA K C tr δ ds) (hm : ¬ m = sMany) (hm2 : ¬ m = sNeeds) (hn : ds.length + 1 = n) (hp : pre (.rcp c rows :: ds)) :
    EvF K C (tMeth C m (SpF K C pre f n) [] E te tr) δ (f (.rcp c rows :: ds)) := fun O σ H n Q q => h O σ H n _ fun v H1 s1 d1 => by
  obtain ⟨a, dx, t, xs, rfl, h1, h2, h3⟩ := dat_rcp_iff.mp d1
  refine ⟨a, dx, fsR c t, rfl, hid_same _ _ h1, fsR_no hm hm2, ha O σ H1 (n.same s1) _ fun vs H2 s2 d2 => ?_⟩
  show SpF K C pre f _ (.ref a :: (vs ++ [])) H2 Q E
  rw [List.append_nil]
  exact ⟨by rw [List.length_cons, d2.length, hn], O, _, (n.same (s1.trans s2)).own, .cons (d1.same (same_hid s2)) d2, hp, fun v H3 s3 d3 => q v H3 ((s1.trans s2).trans s3) (d3.same (dom_le (s1.trans s2)))⟩
/-- scalars are new as they are -/
def sca : D → Bool
  | .non => true
  | .bl _ => true
  | .int _ => true
  | .str _ => true
  | .raw _ => true
  | _ => false
theorem sca_dat {H H' : Hp} {v : V} (h : sca d = true) (hd : Dat K C H d v) : Dat K C H' d v := by
  cases d with
  | non => exact dat_non.mpr (dat_non.mp hd)
  | bl b => exact dat_bl.mpr (dat_bl.mp hd)
  | int i => exact dat_int.mpr (dat_int.mp hd)
  | str x => exact dat_str.mpr (dat_str.mp hd)
  | raw w => exact dat_raw.mpr (dat_raw.mp hd)
  | lst _ => cases h
  | tup _ => cases h
  | dic _ => cases h
  | rcp _ _ => cases h
  | dtp _ => cases h
theorem sca_dats {H H' : Hp} : ∀ {ds : List D} {vs : List V}, (∀ d ∈ ds, sca d = true) → Dats K C H ds vs → Dats K C H' ds vs
  | [], vs, _, h => dats_nil.mpr (dats_nil.mp h)
  | d :: ds, vs, h, g => by
    obtain ⟨x, ys, rfl, h1, h2⟩ := dats_cons.mp g
    exact .cons (sca_dat (h d (List.mem_cons_self ..)) h1) (sca_dats (fun e he => h e (List.mem_cons_of_mem _ he)) h2)
theorem sca_ints (ns : List Int) : ∀ d ∈ dI ns, sca d = true := fun d h => by
  obtain ⟨n, _, rfl⟩ := List.mem_map.mp h
  rfl
theorem ef_sca (h : EvD K C te δ d) (s : sca d = true) : EvF K C te δ d := fun O σ H n Q q => h O σ H n Q fun v H' s1 hd => q v H' s1 (sca_dat s hd)
theorem dat_new {H H' : Hp} {p : Addr} {xs : List V} (s : Same H H') (hp : H p = none) (h : H' p = some (.lst xs)) (g : Dats K C (hid (dom H) H') ds xs) : Dat K C (hid (dom H) H') (.lst ds) (.ref p) :=
  dat_lst_iff.mpr ⟨p, xs, rfl, by unfold hid dom; rw [hp]; exact h, g⟩
/-- a new list of scalars -/
theorem ef_of (h : EvN K C te δ (.lst ds)) (hs : ∀ d ∈ ds, sca d = true) : EvF K C te δ (.lst ds) := fun O σ H n Q q => h O σ H n Q fun p H' s hp hd => by
  obtain ⟨b, xs, e, h1, h2⟩ := dat_lst_iff.mp hd
  cases e
  exact q _ H' s (dat_new s hp (hid_same _ _ h1) (sca_dats hs h2))
/-- a comprehension of new things -/
theorem ef_lc1 {α : Type} {as : List α} {g0 : α → D} {f : α → D} {δi : α → Dl} {wi : TI} {g : TG} {vs : List Nat} (hI : EvI K C wi δ (as.map g0)) (hG : ∀ a ∈ as, EvG K C g vs (wipeD δ vs) (g0 a) (δi a))
    (hE : ∀ a ∈ as, EvF K C te (δi a) (f a)) (hl : as.length ≤ 100000) : EvF K C (tLc wi g tYes te vs) δ (.lst (as.map f)) := fun O σ H n Q q => hI O σ H n _ fun J H1 s1 w Da hD => by
  have n1 := n.same s1
  have key : ∀ H2, Same H1 H2 → Same (hid O H1) (hid (addO O Da) H2) := fun H2 s => (add_fresh hD).trans (same_hid s)
  refine ⟨fun i m H2 => m = as.length - i ∧ i ≤ as.length ∧ Same H1 H2 ∧ ∃ acc, H2 Da = some (.lst acc) ∧ Dats K C (hid (addO (dom H1) Da) H2) ((as.take i).map f) acc, ⟨as.length, by omega, Nat.zero_le _, same_new hD, [], upd_same, by rw [List.take_zero]; exact .nil⟩, ?_⟩
  rintro i m H2 ⟨rfl, hi, s2, acc, ha, hacc⟩
  have o2 : OIn (addO O Da) H2 := (n1.own.same s2).add ⟨_, ha, trivial⟩
  have wl : (as.map g0).length = as.length := List.length_map _
  by_cases hlt : i < as.length
  · have hia : as[i]? = some as[i] := by simp [hlt]
    have hmem : as[i] ∈ as := List.getElem_mem hlt
    refine .inr ⟨w.go _ i H2 (key H2 s2) o2 (by rw [wl]; exact hlt), fun H3 => i + 1 ≤ as.length ∧ Same H1 H3 ∧ ∃ acc, H3 Da = some (.lst acc) ∧ Dats K C (hid (addO (dom H1) Da) H3) ((as.take (i + 1)).map f) acc,
      fun H' hN => ⟨_, by omega, rfl, hN⟩, fun x H3 y => ?_⟩
    obtain ⟨s3, d3⟩ := w.yld _ i H2 x H3 (g0 as[i]) (key H2 s2) o2 (by rw [List.getElem?_map, hia]; rfl) y
    have s13 := s2.trans s3
    have n3 : At K C (addO O Da) H3 (L2.wipe σ vs) (wipeD δ vs) := ⟨o2.same s3, (n1.env.same (key H3 s13)).wipe vs⟩
    refine hG _ hmem _ _ _ _ n3 d3 _ fun σ4 hw n4 => ⟨by rw [hw, wipe_wipe], ?_⟩
    refine iteT (A := te σ4 H3 _) (B := i + 1 ≤ as.length ∧ Same H1 H3 ∧ ∃ acc, H3 Da = some (.lst acc) ∧ Dats K C (hid (addO (dom H1) Da) H3) ((as.take (i + 1)).map f) acc) ?_
    refine hE _ hmem _ _ _ n4 _ fun v H6 s6 d6 => ?_
    have ht : as.take (i + 1) = as.take i ++ [as[i]] := List.take_succ_eq_append_getElem hlt
    have s36 := s3.trans s6
    have hl2 : acc.length ≤ as.length := by
      rw [hacc.length, List.length_map, List.length_take]
      omega
    refine ⟨acc, s36 _ _ ha, Nat.lt_of_le_of_lt (Nat.le_trans hl2 hl) (by decide), hlt, same_mut (s2.trans s36) hD, _, upd_same, ?_⟩
    rw [add_upd, ht, List.map_append]
    refine (hacc.same (same_hid s36)).append (.one (d6.same fun a u e => ?_))
    -- new since H3: not in H1, not Da
    unfold hid at e ⊢
    split at e
    · cases e
    · rename_i z
      rw [if_neg (fun y => z ?_)]
      · exact e
      · unfold addO at y
        rcases Bool.or_eq_true_iff.mp y with y | y
        · exact dom_mono s13 y
        · have y := of_decide_eq_true y
          subst y
          unfold dom
          rw [s3 _ _ ha]
          rfl
  · have e : i = as.length := by omega
    subst e
    rw [List.take_length] at hacc
    refine .inl ⟨by rw [← wl]; exact w.stop _ H2 (key H2 s2) o2, q _ _ (s1.trans s2) ?_⟩
    have h2 : Dat K C (hid (dom H1) H2) (.lst (as.map f)) (.ref Da) := dat_new s2 hD ha (hacc.same add_le)
    exact h2.same (dom_le s1)
theorem ef_is (h : EvF K C te δ d) (e : d = z) : EvF K C te δ z := e ▸ h
/-- tuple(a new list) -/
theorem ef_tup (h : EvF K C te δ (.lst ds)) : EvF K C (tCB (fun xs H Q => ∃ p ys, xs = [V.ref p] ∧ ((SqL K H p ys ∧ ∀ l, H l = none → Q (.ref l) (upd H l (.tup ys))) ∨ (SqT K H p ys ∧ Q (.ref p) H))) (tCons te tNil)) δ (.tup ds) := fun O σ H n Q q =>
  h O σ H n _ fun v H1 s1 hd => by
    obtain ⟨a, xs, rfl, h1, h2⟩ := dat_lst_iff.mp hd
    refine ⟨a, xs, rfl, .inl ⟨sqL_of h1, fun p hp => q _ _ (s1.trans (same_new hp)) (dat_tup_iff.mpr ⟨p, xs, rfl, ?_, h2.same (same_hid (same_new hp))⟩)⟩⟩
    unfold hid dom
    rw [back_none s1 hp]
    exact upd_same
theorem sf_ret (h : EvF K C te δ d) : StF K C (tRet te) δ d := fun O σ H n Z q => h O σ H n _ fun v H' s hd => q v H' s hd
theorem sf_guard {b : Bool} (h : EvT K C t δ b) (h1 : b = true → StF K C ts δ d) (h2 : b = false → StF K C ts' δ d) : StF K C (tSeq (tIfS t ts tNext) ts') δ d := fun O σ H n Z q => h O σ H n _ fun H' s => by
  cases b with
  | true => exact h1 rfl O σ H' (n.same s) { Z with nx := ts' Z } fun v2 H2 s2 d2 => q v2 H2 (s.trans s2) (d2.same (dom_le s))
  | false => exact h2 rfl O σ H' (n.same s) Z fun v2 H2 s2 d2 => q v2 H2 (s.trans s2) (d2.same (dom_le s))
theorem sf_seq (h : StX K C ts δ δ') (g : StF K C ts' δ' d) : StF K C (tSeq ts ts') δ d := fun O σ H n Z q => h O σ H n { Z with nx := ts' Z } fun σ' H' s n' => g O σ' H' n' Z fun v H2 s2 d2 => q v H2 (s.trans s2) (d2.same (dom_le s))
theorem ef_if {b : Bool} (h : EvT K C t δ b) (h1 : b = true → EvF K C ta δ z) (h2 : b = false → EvF K C tb δ z) : EvF K C (tIf t ta tb) δ z := fun O σ H n Q q => h O σ H n _ fun H' s => by
  cases b with
  | true => exact h1 rfl O σ H' (n.same s) Q fun v2 H2 s2 d2 => q v2 H2 (s.trans s2) (d2.same (dom_le s))
  | false => exact h2 rfl O σ H' (n.same s) Q fun v2 H2 s2 d2 => q v2 H2 (s.trans s2) (d2.same (dom_le s))
/-! enumerate, zip -/
def enuD (ds : List D) : List D := (ds.zipIdx).map fun (p : D × Nat) => D.tup [.int (p.2 : Int), p.1]
def zipD (ds es : List D) : List D := (ds.zip es).map fun (p : D × D) => D.tup [p.1, p.2]
theorem ei_enum (h : EvD K C tl δ (.lst ds)) : EvI K C (iEnum K (tCons tl tNil)) δ (enuD ds) := fun O σ H n R q => h O σ H n _ fun v H1 s1 d1 => by
  obtain ⟨a, xs, rfl, h1, h2⟩ := dat_lst_iff.mp d1
  have hl : (enuD ds).length = ds.length := by unfold enuD; rw [List.length_map, List.length_zipIdx]
  have key : ∀ O' H', Same (hid O H1) (hid O' H') → SqL K H' a xs ∧ Dats K C (hid O' H') ds xs := fun O' H' s => ⟨sqL_of (s _ _ h1), h2.same s⟩
  refine ⟨a, xs, rfl, sqL_of h1, q _ _ s1 ⟨fun O' i H' s o hi => ?_, fun O' i H' x H2 d s o hi y => ?_, fun O' H' s o => ?_⟩⟩
  · rw [hl] at hi
    exact ⟨xs, xs[i]'(by rw [h2.length]; exact hi), (key O' H' s).1, by simp [h2.length, hi]⟩
  · obtain ⟨T, x', rfl, hT, rfl, y⟩ := y
    obtain ⟨k1, k2⟩ := key O' _ s
    unfold enuD at hi
    rw [List.getElem?_map, List.getElem?_zipIdx] at hi
    have g3 := y xs k1
    obtain ⟨d', q1, q2⟩ := k2.get' g3
    rw [q1] at hi
    have e : D.tup [.int ((0 + i : Nat) : Int), d'] = d := by simpa using hi
    rw [Nat.zero_add] at e
    subst e
    exact ⟨same_new hT, new_tup o hT (.cons (dat_int.mpr rfl) (.one q2))⟩
  · exact ⟨xs, (key O' H' s).1, by rw [hl, h2.length]; exact Nat.le_refl _⟩
theorem ei_zipL (h : EvD K C ta δ (.lst ds)) (g : EvD K C tb δ (.lst es)) : EvI K C (RZ.iZipA K (tCons ta (tCons tb tNil))) δ (zipD ds es) := fun O σ H n R q => h O σ H n _ fun v H0 s0 d0 => g O σ H0 (n.same s0) _ fun w H1 s1 d1 => by
  obtain ⟨a, xs, rfl, h1, h2⟩ := dat_lst_iff.mp (d0.same (same_hid (O := O) s1))
  obtain ⟨b, ys, rfl, g1, g2⟩ := dat_lst_iff.mp d1
  have hl : (zipD ds es).length = min ds.length es.length := by unfold zipD; rw [List.length_map, List.length_zip]
  have key : ∀ O' H', Same (hid O H1) (hid O' H') → (SqL K H' a xs ∧ Dats K C (hid O' H') ds xs) ∧ SqL K H' b ys ∧ Dats K C (hid O' H') es ys := fun O' H' s => ⟨⟨sqL_of (s _ _ h1), h2.same s⟩, sqL_of (s _ _ g1), g2.same s⟩
  refine ⟨a, b, xs, ys, rfl, .inl ⟨sqL_of h1, sqL_of g1, q _ _ (s0.trans s1) ⟨fun O' i H' s o hi => ?_, fun O' i H' x H2 d s o hi y => ?_, fun O' H' s o => ?_⟩⟩⟩
  · rw [hl] at hi
    exact ⟨xs, ys, xs[i]'(by rw [h2.length]; omega), ys[i]'(by rw [g2.length]; omega), (key O' H' s).1.1, (key O' H' s).2.1, by simp, by simp⟩
  · obtain ⟨T, x', y', rfl, hT, rfl, y1, y2⟩ := y
    obtain ⟨⟨k1, k2⟩, k3, k4⟩ := key O' _ s
    obtain ⟨d1', q1, q2⟩ := k2.get' (y1 xs k1)
    obtain ⟨d2', q3, q4⟩ := k4.get' (y2 ys k3)
    unfold zipD at hi
    rw [List.getElem?_map, (List.getElem?_zip_eq_some (z := (d1', d2'))).mpr ⟨q1, q3⟩] at hi
    have e : D.tup [d1', d2'] = d := by simpa using hi
    subst e
    exact ⟨same_new hT, new_tup o hT (.cons q2 (.one q4))⟩
  · refine ⟨xs, ys, (key O' H' s).1.1, (key O' H' s).2.1, ?_⟩
    rw [hl, h2.length, g2.length]
    omega
theorem ei_zipT (h : EvD K C ta δ (.tup ds)) (g : EvD K C tb δ (.tup es)) : EvI K C (RZ.iZipA K (tCons ta (tCons tb tNil))) δ (zipD ds es) := fun O σ H n R q => h O σ H n _ fun v H0 s0 d0 => g O σ H0 (n.same s0) _ fun w H1 s1 d1 => by
  obtain ⟨a, xs, rfl, h1, h2⟩ := dat_tup_iff.mp (d0.same (same_hid (O := O) s1))
  obtain ⟨b, ys, rfl, g1, g2⟩ := dat_tup_iff.mp d1
  have hl : (zipD ds es).length = min ds.length es.length := by unfold zipD; rw [List.length_map, List.length_zip]
  have key : ∀ O' H', Same (hid O H1) (hid O' H') → (SqT K H' a xs ∧ Dats K C (hid O' H') ds xs) ∧ SqT K H' b ys ∧ Dats K C (hid O' H') es ys := fun O' H' s => ⟨⟨sqT_of (s _ _ h1), h2.same s⟩, sqT_of (s _ _ g1), g2.same s⟩
  refine ⟨a, b, xs, ys, rfl, .inr ⟨sqT_of h1, sqT_of g1, q _ _ (s0.trans s1) ⟨fun O' i H' s o hi => ?_, fun O' i H' x H2 d s o hi y => ?_, fun O' H' s o => ?_⟩⟩⟩
  · rw [hl] at hi
    exact ⟨xs, ys, xs[i]'(by rw [h2.length]; omega), ys[i]'(by rw [g2.length]; omega), (key O' H' s).1.1, (key O' H' s).2.1, by simp, by simp⟩
  · obtain ⟨T, x', y', rfl, hT, rfl, y1, y2⟩ := y
    obtain ⟨⟨k1, k2⟩, k3, k4⟩ := key O' _ s
    obtain ⟨d1', q1, q2⟩ := k2.get' (y1 xs k1)
    obtain ⟨d2', q3, q4⟩ := k4.get' (y2 ys k3)
    unfold zipD at hi
    rw [List.getElem?_map, (List.getElem?_zip_eq_some (z := (d1', d2'))).mpr ⟨q1, q3⟩] at hi
    have e : D.tup [d1', d2'] = d := by simpa using hi
    subst e
    exact ⟨same_new hT, new_tup o hT (.cons q2 (.one q4))⟩
  · refine ⟨xs, ys, (key O' H' s).1.1, (key O' H' s).2.1, ?_⟩
    rw [hl, h2.length, g2.length]
    omega
end
section
variable {X : Cx} {e e2 : Expr} {ta : TA} {p pos tpos : Pos} {elts : List Expr} {kk : Nat}
theorem i_enum {K : PySem.W.Frag} (b : BFree X.mg) (ha : PA X [e] ta) (hg : Gl X "enumerate" := by rfl) (hs : starEach [e] X.env = [(false, eval e X.env)] := by rfl) (hK : X.K = K := by rfl) : PI X (.Tuple elts kk tpos) (.Call (.Name "enumerate" p) [e] [] pos) (iEnum K ta) := by
  subst hK
  exact pi_enum hg (b _ (by decide)) ha hs
theorem i_zip {K : PySem.W.Frag} (b : BFree X.mg) (ha : PA X [e, e2] ta) (hg : Gl X "zip" := by rfl) (hs : starEach [e, e2] X.env = (false, eval e X.env) :: starEach [e2] X.env := by rfl) (hpl : (backTo pos (starEach [e2] X.env)).any (·.1) = false := by rfl) (hK : X.K = K := by rfl) :
    PI X (.Tuple elts kk tpos) (.Call (.Name "zip" p) [e, e2] [] pos) (RZ.iZipA K ta) := by
  subst hK
  exact RZ.pi_zipA hg (b _ (by decide)) ha hs hpl
end
section
open PyProof.Rows
variable {P : Program} {w : World} {K : PySem.W.Frag} {C : Addr} {mg : Str → Option Value} {base : Heap} {x : Str} {k : Nat} {ps N : List Str} {st : Stmt} {fa : Addr} {fd : FuncData} {pre : List D → Prop} {f : List D → D}
theorem okF (F : DefAt K mg x ps st fa fd) (S : FnScope N ps (defScope st))
    (hbody : ∀ (cdv : Value) (A : Around) (outer : List Env) (s : Shared) (H : Hp) (E : XK), Room k (A.deeper (envOfC x (defScope st) s.heap.objs.size fa cdv)) →
      ∃ t, PSs (cxOf CX0 P w K mg base N x (defScope st) fa cdv A outer s H E).nox (defBody st) t ∧ ∀ ds, pre ds → StF K C t (startD N ds) (f ds)) : DefOk P w K mg base x (k + 1) ps (SpF K C pre f ps.length) := by
  refine F.ok S (fun vs H Q E h => h.1) (fun cdv A outer s H vs Q E hr h => ?_)
  obtain ⟨t, h1, h2⟩ := hbody cdv A outer s H E hr
  obtain ⟨_, O, ds, o, hd, hp, hq⟩ := h
  exact ⟨t, h1, h2 ds hp O _ H (at_start o hd) _ hq⟩
/-- a promise for no argument at all -/
theorem ok_void (F : DefAt K mg x ps st fa fd) (sp : Sp) (h : ∀ vs H Q E, ¬ sp vs H Q E) : DefOk P w K mg base x 0 ps sp :=
  ⟨fa, fd, ⟨fun vs H Q E q => absurd q (h vs H Q E), fun A outer s H args us vs Q E _ _ _ _ q => absurd q (h vs H Q E)⟩, F.at_, F.fn.kp, F.bi⟩
end
end Zm


set_option Elab.async false
set_option linter.all false
set_option maxRecDepth 100000
set_option maxHeartbeats 4000000
set_option autoImplicit false
namespace Zm
open PySem PySem.Spec L2

structure MethAt (K : PySem.W.Frag) (C : Addr) (m q : Str) (ps : List Str) (st : Stmt) (f : Addr) (fd : FuncData) : Prop where
  fn : FunD K m q (defArgs st) (defBody st) (defScope st) [] [] f fd
  me : Meth K C m f
  bi : Binds K fd ps []
section
open PyProof.Rows
variable {P : Program} {w : World} {K : PySem.W.Frag} {C : Addr} {mg : Str → Option Value} {base : Heap} {x q m : Str} {k : Nat} {ps N : List Str} {st : Stmt} {fa : Addr} {fd : FuncData} {pre : List D → Prop} {f : List D → D} {sp : Sp}
theorem MethAt.ok (F : MethAt K C m q ps st fa fd) (cl : Cls K C) (S : FnScope N ps (defScope st)) (len : ∀ vs H Q E, sp vs H Q E → vs.length = ps.length)
    (hbody : ∀ (cdv : Value) (A : Around) (outer : List Env) (s : Shared) (H : Hp) (vs : List V) (Q : VK) (E : XK), Room k (A.deeper (envOfC q (defScope st) s.heap.objs.size fa cdv)) → sp vs H Q E →
      ∃ t, PSs (cxOf CX0 P w K mg base N q (defScope st) fa cdv A outer s H E).nox (defBody st) t ∧ t { nx := fun _ H' => Q .non H', rt := Q } (L2.start N vs) H) : MethOk P w K mg base C m (k + 1) ps sp := by
  refine ⟨cl, fa, fd, F.fn.ok S len fun cdv A outer s H vs Q E hr h => ?_, F.me, F.bi⟩
  obtain ⟨t, h1, h2⟩ := hbody cdv A outer s H vs Q E hr h
  exact ⟨t, PSs.nox h1, h2⟩
theorem MethAt.okD (F : MethAt K C m q ps st fa fd) (cl : Cls K C) (S : FnScope N ps (defScope st))
    (hbody : ∀ (cdv : Value) (A : Around) (outer : List Env) (s : Shared) (H : Hp) (E : XK), Room k (A.deeper (envOfC q (defScope st) s.heap.objs.size fa cdv)) →
      ∃ t, PSs (cxOf CX0 P w K mg base N q (defScope st) fa cdv A outer s H E).nox (defBody st) t ∧ ∀ ds, pre ds → StR K C t (startD N ds) (f ds)) : MethOk P w K mg base C m (k + 1) ps (SpD K C pre f ps.length) := by
  refine F.ok cl S (fun vs H Q E h => h.1) (fun cdv A outer s H vs Q E hr h => ?_)
  obtain ⟨t, h1, h2⟩ := hbody cdv A outer s H E hr
  obtain ⟨_, O, ds, o, hd, hp, hq⟩ := h
  exact ⟨t, h1, h2 ds hp O _ H (at_start o hd) _ hq⟩
theorem MethAt.okF (F : MethAt K C m q ps st fa fd) (cl : Cls K C) (S : FnScope N ps (defScope st))
    (hbody : ∀ (cdv : Value) (A : Around) (outer : List Env) (s : Shared) (H : Hp) (E : XK), Room k (A.deeper (envOfC q (defScope st) s.heap.objs.size fa cdv)) →
      ∃ t, PSs (cxOf CX0 P w K mg base N q (defScope st) fa cdv A outer s H E).nox (defBody st) t ∧ ∀ ds, pre ds → StF K C t (startD N ds) (f ds)) : MethOk P w K mg base C m (k + 1) ps (SpF K C pre f ps.length) := by
  refine F.ok cl S (fun vs H Q E h => h.1) (fun cdv A outer s H vs Q E hr h => ?_)
  obtain ⟨t, h1, h2⟩ := hbody cdv A outer s H E hr
  obtain ⟨_, O, ds, o, hd, hp, hq⟩ := h
  exact ⟨t, h1, h2 ds hp O _ H (at_start o hd) _ hq⟩
/-- what is promised of the making of a recipe -/
def ValidR (m : Int) (rows : List (List Int)) : Prop := 0 ≤ m ∧ 1 ≤ rows.length ∧ rows.length ≤ 1000 ∧ ∀ r ∈ rows, RowOk m r ∧ r.length ≤ 1000
def spInit (K : PySem.W.Frag) (C : Addr) : Sp := fun vs H Q _ => ∃ (x dx : Addr) (m : Int) (rows : List (List Int)) (v : V) (O : Addr → Bool) (H0 : Hp), vs = [.ref x, .int m, v] ∧ H0 x = none ∧ Same H0 H ∧ H x = some (.ins C dx []) ∧ OIn O H0 ∧ Dat K C (hid O H0) (rowsL rows) v ∧ ValidR m rows ∧
  ∀ H', Same H0 H' → Dat K C (hid (dom H0) H') (.rcp m rows) (.ref x) → Q .non H'
structure MakeOk (P : Program) (w : World) (K : PySem.W.Frag) (mg : Str → Option Value) (base : Heap) (C : Addr) (x : Str) (k : Nat) (ps : List Str) (sp : Sp) : Prop where
  ex : ∃ (f : Addr) (fd : FuncData), FnOk P w K mg base CX0 k f fd ps sp ∧ Mk K C f ∧ mg x = some (.ref C) ∧ Binds K fd ps []
end
section
variable {X : Cx} {C : Addr} {k : Nat} {ps : List Str} {sp : Sp} {x m : Str} {p pos apos : Pos} {e o : Expr} {es : List Expr} {ta : TE} {t : TA}
theorem pe_me0 {pl : Sem Bool} (M : MethOk X.prog X.w X.K X.mg X.base C m k ps sp) (hr : Room k X.A) (he : PE X o ta) (hx : Passes CX0 X E0 := by exact pass0)
    (ht : eval (.Call (.Attribute o m apos) [] [] pos) X.env = (do
      let ov ← eval o X.env
      standAt apos.atName
      let (f, first) ← holding [ov] (getMethod ov m pl)
      callWith pos f first (backTo pos (starEach [] X.env)) (backToKw pos (keywordEach [] X.env))) := by rfl) : PE X (.Call (.Attribute o m apos) [] [] pos) (tMeth C m sp [] E0 ta tNil) := by
  obtain ⟨f, fd, F, hm, hb⟩ := M.ex
  exact pe_meth0 he M.cl hm F hr hb .nil hx ht
theorem pe_me {pl : Sem Bool} (M : MethOk X.prog X.w X.K X.mg X.base C m k ps sp) (hr : Room k X.A) (he : PE X o ta) (ha : PA X (e :: es) t) (hx : Passes CX0 X E0 := by exact pass0)
    (hst : starEach (e :: es) X.env = (false, eval e X.env) :: starEach es X.env := by rfl) (hpl : (backTo pos (starEach es X.env)).any (·.1) = false := by rfl)
    (ht : eval (.Call (.Attribute o m apos) (e :: es) [] pos) X.env = (do
      let ov ← eval o X.env
      standAt apos.atName
      let (f, first) ← holding [ov] (getMethod ov m pl)
      callWith pos f first (backTo pos (starEach (e :: es) X.env)) (backToKw pos (keywordEach [] X.env))) := by rfl) : PE X (.Call (.Attribute o m apos) (e :: es) [] pos) (tMeth C m sp [] E0 ta t) := by
  obtain ⟨f, fd, F, hm, hb⟩ := M.ex
  exact pe_meth he M.cl hm F hr hb .nil hx ha hst hpl ht
theorem pe_mk (M : MakeOk X.prog X.w X.K X.mg X.base C x k ps sp) (hr : Room (k + 1) X.A) (ha : PA X (e :: es) t) (hg : Gl X x := by rfl) (hdb : (x == ("__debug__" : Str)) = false := by decide)
    (he : starEach (e :: es) X.env = (false, eval e X.env) :: starEach es X.env := by rfl) (hpl : (backTo pos (starEach es X.env)).any (·.1) = false := by rfl) (hx : Passes CX0 X E0 := by exact pass0) :
    PE X (.Call (.Name x p) (e :: es) [] pos) (tMake C sp [] E0 t) := by
  obtain ⟨f, fd, F, hm, hg2, hb⟩ := M.ex
  exact pe_make hm F hr hg hg2 hb .nil hx ha hdb he hpl
end
section
variable {K : PySem.W.Frag} {C : Addr} {δ : Dl} {tr : TA} {E : XK}
theorem ef_mk {m : Int} {rows : List (List Int)} (ha : EvA K C tr δ [.int m, rowsL rows]) (hv : ValidR m rows) : EvF K C (tMake C (spInit K C) [] E tr) δ (.rcp m rows) := fun O σ H n Q q =>
  ha O σ H n _ fun vs H1 s1 d1 x dx hx hdx hne => by
    obtain ⟨y, z, rfl, h1, h2⟩ := dats_two.mp d1
    rw [dat_int.mp h1]
    have s2 : Same H1 (upd (upd H1 dx (.own x)) x (.ins C dx [])) := (same_new hdx).trans (same_new (by rw [upd_ne hne.symm]; exact hx))
    exact ⟨x, dx, m, rows, z, O, H1, rfl, hx, s2, upd_same, (n.same s1).own, h2, hv, fun H' s3 d3 => ⟨rfl, q _ H' (s1.trans s3) (d3.same (dom_le s1))⟩⟩
end
section
variable {K : PySem.W.Frag} {C : Addr} {δ : Dl} {te : TE} {ds : List D}
/-- a new tuple of scalars -/
theorem ef_ofT (h : EvN K C te δ (.tup ds)) (hs : ∀ d ∈ ds, sca d = true) : EvF K C te δ (.tup ds) := fun O σ H n Q q => h O σ H n Q fun p H' s hp hd => by
  obtain ⟨b, xs, e, h1, h2⟩ := dat_tup_iff.mp hd
  cases e
  exact q _ H' s (dat_tup_iff.mpr ⟨p, xs, rfl, by unfold hid dom; rw [hp]; exact hid_same _ _ h1, sca_dats hs h2⟩)
theorem hid_upd {O : Addr → Bool} {H : Hp} {p : Addr} {o : HO} (h : O p = true) : hid O (upd H p o) = hid O H := by
  funext a
  unfold hid
  by_cases e : a = p
  · subst e
    rw [if_pos h, if_pos h]
  · rw [upd_ne e]
theorem put_many (m : Int) : putF sMany (.int m) [] = [(sMany, V.int m)] := rfl
theorem put_needs (m : Int) (t : Addr) : putF sNeeds (.ref t) [(sMany, V.int m)] = fsR m t := by
  show (if sMany = sNeeds then [(sMany, V.ref t)] else (sMany, V.int m) :: putF sNeeds (.ref t) []) = fsR m t
  rw [if_neg (by decide +kernel)]
  rfl
end
/-- what the written part says of the class of recipes -/
structure RecFacts (K : PySem.W.Frag) (C : Addr) : Prop where
  cl : Cls K C
  na : NoAttr K C sMany
  na2 : NoAttr K C sNeeds
  ha : PySem.W.findIn K (.ref C) "__class__" = some (some (.builtin "object.__class__"))
  hn : PySem.W.specialIn K (.builtin "object.__class__") "__get__" = some (some (.builtin "getset_descriptor.__get__"))
  tk : PySem.W.takesIn K (.builtin "object.__class__") = some true
  hm : PySem.W.mroIn K C (.type "object") = some true
  no : ∀ s ∈ tyNames, PySem.W.kitOne K (.type s) (.ref C) = some false
section
variable {K : PySem.W.Frag} {C : Addr} {δ : Dl} {te ti : TE} {ds : List D} {d : D}
theorem rc_isiR (R : RecFacts K C) {m : Int} {rows : List (List Int)} : RCD K C (rIsi K) [.rcp m rows, .raw (.ref C)] (.bl true) := fun O H vs o h Q q => by
  obtain ⟨x, y, rfl, hx, hy⟩ := dats_two.mp h
  rw [dat_raw.mp hy]
  obtain ⟨a, dx, t, xs, rfl, h1, h2, h3⟩ := dat_rcp_iff.mp hx
  refine ⟨_, .ref C, .ref C, .ref C, true, rfl, .own C, .base (.ins (hid_same _ _ h1) R.cl R.ha R.hn R.tk R.hm), ?_, q _ H (Same.refl H) (dat_bl.mpr rfl)⟩
  unfold PySem.W.kitOne
  rw [if_pos (by simp)]
theorem rc_isiN (R : RecFacts K C) {s : String} (hd : tyD d = some s) : RCD K C (rIsi K) [d, .raw (.ref C)] (.bl false) := fun O H vs o h Q q => by
  obtain ⟨x, y, rfl, hx, hy⟩ := dats_two.mp h
  rw [dat_raw.mp hy]
  exact ⟨x, .ref C, .type s, .ref C, false, rfl, .own C, ty_dat hx hd, R.no s (tyD_mem hd), q _ H (Same.refl H) (dat_bl.mpr rfl)⟩
/-- an item of a new list -/
theorem ef_ix {i : Int} (h : EvF K C te δ (.lst ds)) (hi : EvD K C ti δ (.int i)) (e : atI ds i = some d) : EvF K C (tOp (rIxL K) te ti) δ d := fun O σ H n Q q => h O σ H n _ fun v H1 s1 d1 => hi O σ H1 (n.same s1) _ fun w H2 s2 d2 => by
  obtain ⟨a, xs, rfl, h1, h2⟩ := dat_lst_iff.mp (d1.same (same_hid s2))
  obtain ⟨x, h3, h4⟩ := dats_at h2 e
  exact ⟨a, xs, i, x, rfl, dat_int.mp d2, sqL_of h1, h3, q x H2 (s1.trans s2) h4⟩
end
section
variable {X : Cx} {C : Addr} {x : Str} {pos : Pos}
theorem n_cl (hm : X.mg x = some (.ref C)) (hg : Gl X x := by rfl) (hd : (x == ("__debug__" : Str)) = false := by decide) : PE X (.Name x pos) (tC (.ref C)) := pe_glob hg hm rfl hd
end
end Zm


set_option maxRecDepth 100000
namespace Zm
open PySem
def top (i : Nat) : Stmt := PySem.Challenge.pw_sparecells_k26_whole_days.main.body.getD i (.Pass ⟨0, 0, 0, 0⟩)
end Zm


set_option Elab.async false
set_option linter.all false
set_option maxRecDepth 100000
set_option maxHeartbeats 4000000
set_option autoImplicit false
namespace Zm
open PySem PySem.Spec L2
def isCntD : D → Bool
  | .int i => decide (0 ≤ i)
  | _ => false
def isBelD (l : Int) : D → Bool
  | .int i => decide (0 ≤ i) && decide (i < l)
  | _ => false
def plainT (d : D) : Prop := ∃ s, tyD d = some s
def f_is_count (ds : List D) : D := match ds with
  | [d] => .bl (isCntD d)
  | _ => .non
def f_is_count_below (ds : List D) : D := match ds with
  | [d, .int l] => .bl (isBelD l d)
  | _ => .non
def asc (l : Int) : Int → List D → Bool
  | _, [] => true
  | last, .int i :: ds => decide (0 ≤ i) && decide (i < l) && decide (last < i) && asc l i ds
  | _, _ :: _ => false
def isAscD (l : Int) : D → Bool
  | .lst ds => asc l (-1) ds
  | _ => false
def asc0 : Int → List D → Bool
  | _, [] => true
  | last, .int i :: ds => decide (0 ≤ i) && decide (last < i) && asc0 i ds
  | _, _ :: _ => false
def isAsc0 : D → Bool
  | .lst ds => asc0 (-1) ds
  | _ => false
def ltD (l : Int) : D → Bool
  | .int i => decide (i < l)
  | _ => false
theorem asc0_asc (l : Int) : ∀ (ds : List D) (last : Int), (asc0 last ds && ds.all (ltD l)) = asc l last ds
  | [], _ => rfl
  | d :: ds, last => by
    cases d with
    | int i =>
      show ((decide (0 ≤ i) && decide (last < i) && asc0 i ds) && (decide (i < l) && ds.all (ltD l))) = (decide (0 ≤ i) && decide (i < l) && decide (last < i) && asc l i ds)
      rw [← asc0_asc l ds i]
      cases decide (0 ≤ i) <;> cases decide (last < i) <;> cases decide (i < l) <;> cases asc0 i ds <;> rfl
    | _ => rfl
theorem asc0_int : ∀ (ds : List D) (last : Int), asc0 last ds = true → ∀ d ∈ ds, ∃ i, d = .int i
  | [], _, _, d, hd => absurd hd (List.not_mem_nil)
  | e :: ds, last, h, d, hd => by
    cases e with
    | int i =>
      have h' : (decide (0 ≤ i) && decide (last < i) && asc0 i ds) = true := h
      rw [Bool.and_eq_true] at h'
      rcases List.mem_cons.mp hd with q | q
      · exact ⟨i, q⟩
      · exact asc0_int ds i h'.2 d q
    | _ => exact absurd h Bool.false_ne_true
def f_is_ascending (ds : List D) : D := match ds with
  | [d] => .bl (isAsc0 d)
  | _ => .non
def f_is_ascending_below (ds : List D) : D := match ds with
  | [d, .int l] => .bl (isAscD l d)
  | _ => .non
abbrev sp_is_count (K : PySem.W.Frag) (C : Addr) : Sp := SpD K C (fun ds => ∃ d, ds = [d] ∧ plainT d) f_is_count 1
abbrev sp_is_count_below (K : PySem.W.Frag) (C : Addr) : Sp := SpD K C (fun ds => ∃ d l, ds = [d, .int l] ∧ plainT d) f_is_count_below 2
def itemsT : D → Prop
  | .lst ds => ∀ d ∈ ds, plainT d
  | _ => True
def lenT : D → Prop
  | .lst ds => ds.length ≤ 100000
  | _ => True
abbrev sp_is_ascending (K : PySem.W.Frag) (C : Addr) : Sp := SpD K C (fun ds => ∃ d, ds = [d] ∧ plainT d ∧ itemsT d) f_is_ascending 1
abbrev sp_is_ascending_below (K : PySem.W.Frag) (C : Addr) : Sp := SpD K C (fun ds => ∃ d l, ds = [d, .int l] ∧ plainT d ∧ itemsT d ∧ lenT d) f_is_ascending_below 2
section
variable {P : Program} {w : World} {K : PySem.W.Frag} {mg : Str → Option Value} {base : Heap} {f C : Addr} {fd : FuncData}
theorem sc_is_count : FnScope ["value"] ["value"] (defScope (top 11)) := ⟨rfl, rfl, rfl, by decide +kernel, rfl, by decide +kernel, by decide +kernel⟩
theorem ok_is_count (B : BFree mg) (F : DefAt K mg "is_count" ["value"] (top 11) f fd) : DefOk P w K mg base "is_count" 1 ["value"] (sp_is_count K C) := by
  refine okD F sc_is_count fun cdv A outer s H E hr => ⟨_, (pss_one (ps_ret (pe_and (c_isi (K := K) B (pa_cons (pv 0) (pa_cons (n_ty (n := "int") B) pa_nil))) (pe_and (pe_not (c_isi (K := K) B (pa_cons (pv 0) (pa_cons (n_ty (n := "bool") B) pa_nil)))) (pe_one (pe_cmpR op_ge (pv 0) pe_int (nomark _))))))), ?_⟩
  rintro ds ⟨d, rfl, s, hs⟩
  refine sr_ret (ev_is (ev_andV (b := !isTy d "bool" && isCntD d) (ev_cb (ea_cons (ev_var rfl) (ea_cons ev_raw ea_nil)) (rc_isi hs (by decide))) fun h1 => ev_andV (ev_notV (ev_cb (ea_cons (ev_var rfl) (ea_cons ev_raw ea_nil)) (rc_isi hs (by decide)))) fun h2 => ?_) ?_)
  · cases d with
    | int i => exact ev_op (ev_var rfl) ev_int r2_Ib
    | bl b => exact absurd h2 Bool.false_ne_true
    | _ => exact absurd h1 Bool.false_ne_true
  · cases d <;> rfl
theorem sc_is_count_below : FnScope ["value", "limit"] ["value", "limit"] (defScope (top 12)) := ⟨rfl, rfl, rfl, by decide +kernel, rfl, by decide +kernel, by decide +kernel⟩
theorem ok_is_count_below (B : BFree mg) (D_is_count : DefOk P w K mg base "is_count" 1 ["value"] (sp_is_count K C)) (F : DefAt K mg "is_count_below" ["value", "limit"] (top 12) f fd) :
    DefOk P w K mg base "is_count_below" 2 ["value", "limit"] (sp_is_count_below K C) := by
  refine okD F sc_is_count_below fun cdv A outer s H E hr => ⟨_, (pss_one (ps_ret (pe_and (pe_def D_is_count (hr.mono (by first | decide | omega)) (pa_cons (pv 0) pa_nil)) (pe_one (pe_cmpR op_lt (pv 0) (pv 1) (nomark _)))))), ?_⟩
  rintro ds ⟨d, l, rfl, hs⟩
  refine sr_ret (ev_is (z := .bl (isBelD l d)) (ev_andV (b := isBelD l d) (ev_call (ea_cons (ev_var rfl) ea_nil) rfl ⟨d, rfl, hs⟩) fun h1 => ?_) ?_)
  · cases d with
    | int i => exact ev_is (ev_op (ev_var rfl) (ev_var rfl) r2_Ib) (by
        have h2 : decide (0 ≤ i) = true := h1
        show D.bl (decide (i < l)) = D.bl (decide (0 ≤ i) && decide (i < l))
        rw [h2, Bool.true_and])
    | _ => exact absurd h1 Bool.false_ne_true
  · cases d with
    | int i =>
      show D.bl (decide (0 ≤ i) && (decide (0 ≤ i) && decide (i < l))) = D.bl (decide (0 ≤ i) && decide (i < l))
      rw [← Bool.and_assoc, Bool.and_self]
    | _ => rfl
/-- where an ascending list stops to be one -/
theorem asc0_split : ∀ (ds : List D) (last : Int), ∃ k, k ≤ ds.length ∧ ∃ g : Nat → Int, g 0 = last ∧ (∀ i, i < k → ds[i]? = some (.int (g (i + 1))) ∧ 0 ≤ g (i + 1) ∧ g i < g (i + 1)) ∧
    (k = ds.length → asc0 last ds = true) ∧ ∀ d, ds[k]? = some d → asc0 last ds = false ∧ (isCntD d = true → ∃ n, d = .int n ∧ n ≤ g k)
  | [], last => ⟨0, Nat.le_refl _, fun _ => last, rfl, fun i h => absurd h (Nat.not_lt_zero _), fun _ => rfl, fun d h => by simp at h⟩
  | d :: ds, last => by
    by_cases hd : ∃ n, d = .int n ∧ 0 ≤ n ∧ last < n
    · obtain ⟨n, rfl, h0, h2⟩ := hd
      obtain ⟨k, hk, g, g0, ha, hb, hc⟩ := asc0_split ds n
      have e : asc0 last (.int n :: ds) = asc0 n ds := by
        show (decide (0 ≤ n) && decide (last < n) && asc0 n ds) = asc0 n ds
        rw [decide_eq_true h0, decide_eq_true h2]
        rfl
      refine ⟨k + 1, by rw [List.length_cons]; omega, fun i => match i with | 0 => last | i + 1 => g i, rfl, fun i hi => ?_, fun h => ?_, fun d h => ?_⟩
      · cases i with
        | zero =>
          show (D.int n :: ds)[0]? = some (.int (g 0)) ∧ 0 ≤ g 0 ∧ last < g 0
          rw [g0]
          exact ⟨rfl, h0, h2⟩
        | succ i =>
          have q := ha i (by omega)
          exact ⟨by simpa using q.1, q.2⟩
      · rw [e]
        exact hb (by rw [List.length_cons] at h; omega)
      · rw [e]
        exact hc d (by simpa using h)
    · refine ⟨0, Nat.zero_le _, fun _ => last, rfl, fun i h => absurd h (Nat.not_lt_zero _), fun h => by rw [List.length_cons] at h; omega, fun e h => ?_⟩
      have he : d = e := by simpa using h
      subst he
      cases d with
      | int n =>
        constructor
        · show (decide (0 ≤ n) && decide (last < n) && asc0 n ds) = false
          cases q : (decide (0 ≤ n) && decide (last < n)) with
          | false => rfl
          | true =>
            exfalso
            rw [Bool.and_eq_true, decide_eq_true_eq, decide_eq_true_eq] at q
            exact hd ⟨n, rfl, q.1, q.2⟩
        · intro q
          have q' : decide (0 ≤ n) = true := q
          rw [decide_eq_true_eq] at q'
          refine ⟨n, rfl, ?_⟩
          show n ≤ last
          have q3 : ¬ last < n := fun h => hd ⟨n, rfl, q', h⟩
          omega
      | _ => exact ⟨rfl, fun q => absurd q Bool.false_ne_true⟩
theorem sc_is_ascending : FnScope ["value", "last", "item"] ["value"] (defScope (top 13)) := ⟨rfl, rfl, rfl, by decide +kernel, rfl, by decide +kernel, by decide +kernel⟩
theorem ok_is_ascending (B : BFree mg) (D_is_count : DefOk P w K mg base "is_count" 1 ["value"] (sp_is_count K C)) (F : DefAt K mg "is_ascending" ["value"] (top 13) f fd) :
    DefOk P w K mg base "is_ascending" 2 ["value"] (sp_is_ascending K C) := by
  refine okD F sc_is_ascending fun cdv A outer s H E hr => ⟨_, (pss_cons (ps_if (pt_not (pt_val (c_isi (K := K) B (pa_cons (pv 0) (pa_cons (n_ty (n := "list") B) pa_nil))))) (pss_one (ps_ret pe_bl)) pss_nil) (pss_cons (ps_set (i := 1) sc_is_ascending.nd rfl (.inl rfl) (pe_un un_neg pe_int)) (pss_cons (ps_for PassesOwn.never rfl (i_list (K := K) (pv 0)) (pg_name (i := 2) sc_is_ascending.nd rfl (.inl rfl)) (pss_cons (ps_if (PW.pt (pw_or (pt_not (pt_val (pe_def D_is_count (hr.mono (by first | decide | omega)) (pa_cons (pv 2) pa_nil)))) (pw_or1 (pt_cmpR op_le (pv 2) (pv 1) (nomark _))))) (pss_one (ps_ret pe_bl)) pss_nil) (pss_one (ps_set (i := 1) sc_is_ascending.nd rfl (.inl rfl) (pv 2))))) (pss_one (ps_ret pe_bl))))), ?_⟩
  rintro ds ⟨d, rfl, ⟨s, hs⟩, hi⟩
  refine sr_guard (b := !isTy d "list") (et_not (et_B (ev_cb (ea_cons (ev_var rfl) (ea_cons ev_raw ea_nil)) (rc_isi hs (by decide))))) (fun h => ?_) (fun h => ?_)
  · refine sr_ret (ev_is ev_bl ?_)
    cases d with
    | lst ds => exact absurd h (by show ¬ (false = true); decide)
    | _ => rfl
  · cases d with
    | lst ds =>
      obtain ⟨k, hk, g, g0, ha, hb, hc⟩ := asc0_split ds (-1)
      refine sr_seq (sx_set (ev_is (z := .int (-1)) (ev_un ev_int r1_U) rfl)) ?_
      refine sr_for (as := ds) (g0 := id) (δs := fun i => [some (.lst ds), some (.int (g i)), none]) k hk (by rw [List.map_id]; exact ei_list (ev_var rfl)) ?_ (fun i a hik hia => ?_) (fun a hia => ?_) (fun hkl => ?_)
      · rw [g0]
        exact ⟨rfl, fun i d h => h⟩
      · obtain ⟨q1, q2, q4⟩ := ha i hik
        rw [hia] at q1
        cases q1
        refine ⟨_, ega_name, sx_seq (δ' := [some (.lst ds), some (.int (g i)), some (.int (g (i + 1)))]) (sx_if (b := false) (et_is (et_or (et_not (et_B (ev_is (z := .bl (isCntD (.int (g (i + 1))))) (ev_call (ea_cons (ev_var rfl) ea_nil) rfl ⟨_, rfl, _, rfl⟩) rfl))) (fun _ => et_test (ev_op (ev_var rfl) (ev_var rfl) r2_Ib))) ?_) (fun h => absurd h Bool.false_ne_true) (fun _ => sx_next)) (sx_weak (sx_set (ev_var rfl)) ⟨rfl, fun j d h => ?_⟩)⟩
        · show (!(decide (0 ≤ g (i + 1))) || decide (g (i + 1) ≤ g i)) = false
          rw [decide_eq_true q2, decide_eq_false (by omega)]
          rfl
        · match j, h with
          | 0, h => exact h
          | 1, h => exact h
          | 2, h => cases h
      · obtain ⟨q1, q2⟩ := hc a hia
        have ht : plainT a := hi a (List.mem_of_getElem? hia)
        refine ⟨_, ega_name, sr_seq1 (sr_if (b := true) (et_is (et_or (a := !isCntD a) (b := true) (et_not (et_B (ev_is (z := .bl (isCntD a)) (ev_call (ea_cons (ev_var rfl) ea_nil) rfl ⟨_, rfl, ht⟩) rfl))) (fun h => ?_)) (Bool.or_true _)) (fun _ => sr_ret (ev_is ev_bl ?_)) (fun h => absurd h.symm Bool.false_ne_true))⟩
        · obtain ⟨n, rfl, hn⟩ := q2 (by rw [Bool.not_eq_false'] at h; exact h)
          exact et_is (et_test (ev_op (ev_var rfl) (ev_var rfl) r2_Ib)) (decide_eq_true hn)
        · show D.bl false = D.bl (asc0 (-1) ds)
          rw [q1]
      · refine sr_ret (ev_is ev_bl ?_)
        show D.bl true = D.bl (asc0 (-1) ds)
        rw [hb hkl]
    | _ => exact absurd h (by show ¬ (true = false); decide)
theorem sc_is_ascending_below : FnScope ["value", "limit", "item"] ["value", "limit"] (defScope (top 14)) := ⟨rfl, rfl, rfl, by decide +kernel, rfl, by decide +kernel, by decide +kernel⟩
theorem ok_is_ascending_below (B : BFree mg) (D_is_ascending : DefOk P w K mg base "is_ascending" 2 ["value"] (sp_is_ascending K C)) (F : DefAt K mg "is_ascending_below" ["value", "limit"] (top 14) f fd) :
    DefOk P w K mg base "is_ascending_below" 3 ["value", "limit"] (sp_is_ascending_below K C) := by
  refine okD F sc_is_ascending_below fun cdv A outer s H E hr => ⟨_, (pss_one (ps_ret (pe_and (pe_def D_is_ascending (hr.mono (by first | decide | omega)) (pa_cons (pv 0) pa_nil)) (pe_one (c_all (K := K) B (pa_cons (pe_lc (own := [("item", 2)]) rfl sc_is_ascending_below.nd (i_list (K := K) (pv 0)) (blkOk_by (own := [("item", 2)]) (N := ["value", "limit", "item"]) (sc := (defScope (top 14))) (by decide +kernel)) (fun _ _ _ _ _ => pg_name (i := 2) sc_is_ascending_below.nd rfl (.inl rfl)) (fun _ _ _ _ _ => pts_nil) (fun _ _ _ _ _ => (pe_cmpR op_lt (pv 2) (pv 1) (nomark _)))) pa_nil)))))), ?_⟩
  rintro ds ⟨d, l, rfl, hs, hi, hn⟩
  refine sr_ret (ev_is (z := .bl (isAscD l d)) (ev_andV (a := isAsc0 d) (b := isAscD l d) (ev_is (ev_call (ds := [d]) (ea_cons (ev_var rfl) ea_nil) rfl ⟨d, rfl, hs, hi⟩) rfl) fun h1 => ?_) ?_)
  · cases d with
    | lst ds =>
      have h1' : asc0 (-1) ds = true := h1
      refine ev_is (ev_cb (ea_cons (ev_is (z := .lst (dB (ds.map (ltD l)))) (en_lc1 (as := ds) (g0 := id) (f := fun d => .bl (ltD l d)) (by rw [List.map_id]; exact ei_list (ev_var rfl)) (fun a ha => eg_name (by decide)) (fun a ha => ?_) hn).toD (by unfold dB; rw [List.map_map]; rfl)) ea_nil) rc_all) ?_
      · obtain ⟨i, rfl⟩ := asc0_int ds (-1) h1' a ha
        exact ev_is (ev_op (ev_var rfl) (ev_var rfl) r2_Ib) rfl
      · congr 1
        show _ = asc l (-1) ds
        rw [← asc0_asc, h1', Bool.true_and, List.all_map]
        rfl
    | _ => exact absurd h1 Bool.false_ne_true
  · cases d with
    | lst ds =>
      show D.bl (asc0 (-1) ds && asc l (-1) ds) = D.bl (asc l (-1) ds)
      rw [← asc0_asc]
      cases asc0 (-1) ds <;> rfl
    | _ => rfl
end
end Zm


set_option Elab.async false
set_option linter.all false
set_option maxRecDepth 100000
set_option maxHeartbeats 4000000
set_option autoImplicit false
namespace Zm
open PySem PySem.Spec L2
abbrev isRcp (ds : List D) : Prop := ∃ m rows, ds = [.rcp m rows] ∧ ValidR m rows
abbrev f_many (ds : List D) : D := match ds with
  | [.rcp m _] => .int m
  | _ => .non
abbrev f_size (ds : List D) : D := match ds with
  | [.rcp _ rows] => .int rows.length
  | _ => .non
abbrev f_needs (ds : List D) : D := match ds with
  | [.rcp _ rows] => rowsL rows
  | _ => .non
abbrev f_are_needs (ds : List D) : D := .bl true
abbrev sp_are_needs (K : PySem.W.Frag) (C : Addr) : Sp := SpD K C (fun ds => ∃ m rows, ds = [.int m, rowsL rows] ∧ ValidR m rows) f_are_needs 2
abbrev sp_many (K : PySem.W.Frag) (C : Addr) : Sp := SpD K C isRcp f_many 1
abbrev sp_size (K : PySem.W.Frag) (C : Addr) : Sp := SpD K C isRcp f_size 1
abbrev sp_needs (K : PySem.W.Frag) (C : Addr) : Sp := SpF K C isRcp f_needs 1
section
variable {P : Program} {w : World} {K : PySem.W.Frag} {mg : Str → Option Value} {base : Heap} {f C : Addr} {fd : FuncData}
theorem sc_Recipe_many : FnScope ["self"] ["self"] (defScope (inClass (top 17) 1)) := ⟨rfl, rfl, rfl, by decide +kernel, rfl, by decide +kernel, by decide +kernel⟩
theorem ok_many (cl : Cls K C) (na : NoAttr K C sMany) (F : MethAt K C "many" "Recipe.many" ["self"] (inClass (top 17) 1) f fd) : MethOk P w K mg base C "many" 1 ["self"] (sp_many K C) := by
  refine F.okD cl sc_Recipe_many fun cdv A outer s H E hr => ⟨_, (pss_one (ps_ret (e_fld (K := K) (pv 0)))), ?_⟩
  rintro ds ⟨m, rows, rfl, _⟩
  exact sr_ret (ev_many cl na (ev_var rfl))
theorem sc_Recipe_size : FnScope ["self"] ["self"] (defScope (inClass (top 17) 3)) := ⟨rfl, rfl, rfl, by decide +kernel, rfl, by decide +kernel, by decide +kernel⟩
theorem ok_size (B : BFree mg) (cl : Cls K C) (na : NoAttr K C sNeeds) (F : MethAt K C "size" "Recipe.size" ["self"] (inClass (top 17) 3) f fd) : MethOk P w K mg base C "size" 1 ["self"] (sp_size K C) := by
  refine F.okD cl sc_Recipe_size fun cdv A outer s H E hr => ⟨_, (pss_one (ps_ret (c_len (K := K) B (pa_cons (e_fld (K := K) (pv 0)) pa_nil)))), ?_⟩
  rintro ds ⟨m, rows, rfl, _⟩
  exact sr_ret (ev_is (z := .int rows.length) (ev_cb (ea_cons (ev_needs cl na (ev_var rfl)) ea_nil) rc_lenT) (by rw [List.length_map]))
theorem sc_Recipe_needs : FnScope ["self", "row"] ["self"] (defScope (inClass (top 17) 2)) := ⟨rfl, rfl, rfl, by decide +kernel, rfl, by decide +kernel, by decide +kernel⟩
theorem ok_needs (B : BFree mg) (cl : Cls K C) (na : NoAttr K C sNeeds) (F : MethAt K C "needs" "Recipe.needs" ["self"] (inClass (top 17) 2) f fd) : MethOk P w K mg base C "needs" 1 ["self"] (sp_needs K C) := by
  refine F.okF cl sc_Recipe_needs fun cdv A outer s H E hr => ⟨_, (pss_one (ps_ret (pe_lc (own := [("row", 1)]) rfl sc_Recipe_needs.nd (i_tup (K := K) (e_fld (K := K) (pv 0))) (blkOk_by (own := [("row", 1)]) (N := ["self", "row"]) (sc := (defScope (inClass (top 17) 2))) (by decide +kernel)) (fun _ _ _ _ _ => pg_name (i := 1) sc_Recipe_needs.nd rfl (.inl rfl)) (fun _ _ _ _ _ => pts_nil) (fun _ _ _ _ _ => (c_list (K := K) B (pa_cons (pv 1) pa_nil)))))), ?_⟩
  rintro ds ⟨m, rows, rfl, hv⟩
  exact sf_ret (ef_lc1 (g0 := fun r => D.tup (dI r)) (f := fun r => D.lst (dI r)) (as := rows) (ei_tup (ev_needs cl na (ev_var rfl))) (fun a ha => eg_name (by decide)) (fun a ha => ef_of (en_cb (ea_cons (ev_var rfl) ea_nil) rn_listT) (sca_ints a)) (by have := hv.2.2.1; omega))
theorem asc_ok {m : Int} : ∀ {ns : List Int} {last : Int}, (∀ x ∈ ns, 0 ≤ x ∧ x < m) → ns.Pairwise (· < ·) → (∀ x ∈ ns, last < x) → asc m last (dI ns) = true
  | [], _, _, _, _ => rfl
  | n :: ns, last, h1, h2, h3 => by
    rw [List.pairwise_cons] at h2
    obtain ⟨a, b⟩ := h1 n (List.mem_cons_self ..)
    show (decide (0 ≤ n) && decide (n < m) && decide (last < n) && asc m n (dI ns)) = true
    rw [decide_eq_true a, decide_eq_true b, decide_eq_true (h3 n (List.mem_cons_self ..)), asc_ok (fun x hx => h1 x (List.mem_cons_of_mem _ hx)) h2.2 h2.1]
    rfl
theorem isAsc_row {m : Int} {ns : List Int} (h : RowOk m ns) : isAscD m (.lst (dI ns)) = true := asc_ok h.2 h.1 fun x hx => by have := (h.2 x hx).1; omega
theorem plain_row {ns : List Int} : plainT (.lst (dI ns)) ∧ itemsT (.lst (dI ns)) := ⟨⟨_, rfl⟩, fun d hd => by
  obtain ⟨n, _, rfl⟩ := List.mem_map.mp hd
  exact ⟨_, rfl⟩⟩
theorem len_row {ns : List Int} (h : ns.length ≤ 100000) : lenT (.lst (dI ns)) := by
  show (dI ns).length ≤ 100000
  unfold dI
  rw [List.length_map]
  exact h
theorem up_len : ∀ {ns : List Int} {lo hi : Int}, ns.Pairwise (· < ·) → (∀ x ∈ ns, lo ≤ x ∧ x < hi) → ns.length ≤ (hi - lo).toNat
  | [], _, _, _, _ => Nat.zero_le _
  | n :: ns, lo, hi, h, g => by
    rw [List.pairwise_cons] at h
    have a := g n (List.mem_cons_self ..)
    have b := up_len (lo := n + 1) (hi := hi) h.2 fun x hx => by
      have c := h.1 x hx
      have d := (g x (List.mem_cons_of_mem _ hx)).2
      omega
    rw [List.length_cons]
    omega
theorem row_lenN {n : Nat} {ns : List Int} (h : RowOk n ns) : ns.length ≤ n := by
  have := up_len h.1 h.2
  omega
theorem sc_are_needs : FnScope ["many", "needs", "row"] ["many", "needs"] (defScope (top 18)) := ⟨rfl, rfl, rfl, by decide +kernel, rfl, by decide +kernel, by decide +kernel⟩
theorem ok_are_needs (B : BFree mg) (D_is_ascending_below : DefOk P w K mg base "is_ascending_below" 3 ["value", "limit"] (sp_is_ascending_below K C)) (F : DefAt K mg "_are_needs" ["many", "needs"] (top 18) f fd) : DefOk P w K mg base "_are_needs" 4 ["many", "needs"] (sp_are_needs K C) := by
  refine okD F sc_are_needs fun cdv A outer s H E hr => ⟨_, (pss_cons (ps_if (PW.pt (pw_or (pt_not (pt_val (c_isi (K := K) B (pa_cons (pv 1) (pa_cons (n_ty (n := "list") B) pa_nil))))) (pw_or1 (pt_cmpR (o_eq (K := K) (by exact hr.units)) (c_len (K := K) B (pa_cons (pv 1) pa_nil)) pe_int (nomark _))))) (pss_one (ps_ret pe_bl)) pss_nil) (pss_one (ps_ret (c_all (K := K) B (pa_cons (pe_lc (own := [("row", 2)]) rfl sc_are_needs.nd (i_list (K := K) (pv 1)) (blkOk_by (own := [("row", 2)]) (N := ["many", "needs", "row"]) (sc := (defScope (top 18))) (by decide +kernel)) (fun _ _ _ _ _ => pg_name (i := 2) sc_are_needs.nd rfl (.inl rfl)) (fun _ _ _ _ _ => pts_nil) (fun _ _ _ _ _ => (pe_def D_is_ascending_below (hr.mono (by first | decide | omega)) (pa_cons (pv 2) (pa_cons (pv 0) pa_nil))))) pa_nil))))), ?_⟩
  rintro ds ⟨m, rows, rfl, hv⟩
  have hl : (rows.map fun r => D.lst (dI r)).length = rows.length := List.length_map _
  refine sr_guard (b := false) (et_is (et_or (et_not (et_B (ev_cb (ea_cons (ev_var rfl) (ea_cons ev_raw ea_nil)) (rc_isi rfl (by decide))))) fun _ => et_test (ev_op (ev_cb (ea_cons (ev_var rfl) ea_nil) rc_lenL) ev_int (r2_eq shp_int shp_int))) ?_) (fun h => absurd h Bool.false_ne_true) (fun _ => ?_)
  · rw [eqD_int, hl]
    have e : decide ((rows.length : Int) = 0) = false := decide_eq_false (by have := hv.2.1; omega)
    rw [e]
    rfl
  · refine sr_ret (ev_is (z := .bl true) (ev_cb (ea_cons (ev_is (z := .lst (dB (rows.map fun _ => true))) (en_lc1 (as := rows) (g0 := fun r => D.lst (dI r)) (ei_list (ev_var rfl)) (fun a ha => eg_name (by decide)) (fun a ha => ev_is (z := .bl true) (ev_call (ds := [.lst (dI a), .int m]) (ea_cons (ev_var rfl) (ea_cons (ev_var rfl) ea_nil)) rfl ⟨_, _, rfl, plain_row.1, plain_row.2, len_row (by have := (hv.2.2.2 a ha).2; omega)⟩) ?_) (by have := hv.2.2.1; omega)).toD (by unfold dB; rw [List.map_map]; rfl)) ea_nil) rc_all) ?_)
    · show D.bl (isAscD m (.lst (dI a))) = .bl true
      rw [isAsc_row (hv.2.2.2 a ha).1]
    · congr 1
      rw [List.all_map]
      exact List.all_eq_true.mpr fun _ _ => rfl
theorem sc_Recipe___init__ : FnScope ["self", "many", "needs", "row"] ["self", "many", "needs"] (defScope (inClass (top 17) 0)) := ⟨rfl, rfl, rfl, by decide +kernel, rfl, by decide +kernel, by decide +kernel⟩
theorem ok_init (B : BFree mg) (cl : Cls K C) (na : NoAttr K C sMany) (na2 : NoAttr K C sNeeds) (D_is_count : DefOk P w K mg base "is_count" 1 ["value"] (sp_is_count K C)) (D_are_needs : DefOk P w K mg base "_are_needs" 4 ["many", "needs"] (sp_are_needs K C))
    (mk : Mk K C f) (hg : mg "Recipe" = some (.ref C)) (F : FunD K "__init__" "Recipe.__init__" (defArgs (inClass (top 17) 0)) (defBody (inClass (top 17) 0)) (defScope (inClass (top 17) 0)) [] [] f fd) (bi : Binds K fd ["self", "many", "needs"] []) : MakeOk P w K mg base C "Recipe" 5 ["self", "many", "needs"] (spInit K C) := by
  refine ⟨f, fd, F.ok sc_Recipe___init__ (fun vs H Q E h => ?_) fun cdv A outer s H vs Q E hr h => ?_, mk, hg, bi⟩
  · obtain ⟨x, dx, m, rows, v, O, H0, rfl, _⟩ := h
    rfl
  · obtain ⟨x, dx, m, rows, v, O, H0, rfl, hx, s0, hX, o, hv, ok, hQ⟩ := h
    suffices hh : ∃ t, PSs (cxOf CX0 P w K mg base ["self", "many", "needs", "row"] "Recipe.__init__" (defScope (inClass (top 17) 0)) f cdv A outer s H E).nox (defBody (inClass (top 17) 0)) t ∧ t { nx := fun _ H' => Q .non H', rt := Q } (L2.start ["self", "many", "needs", "row"] [.ref x, .int m, v]) H by
      obtain ⟨t, h1, h2⟩ := hh
      exact ⟨t, PSs.nox h1, h2⟩
    refine ⟨_, (pss_cons (ps_if (pt_not (pt_val (pe_def D_is_count (hr.mono (by first | decide | omega)) (pa_cons (pv 1) pa_nil)))) (pss_one ps_never) pss_nil) (pss_cons (ps_if (pt_not (pt_val (pe_def D_are_needs (hr.mono (by first | decide | omega)) (pa_cons (pv 1) (pa_cons (pv 2) pa_nil))))) (pss_one ps_never) pss_nil) (pss_cons (ps_fld (pv 0) (pv 1) rfl) (pss_one (ps_fld (pv 0) (c_tuple (K := K) B (pa_cons (pe_lc (own := [("row", 3)]) rfl sc_Recipe___init__.nd (i_list (K := K) (pv 2)) (blkOk_by (own := [("row", 3)]) (N := ["self", "many", "needs", "row"]) (sc := (defScope (inClass (top 17) 0))) (by decide +kernel)) (fun _ _ _ _ _ => pg_name (i := 3) sc_Recipe___init__.nd rfl (.inl rfl)) (fun _ _ _ _ _ => pts_nil) (fun _ _ _ _ _ => (c_tuple (K := K) B (pa_cons (pv 3) pa_nil)))) pa_nil)) rfl))))), ?_⟩
    have o1 : OIn (addO O x) H := (o.same s0).add ⟨_, hX, trivial⟩
    have s1 : Same (hid O H0) (hid (addO O x) H) := (add_fresh hx).trans (same_hid s0)
    have n0 := at_start (N := ["self", "many", "needs", "row"]) o1 (.cons (d := .raw (.ref x)) (dat_raw.mpr rfl) (.cons (d := .int m) (dat_int.mpr rfl) (.one (hv.same s1))))
    refine (sx_if (b := false) (δ' := startD ["self", "many", "needs", "row"] [.raw (.ref x), .int m, rowsL rows]) (et_is (et_not (et_B (ev_is (z := .bl true) (ev_call (ds := [.int m]) (ea_cons (ev_var rfl) ea_nil) rfl ⟨_, rfl, _, rfl⟩) ?_))) rfl) (fun h => absurd h Bool.false_ne_true) (fun _ => sx_next)) _ _ _ n0 _ fun σ1 H1 s2 n1 => ?_
    · show D.bl (decide (0 ≤ m)) = .bl true
      rw [decide_eq_true ok.1]
    refine (sx_if (b := false) (δ' := startD ["self", "many", "needs", "row"] [.raw (.ref x), .int m, rowsL rows]) (et_is (et_not (et_B (ev_is (z := .bl true) (ev_call (ds := [.int m, rowsL rows]) (ea_cons (ev_var rfl) (ea_cons (ev_var rfl) ea_nil)) rfl ⟨m, rows, rfl, ok⟩) rfl))) rfl) (fun h => absurd h Bool.false_ne_true) (fun _ => sx_next)) _ _ _ n1 _ fun σ2 H2 s3 n2 => ?_
    dsimp only [tSeq, sFld]
    refine (ev_var (i := 1) (d := .int m) rfl) _ _ _ n2 _ fun y H3 s4 d4 => ?_
    refine (ev_var (i := 0) (d := .raw (.ref x)) rfl) _ _ _ (n2.same s4) _ fun z H4 s5 d5 => ?_
    have e4 := dat_int.mp d4
    have e5 := dat_raw.mp d5
    subst e4 e5
    have s14 : Same H H4 := ((s2.trans s3).trans s4).trans s5
    refine ⟨x, C, dx, [], rfl, s14 _ _ hX, cl, na, by decide, ?_⟩
    rw [put_many]
    have n4 := (n2.same (s4.trans s5)).write (o := .ins C dx [(sMany, V.int m)])
    refine (ef_tup (ef_lc1 (as := rows) (g0 := fun r => D.lst (dI r)) (f := fun r => D.tup (dI r)) (ei_list (ev_var rfl)) (fun a ha => eg_name (by decide)) (fun a ha => ef_ofT (en_cb (ea_cons (ev_var rfl) ea_nil) rn_tupL) (sca_ints a)) (by have := ok.2.2.1; omega))) _ _ _ n4 _ fun y H5 s6 d6 => ?_
    refine (ev_var (i := 0) (d := .raw (.ref x)) rfl) _ _ _ (n4.same s6) _ fun z H6 s7 d7 => ?_
    have e7 := dat_raw.mp d7
    subst e7
    refine ⟨x, C, dx, _, rfl, s7 _ _ (s6 _ _ upd_same), cl, na2, by show 1 < 1000; decide, ?_⟩
    obtain ⟨t, xs, rfl, h1, h2⟩ := dat_tup_iff.mp d6
    rw [put_needs]
    have s04 : Same H0 (upd H4 x (.ins C dx [(sMany, V.int m)])) := same_mut (s0.trans s14) hx
    have hdx : dom (upd H4 x (.ins C dx [(sMany, V.int m)])) x = true := by unfold dom; rw [upd_same]; rfl
    refine hQ _ (same_mut (s04.trans (s6.trans s7)) hx) (dat_rcp_iff.mpr ⟨x, dx, t, xs, rfl, ?_, ?_, ?_⟩)
    · unfold hid dom
      rw [hx]
      exact upd_same
    · refine dom_le s04 _ _ ?_
      rw [hid_upd hdx]
      exact same_hid s7 _ _ h1
    · have h3 := dats_rows (h2.same (same_hid s7))
      rw [← hid_upd (o := .ins C dx (fsR m t)) hdx] at h3
      exact RowsT.same (dom_le s04) _ _ h3
abbrev sp_check_recipe (K : PySem.W.Frag) (C : Addr) : Sp := SpD K C isRcp (fun _ => .non) 1
theorem sc_check_recipe : FnScope ["recipe"] ["recipe"] (defScope (top 19)) := ⟨rfl, rfl, rfl, by decide +kernel, rfl, by decide +kernel, by decide +kernel⟩
theorem ok_check_recipe (B : BFree mg) (R : RecFacts K C) (G_Recipe : mg "Recipe" = some (.ref C)) (F : DefAt K mg "check_recipe" ["recipe"] (top 19) f fd) : DefOk P w K mg base "check_recipe" 1 ["recipe"] (sp_check_recipe K C) := by
  refine F.ok sc_check_recipe (fun vs H Q E h => h.1) (fun cdv A outer s H vs Q E hr h => ?_)
  refine ⟨_, (pss_one (ps_if (pt_not (pt_val (c_isi (K := K) B (pa_cons (pv 0) (pa_cons (n_cl G_Recipe) pa_nil))))) (pss_one ps_never) pss_nil)), ?_⟩
  obtain ⟨_, O, ds, o, hd, ⟨m, rows, rfl, _⟩, hQ⟩ := h
  exact (sx_if (b := false) (δ' := startD ["recipe"] [.rcp m rows]) (et_is (et_not (et_B (ev_cb (ea_cons (ev_var rfl) (ea_cons ev_raw ea_nil)) (rc_isiR R)))) rfl) (fun h => absurd h Bool.false_ne_true) (fun _ => sx_next)) _ _ _ (at_start o hd) _ fun σ' H' s _ => hQ _ H' s (dat_non.mpr rfl)
abbrev f_needs_of (ds : List D) : D := match ds with
  | [.rcp _ rows, .int b] => .lst (dI (rows.getD b.toNat []))
  | _ => .non
abbrev sp_needs_of (K : PySem.W.Frag) (C : Addr) : Sp := SpF K C (fun ds => ∃ m rows b, ds = [.rcp m rows, .int b] ∧ ValidR m rows ∧ 0 ≤ b ∧ b < rows.length) f_needs_of 2
theorem sc_needs_of : FnScope ["recipe", "block"] ["recipe", "block"] (defScope (top 20)) := ⟨rfl, rfl, rfl, by decide +kernel, rfl, by decide +kernel, by decide +kernel⟩
theorem ok_needs_of (D_check_recipe : DefOk P w K mg base "check_recipe" 1 ["recipe"] (sp_check_recipe K C)) (D_is_count_below : DefOk P w K mg base "is_count_below" 2 ["value", "limit"] (sp_is_count_below K C)) (D_m_size : MethOk P w K mg base C "size" 1 ["self"] (sp_size K C)) (D_m_needs : MethOk P w K mg base C "needs" 1 ["self"] (sp_needs K C))
    (F : DefAt K mg "needs_of" ["recipe", "block"] (top 20) f fd) : DefOk P w K mg base "needs_of" 3 ["recipe", "block"] (sp_needs_of K C) := by
  refine okF F sc_needs_of fun cdv A outer s H E hr => ⟨_, (pss_cons (ps_expr (pe_def D_check_recipe (hr.mono (by first | decide | omega)) (pa_cons (pv 0) pa_nil))) (pss_cons (ps_if (pt_not (pt_val (pe_def D_is_count_below (hr.mono (by first | decide | omega)) (pa_cons (pv 1) (pa_cons (pe_me0 D_m_size (hr.mono (by first | decide | omega)) (pv 0)) pa_nil))))) (pss_one ps_never) pss_nil) (pss_one (ps_ret (pe_ix (x_list (K := K)) (pe_me0 D_m_needs (hr.mono (by first | decide | omega)) (pv 0)) (pv 1) (fun _ _ => rfl)))))), ?_⟩
  rintro ds ⟨m, rows, b, rfl, hv, b0, b1⟩
  refine sf_seq (sx_drop (ev_call (ds := [.rcp m rows]) (ea_cons (ev_var rfl) ea_nil) rfl ⟨m, rows, rfl, hv⟩)) ?_
  refine sf_guard (b := false) (et_is (et_not (et_B (ev_is (z := .bl true) (ev_call (ds := [.int b, .int rows.length]) (ea_cons (ev_var rfl) (ea_cons (ev_is (z := .int rows.length) (ev_meth (ev_var rfl) ea_nil (by decide +kernel) (by decide +kernel) rfl ⟨m, rows, rfl, hv⟩) rfl) ea_nil)) rfl ⟨_, _, rfl, _, rfl⟩) ?_))) rfl) (fun h => absurd h Bool.false_ne_true) (fun _ => ?_)
  · show D.bl (decide (0 ≤ b) && decide (b < rows.length)) = .bl true
    rw [decide_eq_true b0, decide_eq_true b1]
    rfl
  · refine sf_ret (ef_ix (ef_is (z := rowsL rows) (ef_meth (ev_var rfl) ea_nil (by decide +kernel) (by decide +kernel) rfl ⟨m, rows, rfl, hv⟩) rfl) (ev_var rfl) ?_)
    unfold atI ixN
    rw [List.length_map, if_pos b0, if_pos b1, Option.bind_some, List.getElem?_map]
    have hb : b.toNat < rows.length := by omega
    rw [List.getElem?_eq_getElem hb]
    show some (D.lst (dI rows[b.toNat])) = some (D.lst (dI (rows.getD b.toNat [])))
    rw [List.getD_eq_getElem?_getD, List.getElem?_eq_getElem hb]
    rfl
def usersI (rows : List (List Int)) (b : Int) : List Int := (rows.zipIdx.filter fun p => decide (b ∈ p.1)).map fun p => (p.2 : Int)
abbrev f_users_of (ds : List D) : D := match ds with
  | [.rcp _ rows, .int b] => .lst (dI (usersI rows b))
  | _ => .non
abbrev sp_users_of (K : PySem.W.Frag) (C : Addr) : Sp := SpF K C (fun ds => ∃ m rows b, ds = [.rcp m rows, .int b] ∧ ValidR m rows ∧ 0 ≤ b ∧ b < m) f_users_of 2
theorem enu_rows (rows : List (List Int)) : enuD (rows.map fun r => D.lst (dI r)) = rows.zipIdx.map fun (p : List Int × Nat) => D.tup [.int (p.2 : Int), .lst (dI p.1)] := by
  unfold enuD
  rw [List.zipIdx_map, List.map_map]
  rfl
end
end Zm


set_option Elab.async false
set_option linter.all false
set_option maxRecDepth 100000
set_option maxHeartbeats 4000000
set_option autoImplicit false
namespace Zm
open PySem PySem.Spec L2 PyProof.Rows

/-! ### set comprehensions of two clauses, over ints -/
abbrev Nay : Value → Shared → Prop := fun _ _ => False
/-- one turn of a clause: the item, its store, the tests -/
def Nest (P : Program) (w : World) (A : Around) (tg : Expr) (ifs : List Expr) (it : Value) (env : Env) (Stop : Shared → Prop) (Body : Bool → Shared → Prop) (s : Shared) : Prop :=
  wpAny (model P w) A (pyNext it) (fun r s1 => match r with
    | none => Stop s1
    | some v => wpAny (model P w) A (letOwnedTupleGo tg it v) (fun _ s2 => wpAny (model P w) A (assign tg env v) (fun _ s3 =>
        wpAny (model P w) A (forIn ifs true fun c r => if r = true then do let ok ← isTrue c env (eval c env); pure (ForInStep.yield ok) else pure (ForInStep.yield r)) Body Nay s3) Nay s2) Nay s1) Nay s
theorem nay {α : Type} {t : Sem α} {Q Q' : α → Shared → Prop} {M : Model} {A : Around} {E : Value → Shared → Prop} {s : Shared} (h : wpAny M A t Q Nay s) (f : ∀ a s, Q a s → Q' a s) : wpAny M A t Q' E s :=
  wpAny_mono h f fun _ _ z => z.elim

section
variable {P : Program} {w : World} {A : Around} {R : Result → Shared → Prop} {s : Shared} {elt t0 i0 t1 i1 : Expr} {f0 f1 : List Expr} {scope : Scope} {pos : Pos} {it acc : Value} {env : Env}
abbrev sc2 (elt t0 i0 t1 i1 : Expr) (f0 f1 : List Expr) (scope : Scope) (pos : Pos) : Expr := .SetComp elt [⟨t0, i0, f0, 0⟩, ⟨t1, i1, f1, 0⟩] scope pos
theorem turnS_out : compTurn (sc2 elt t0 i0 t1 i1 f0 f1 scope pos) 0 it acc env = (do
      standAt i0.pos
      match ← pyNext it with
      | none => pure (.done .next)
      | some v =>
        letOwnedTupleGo t0 it v
        assign t0 env v
        let mut yes := true
        for c in f0 do
          if yes then yes ← isTrue c env (eval c env)
        if yes then
          let z ← eval i1 env
          standAt i1.pos
          let z ← foldedSetIterable i1 env z
          let _ ← runOwn (.compStart (sc2 elt t0 i0 t1 i1 f0 f1 scope pos) 1 (← holding [z] (pyIter z)) acc env) env
        again (.compLoop (sc2 elt t0 i0 t1 i1 f0 f1 scope pos) 0 it acc env)) := by rfl
theorem turnS_in : compTurn (sc2 elt t0 i0 t1 i1 f0 f1 scope pos) 1 it acc env = (do
      standAt i1.pos
      match ← pyNext it with
      | none => pure (.done .next)
      | some v =>
        letOwnedTupleGo t1 it v
        assign t1 env v
        let mut yes := true
        for c in f1 do
          if yes then yes ← isTrue c env (eval c env)
        if yes then
          (do let z ← eval elt env; standAt elt.pos; let _ ← call (.builtin "set.add") [acc, z])
        again (.compLoop (sc2 elt t0 i0 t1 i1 f0 f1 scope pos) 1 it acc env)) := by rfl
abbrev Less (I : Nat → Shared → Prop) (n : Nat) : Shared → Prop := fun s => ∃ m, m < n ∧ I m s
/-- what an inner loop is to reach -/
def Inner (G : Shared → Prop) : Result → Shared → Prop := fun r s => match r with
  | .ok _ => G s
  | .error _ => False
theorem loopS_out (fs : ∀ x, foldedSetIterable i1 env x = pure x) (I : Nat → Shared → Prop) (turn : ∀ n s, I n s → Nest P w A t0 f0 it env (R (.ok .next)) (fun b s4 => if b = true then
      wpAny (model P w) A (eval i1 env) (fun z s5 => wpAny (model P w) A (pyIter z) (fun j s6 => codeAny (model P w) A (.compStart (sc2 elt t0 i0 t1 i1 f0 f1 scope pos) 1 j acc env) (Inner (Less I n)) s6) Nay s5) Nay s4 else Less I n s4) s)
    (n : Nat) (h : I n s) : codeAny (model P w) A (.compLoop (sc2 elt t0 i0 t1 i1 f0 f1 scope pos) 0 it acc env) R s := by
  refine codeAny_loop rfl I (fun n s hI => ?_) n h
  show wpAny _ A ((compTurn (sc2 elt t0 i0 t1 i1 f0 f1 scope pos) 0 it acc env).onRaise _) _ _ s
  refine wpAny_noted ?_
  rw [turnS_out]
  refine wpAny_bind (wpAny_standAt (wpAny_bind (nay (turn n s hI) fun r s1 q1 => ?_)))
  cases r with
  | none => exact wpAny_pure q1
  | some v =>
    refine wpAny_bind (nay q1 fun _ s2 q2 => wpAny_bind (nay q2 fun _ s3 q3 => wpAny_bind (nay q3 fun b s4 q4 => ?_)))
    cases b with
    | false => exact wpAny_pure ⟨rfl, q4⟩
    | true =>
      refine wpAny_bind (nay q4 fun z s5 q5 => wpAny_bind (wpAny_standAt (wpAny_bind (wpAny_of_eq (fs z) (wpAny_bind (wpAny_holding (nay q5 fun j s6 q6 => ?_)))))))
      refine wpAny_bind (wpAny_runOwn ?_)
      rw [Around.mark_none]
      refine codeAny_mono q6 fun r s7 q7 => ?_
      cases r with
      | ok f =>
        first
          | exact wpAny_pure ⟨rfl, q7⟩
          | exact wpAny_bind (wpAny_pure (wpAny_pure ⟨rfl, q7⟩))
      | error e => exact q7.elim
theorem loopS_in (I : Nat → Shared → Prop) (turn : ∀ n s, I n s → Nest P w A t1 f1 it env (R (.ok .next)) (fun b s4 => if b = true then
      wpAny (model P w) A (eval elt env) (fun z s5 => wpAny (model P w) A (call (.builtin "set.add") [acc, z]) (fun _ s6 => Less I n s6) Nay s5) Nay s4 else Less I n s4) s)
    (n : Nat) (h : I n s) : codeAny (model P w) A (.compLoop (sc2 elt t0 i0 t1 i1 f0 f1 scope pos) 1 it acc env) R s := by
  refine codeAny_loop rfl I (fun n s hI => ?_) n h
  show wpAny _ A ((compTurn (sc2 elt t0 i0 t1 i1 f0 f1 scope pos) 1 it acc env).onRaise _) _ _ s
  refine wpAny_noted ?_
  rw [turnS_in]
  refine wpAny_bind (wpAny_standAt (wpAny_bind (nay (turn n s hI) fun r s1 q1 => ?_)))
  cases r with
  | none => exact wpAny_pure q1
  | some v =>
    refine wpAny_bind (nay q1 fun _ s2 q2 => wpAny_bind (nay q2 fun _ s3 q3 => wpAny_bind (nay q3 fun b s4 q4 => ?_)))
    cases b with
    | false => exact wpAny_pure ⟨rfl, q4⟩
    | true => exact wpAny_bind (wpAny_bind (nay q4 fun z s5 q5 => wpAny_bind (wpAny_standAt (wpAny_bind (nay q5 fun _ s6 q6 => wpAny_pure (wpAny_pure ⟨rfl, q6⟩))))))
/-- the second clause's start -/
theorem startS_in (h0 : codeAny (model P w) A (.compLoop (sc2 elt t0 i0 t1 i1 f0 f1 scope pos) 1 it acc env) R s)
    (h : wpAny (model P w) A (pyIter it) (fun j s1 => codeAny (model P w) A (.compLoop (sc2 elt t0 i0 t1 i1 f0 f1 scope pos) 1 j acc env) R s1) Nay s) :
    codeAny (model P w) A (.compStart (sc2 elt t0 i0 t1 i1 f0 f1 scope pos) 1 it acc env) R s := by
  refine codeAny_of_tree ?_
  show wpAny _ _ ((compStart (sc2 elt t0 i0 t1 i1 f0 f1 scope pos) 1 it acc env).onRaise _) _ _ s
  refine wpAny_notedAt ?_
  unfold compStart
  show wpAny _ _ (ask >>= _) _ _ s
  refine wpAny_bind (wpAny_askSetting (wpAny_ite ?_))
  split
  · first
      | exact wpAny_bind (wpAny_pure (wpAny_pure ⟨rfl, h0⟩))
      | exact wpAny_pure ⟨rfl, h0⟩
  · first
      | exact wpAny_bind (wpAny_rule (wpAny_bind (wpAny_standAt (wpAny_bind (nay h fun j s1 q => wpAny_pure ⟨rfl, q⟩)))))
      | (refine wpAny_bind (wpAny_rule ?_)
         show wpAny _ _ (standAt i1.pos >>= _) _ _ s
         exact wpAny_bind (wpAny_standAt (wpAny_bind (nay h fun j s1 q => wpAny_pure ⟨rfl, q⟩))))
end

/-- a loop of a block stands ahead of some turn -/
def Stands (X : Cx) (pins : List (Addr × Obj)) (σ : L2.St) (fp : List Addr) (tn : Nat → Heap → Prop) (W : Nat → Nat → Hp → Prop) (k : Nat) (s : Shared) : Prop :=
  ∃ j H, Inv X pins σ H s ∧ tn j s.heap ∧ (∀ b ∈ fp, H b = none) ∧ W j k H
/-- the slots keep what the block began with -/
def KeepSl (σ σ' : L2.St) : Prop := σ.length = σ'.length ∧ ∀ (j : Nat) (v : V), σ[j]? = some (some v) → σ'[j]? = some (some v)
/-- behind an item's tests: the body's debt, and the way back -/
def Behind (X : Cx) (pins : List (Addr × Obj)) (σ : L2.St) (vs : List Nat) (B : Bool → L2.St → Hp → (Hp → Prop) → Prop) (G : Shared → Prop) (b : Bool) (s : Shared) : Prop :=
  ∃ ps σ2 H2 Nx, Inv X (pins ++ ps) σ2 H2 s ∧ wipe σ2 vs = wipe σ vs ∧ B b σ2 H2 Nx ∧ ∀ σ3 s3 H3, Inv X (pins ++ ps) σ3 H3 s3 → KeepSl σ σ3 → Nx H3 → G s3
theorem one_turn {X : Cx} {pins : List (Addr × Obj)} {σ : L2.St} {fp : List Addr} {it : Addr} {tn : Nat → Heap → Prop} {J : It} {tg : Expr} {g : TG} {tt : TT} {ifs : List Expr} {W : Nat → Nat → Hp → Prop} {vs : List Nat} {B : Bool → L2.St → Hp → (Hp → Prop) → Prop} {Qd : Hp → Prop}
    (hc : X.calm = true) (hx : X.xe = Nay) (T : Turn X.prog X.w X.K tg J fp it tn) (pg : PG X tg g) (pt : PTs X ifs tt) (hf : ∀ {σ' H' s'}, Inv X pins σ' H' s' → (∀ b ∈ fp, H' b = none) → ∀ b ∈ fp, FpOk X pins H' b)
    (step : ∀ j k H, W j k H → (J.stop j H ∧ Qd H) ∨ (J.go j H ∧ ∃ Nx : Hp → Prop, (∀ H', Nx H' → ∃ k', k' < k ∧ W (j + 1) k' H') ∧ ∀ x H', J.yld j H x H' → g x σ H' fun σ2 H2 => wipe σ2 vs = wipe σ vs ∧ tt σ2 H2 fun b H3 => B b σ2 H3 Nx))
    {k : Nat} {s : Shared} (h : Stands X pins σ fp tn W k s) : Nest X.prog X.w X.A tg ifs (.ref it) X.env (fun s1 => ∃ H, Inv X pins σ H s1 ∧ Qd H) (Behind X pins σ vs B (Less (Stands X pins σ fp tn W) k)) s := by
  obtain ⟨j, H, I, st, fr, wk⟩ := h
  rcases step j k H wk with ⟨stop, qd⟩ | ⟨go, Nx, nx, yl⟩
  · refine nay (T.done X rfl rfl rfl hc j pins s σ H Nay I (hf I fr) st stop) fun r s1 ⟨er, I1⟩ => ?_
    subst er
    exact ⟨H, I1, qd⟩
  · refine nay (T.item X rfl rfl rfl hc j pins s σ H Nay I (hf I fr) st go) fun r s1 ⟨u, er, h1⟩ => ?_
    subst er
    refine nay h1 fun _ s2 ⟨x, H2, I2, rx, y2, st2, fr2⟩ => ?_
    have ra := pg.run _ s2 σ H2 x u _ (I2.pinned (hf I2 fr2) (T.obj _ _ st2)) rx (yl x H2 y2)
    rw [hx] at ra
    refine nay ra fun _ s3 ⟨σ3, H3, I3, hw, q3⟩ => ?_
    have rt := pt.run _ s3 σ3 H3 _ I3 q3
    rw [hx] at rt
    refine nay rt fun b s4 ⟨H4, I4, q4⟩ => ?_
    refine ⟨pinsAt fp s2.heap, σ3, H4, Nx, I4, hw, q4, fun σ5 s5 H5 I5 ks n5 => ?_⟩
    obtain ⟨k', hk, w'⟩ := nx H5 n5
    have pin : ∀ b ∈ fp, ∀ o, s2.heap.get? b = some o → s5.heap.get? b = some o ∧ H5 b = none := fun b hb o e =>
      have z := I5.pin (b, o) (List.mem_append_right _ (List.mem_append_right _ (mem_pinsAt hb e)))
      ⟨z.1, z.2.1⟩
    refine ⟨k', hk, j + 1, H5, I5.unpinned.weak ks.1 ks.2, T.keep _ _ _ st2 fun b hb o e => (pin b hb o e).1, fun b hb => ?_, w'⟩
    obtain ⟨o, e, _⟩ := T.obj _ _ st2 b hb
    exact (pin b hb o e).2
/-- {elt for tg in iter if .. for tg1 in iter1 if ..}, elt an int: D the new set -/
def tSc2 (w : World) (wi : TI) (g : TG) (tt : TT) (wi1 : TI) (g1 : TG) (tt1 : TT) (te : TE) (vs vs1 : List Nat) : TE := fun σ H Q => wi σ H fun J H1 => ∀ D, H1 D = none →
  ∃ W : Nat → Nat → Hp → Prop, (∃ m, W 0 m (upd H1 D (SetO w D (fun _ => false) 0))) ∧ ∀ j k H2, W j k H2 → (J.stop j H2 ∧ Q (.ref D) H2) ∨ (J.go j H2 ∧ ∃ Nx : Hp → Prop, (∀ H', Nx H' → ∃ k', k' < k ∧ W (j + 1) k' H') ∧
    ∀ x H', J.yld j H2 x H' → g x (wipe σ vs) H' fun σ2 H3 => wipe σ2 vs = wipe (wipe σ vs) vs ∧ tt σ2 H3 fun b H4 => if b = true then
      wi1 σ2 H4 fun J1 H5 => ∃ W1 : Nat → Nat → Hp → Prop, (∃ m, W1 0 m H5) ∧ ∀ j1 k1 H6, W1 j1 k1 H6 → (J1.stop j1 H6 ∧ Nx H6) ∨ (J1.go j1 H6 ∧ ∃ Nx1 : Hp → Prop, (∀ H', Nx1 H' → ∃ k', k' < k1 ∧ W1 (j1 + 1) k' H') ∧
        ∀ x H', J1.yld j1 H6 x H' → g1 x (wipe σ2 vs1) H' fun σ3 H7 => wipe σ3 vs1 = wipe (wipe σ2 vs1) vs1 ∧ tt1 σ3 H7 fun b H8 => if b = true then
          te σ3 H8 fun y H9 => ∃ (i : Int) (S : Int → Bool) (n : Nat), y = .int i ∧ H9 D = some (SetO w D S n) ∧ n + 1 < scanBound ∧ Nx1 (upd H9 D (SetO w D (fun l => S l || decide (l = i)) (if S i = true then n else n + 1))) else Nx1 H8)
      else Nx H4)
theorem sc2_in {X : Cx} {σ : L2.St} {elt tg iter tg1 iter1 : Expr} {ifs ifs1 : List Expr} {scope : Scope} {vs1 : List Nat} {pos : Pos} {wi1 : TI} {g1 : TG} {tt1 : TT} {te : TE} {D : Addr} {pins : List (Addr × Obj)} {s : Shared} {H : Hp} {Nx : Hp → Prop} {G : Shared → Prop}
    (hc : X.calm = true) (hx : X.xe = Nay) (pi1 : PI X tg1 iter1 wi1) (pg1 : PG X tg1 g1) (pt1 : PTs X ifs1 tt1) (pe : PE X elt te) (I : Inv X pins σ H s)
    (h : wi1 σ H fun J1 H5 => ∃ W1 : Nat → Nat → Hp → Prop, (∃ m, W1 0 m H5) ∧ ∀ j1 k1 H6, W1 j1 k1 H6 → (J1.stop j1 H6 ∧ Nx H6) ∨ (J1.go j1 H6 ∧ ∃ Nx1 : Hp → Prop, (∀ H', Nx1 H' → ∃ k', k' < k1 ∧ W1 (j1 + 1) k' H') ∧
        ∀ x H', J1.yld j1 H6 x H' → g1 x (wipe σ vs1) H' fun σ3 H7 => wipe σ3 vs1 = wipe (wipe σ vs1) vs1 ∧ tt1 σ3 H7 fun b H8 => if b = true then
          te σ3 H8 fun y H9 => ∃ (i : Int) (S : Int → Bool) (n : Nat), y = .int i ∧ H9 D = some (SetO X.w D S n) ∧ n + 1 < scanBound ∧ Nx1 (upd H9 D (SetO X.w D (fun l => S l || decide (l = i)) (if S i = true then n else n + 1))) else Nx1 H8))
    (back : ∀ s3 H3, Inv X pins (wipe σ vs1) H3 s3 → Nx H3 → G s3) :
    wpAny (model X.prog X.w) X.A (eval iter1 X.env) (fun z s5 => wpAny (model X.prog X.w) X.A (pyIter z) (fun j s6 => codeAny (model X.prog X.w) X.A (.compStart (sc2 elt tg iter tg1 iter1 ifs ifs1 scope pos) 1 j (.ref D) X.env) (Inner G) s6) Nay s5) Nay s := by
  have ri := pi1.run pins s σ H _ I h
  rw [hx] at ri
  refine nay ri fun z s1 q1 => nay q1 fun j s2 ⟨it, fp, tn, J, H2, ej, I2, T, st2, f2, W1, ⟨m, w1⟩, step⟩ => ?_
  subst ej
  have hf : ∀ {σ' H' s'}, Inv X pins σ' H' s' → (∀ b ∈ fp, H' b = none) → ∀ b ∈ fp, FpOk X pins H' b := fun _ hn b hb => ⟨hn b hb, (f2 b hb).2⟩
  have go : codeAny (model X.prog X.w) X.A (.compLoop (sc2 elt tg iter tg1 iter1 ifs ifs1 scope pos) 1 (.ref it) (.ref D) X.env) (Inner G) s2 := by
    refine loopS_in (Stands X pins (wipe σ vs1) fp tn W1) (fun k s3 h3 => ?_) m ⟨0, H2, I2.weak (wipe_length _ _) (fun j v e => (wipe_some e).1), st2, fun b hb => (f2 b hb).1, w1⟩
    refine nay (one_turn (vs := vs1) hc hx T pg1 pt1 hf step h3) fun r s4 q4 => ?_
    cases r with
    | none =>
      obtain ⟨H4, I4, q⟩ := q4
      exact back _ _ I4 q
    | some v =>
      refine nay q4 fun _ s5 q5 => nay q5 fun _ s6 q6 => nay q6 fun b s7 ⟨ps, σ7, H7, Nx1, I7, hw, q7, fin⟩ => ?_
      have ks : KeepSl (wipe σ vs1) σ7 := ⟨(wipe_length (wipe σ vs1) vs1).symm.trans ((congrArg List.length hw.symm).trans (wipe_length σ7 vs1)), fun l v e => by
        have e2 : (wipe (wipe σ vs1) vs1)[l]? = some (some v) := by
          rw [wipe_wipe]
          exact e
        rw [← hw] at e2
        exact (wipe_some e2).1⟩
      cases b with
      | false => exact fin σ7 _ _ I7 ks q7
      | true =>
        have re := pe.run _ s7 σ7 H7 _ I7 q7
        rw [hx] at re
        refine nay re fun y s8 ⟨yv, H8, I8, r8, i, S, n, ey, hD, room, nx⟩ => ?_
        subst ey
        have rs := mt_sadd _ s8 σ7 H8 (.ref D) [.int i] (.ref D) [y] (fun _ H' => Nx1 H') I8 rfl (.cons r8 .nil) ⟨D, i, S, n, rfl, rfl, hD, room, nx⟩
        rw [hx] at rs
        refine nay rs fun _ s9 ⟨_, H9, I9, _, q9⟩ => ?_
        exact fin σ7 _ _ I9 ks q9
  exact startS_in go (T.self X.A 0 _ _ _ st2 go)
theorem sc2_ok {X : Cx} {pins : List (Addr × Obj)} {s : Shared} {σ : L2.St} {H : Hp} {Q : VK} {elt tg iter tg1 iter1 : Expr} {ifs ifs1 : List Expr} {scope : Scope} {own : List (Str × Nat)} {vs1 : List Nat} {pos pos' : Pos} {wi wi1 : TI} {g g1 : TG} {tt tt1 : TT} {te : TE} {use : Option (Value → Sem Unit)} {Qf : Value → Shared → Prop}
    (hc : X.calm = true) (nd : X.N.Nodup) (I : Inv X pins σ H s) (pi0 : PI X tg iter wi) (bo : BlkOk X.N X.env.scope scope own) (hv : ∀ i ∈ vs1, i ∈ own.map (·.2)) (fs : ∀ z, foldedSetIterable iter X.env z = pure z) (fs1 : ∀ env z, foldedSetIterable iter1 env z = pure z)
    (blk : ∀ (s0 : Shared) (H0 : Hp) (C : Addr) (cl : List (Str × Addr)) (fp : List Addr), PG (X.blk s0 H0 scope (compEnvC scope cl C X.env) fp) tg g ∧ PTs (X.blk s0 H0 scope (compEnvC scope cl C X.env) fp) ifs tt ∧ PI (X.blk s0 H0 scope (compEnvC scope cl C X.env) fp) tg1 iter1 wi1 ∧
      PG (X.blk s0 H0 scope (compEnvC scope cl C X.env) fp) tg1 g1 ∧ PTs (X.blk s0 H0 scope (compEnvC scope cl C X.env) fp) ifs1 tt1 ∧ PE (X.blk s0 H0 scope (compEnvC scope cl C X.env) fp) elt te)
    (h : tSc2 X.w wi g tt wi1 g1 tt1 te (own.map (·.2)) vs1 σ H Q)
    (done : ∀ D C s' m H', Inv X pins σ H' s' → Q (.ref D) H' → s'.heap.Ns C m → FpOk X pins H' C → compPost (model X.prog X.w) X.A X.xe use Qf (.ref D) C (.ok .next) s') :
    wpAny (model X.prog X.w) X.A (comprehension (sc2 elt tg iter tg1 iter1 ifs ifs1 scope pos) scope X.env pos' (newSet (.type "set")) false (eval iter X.env) use) Qf X.xe s := by
  have caught : ∀ y ∈ scope.names, y.2 = .free → ∃ c, X.env.cells.lookup y.1 = some c := fun y hy e => (bo.free y hy e).elim (fun k => I.ok.has _ (.inl k)) fun k => I.ok.has _ (.inr k)
  refine wpAny_comprehension_free (use := use) rfl fs (closure_ok caught) bo.kind (fun y hy e => by rw [bo.uniq y hy, e]) (thn (pi0.run pins s σ H _ I h) fun z s1 q1 => thn q1 fun j s2 q2 => ?_)
  obtain ⟨it, fp, tn, J, H2, ej, I2, T, st2, f2, q⟩ := q2
  subst ej
  refine wpAny_newSet_raw fun led hl => newEnv_comp ?_
  subst hl
  generalize eD : s2.heap.objs.size = D
  have freeD : H2 D = none := I2.hok.fresh (Nat.le_of_eq eD)
  obtain ⟨W, ⟨m, w0⟩, turn⟩ := q D freeD
  generalize eH : upd H2 D (SetO X.w D (fun _ => false) 0) = H3 at w0
  generalize es3 : ({ s2 with heap := s2.heap.push { cls := .type "set", dict := none, data := .set #[] 0 (.fresh 0 0 (!X.w.params.followText "set-order")) } } : Shared) = s3
  have h3 : s3.heap = s2.heap.push { cls := .type "set", dict := none, data := .set #[] 0 (.fresh 0 0 (!X.w.params.followText "set-order")) } := by rw [← es3]
  have I3 : Inv X pins σ H3 s3 := by
    rw [← es3, ← eH]
    refine I2.laid (t' := s2.toks) (fun b o e => Heap.get?_push_of_some _ e) (Nat.le_of_eq eD) (setO_new ?_)
    rw [← eD]
    exact setR_fresh X.w
  have f3 : ∀ b ∈ fp, FpOk X pins H3 b ∧ b < s3.heap.objs.size := fun b hb => by
    obtain ⟨o, e, _⟩ := T.obj _ _ st2 b hb
    have lt := Heap.lt_size e
    refine ⟨⟨?_, (f2 b hb).2⟩, by rw [h3, Heap.size_push]; exact Nat.lt_succ_of_lt lt⟩
    rw [← eH, upd_ne (by rw [← eD]; exact Nat.ne_of_lt lt)]
    exact (f2 b hb).1
  have I4 := block_start I3 bo nd f3
  obtain ⟨pg, pt, pi1, pg1, pt1, pe⟩ := blk s3 H3 s3.heap.objs.size (cellsFrom (s3.heap.objs.size + 1) scope.names (cloFrom X.env.cells scope.names [])) fp
  show codeAny _ _ (.compStart (sc2 elt tg iter tg1 iter1 ifs ifs1 scope pos) 0 (.ref it) (.ref D) (compEnvC scope (cellsFrom (s3.heap.objs.size + 1) scope.names (cloFrom X.env.cells scope.names [])) s3.heap.objs.size X.env)) (compPost (model X.prog X.w) X.A X.xe use Qf (.ref D) s3.heap.objs.size) { s3 with heap := pushCells (s3.heap.push { cls := .type "dict", data := .dict #[] }) scope.names }
  generalize ec : compEnvC scope (cellsFrom (s3.heap.objs.size + 1) scope.names (cloFrom X.env.cells scope.names [])) s3.heap.objs.size X.env = ce at I4 pg pt pe pi1 pg1 pt1 ⊢
  have atL : ce.locals = s3.heap.objs.size := by
    rw [← ec]
    rfl
  generalize es4 : ({ s3 with heap := pushCells (s3.heap.push { cls := .type "dict", data := .dict #[] }) scope.names } : Shared) = s4 at I4 ⊢
  have st4 : tn 0 s4.heap := T.keep _ _ _ st2 fun b _ o e => by
    rw [← es4]
    exact pushCells_keeps _ _ _ _ (Heap.get?_push_of_some _ (by rw [h3]; exact Heap.get?_push_of_some _ e))
  have hf : ∀ {σ' H' s'}, Inv (X.blk s3 H3 scope ce fp) [] σ' H' s' → (∀ b ∈ fp, H' b = none) → ∀ b ∈ fp, FpOk (X.blk s3 H3 scope ce fp) [] H' b := fun I' hn b hb =>
    ⟨hn b hb, (I'.ok.exf b hb).1, I'.ok.exfs b hb, .inl hb, fun x c e => (I'.ok.exf b hb).2 x c e, fun p hp => absurd (show p ∈ ([] : List (Addr × Obj)) ++ [] from hp) (by simp)⟩
  have go : codeAny (model X.prog X.w) X.A (.compLoop (sc2 elt tg iter tg1 iter1 ifs ifs1 scope pos) 0 (.ref it) (.ref D) ce) (compPost (model X.prog X.w) X.A X.xe use Qf (.ref D) s3.heap.objs.size) s4 := by
    refine loopS_out (fs1 ce) (Stands (X.blk s3 H3 scope ce fp) [] (wipe σ (own.map (·.2))) fp tn W) (fun k s5 h5 => ?_) m ⟨0, H3, I4, st4, fun b hb => (f3 b hb).1.1, w0⟩
    refine nay (one_turn (X := X.blk s3 H3 scope ce fp) (vs := own.map (·.2)) hc rfl T pg pt hf turn h5) fun r s6 q6 => ?_
    cases r with
    | none =>
      obtain ⟨H6, I6, qq⟩ := q6
      have I7 : Inv X pins σ H6 s6 := I3.call' (ch := fp) I6.os I6.base I6.hok I6.bare fun b hb => ⟨(f3 b hb).1.2.2.2.1, (f3 b hb).1.2.1, (f3 b hb).1.2.2.2.2.1, (f3 b hb).1.2.2.2.2.2⟩
      have fr : H6 ce.locals = none := I6.free
      obtain ⟨l, ns, _⟩ := I6.loc
      have ns : s6.heap.Ns ce.locals l := ns
      rw [atL] at fr ns
      exact done D s3.heap.objs.size s6 l H6 I7 qq ns (I3.fpOk (Nat.le_refl _) fr)
    | some v =>
      refine nay q6 fun _ s7 q7 => nay q7 fun _ s8 q8 => nay q8 fun b s9 ⟨ps, σ9, H9, Nx, I9, hw, q9, fin⟩ => ?_
      have l9 : (wipe σ (own.map (·.2))).length = σ9.length := (wipe_length (wipe σ (own.map (·.2))) (own.map (·.2))).symm.trans ((congrArg List.length hw.symm).trans (wipe_length σ9 (own.map (·.2))))
      have k9 : ∀ (i : Nat) (v : V), (wipe σ (own.map (·.2)))[i]? = some (some v) → σ9[i]? = some (some v) ∧ i ∉ own.map (·.2) := fun i v e => by
        have e2 : (wipe (wipe σ (own.map (·.2))) (own.map (·.2)))[i]? = some (some v) := by
          rw [wipe_wipe]
          exact e
        rw [← hw] at e2
        exact wipe_some e2
      cases b with
      | false => exact fin σ9 _ _ I9 ⟨l9, fun i v e => (k9 i v e).1⟩ q9
      | true =>
        refine sc2_in (X := X.blk s3 H3 scope ce fp) hc rfl pi1 pg1 pt1 pe I9 q9 fun s' H' I' nx => fin (wipe σ9 vs1) _ _ I' ⟨l9.trans (wipe_length σ9 vs1).symm, fun i v e => ?_⟩ nx
        obtain ⟨e1, e2⟩ := k9 i v e
        rw [wipe_out fun z => e2 (hv i z)]
        exact e1
  exact codeAny_compStart_set go (T.self X.A 0 _ _ _ st4 go)
theorem pe_sc2 {X : Cx} {elt tg iter tg1 iter1 : Expr} {ifs ifs1 : List Expr} {scope : Scope} {own : List (Str × Nat)} {vs1 : List Nat} {pos : Pos} {wi wi1 : TI} {g g1 : TG} {tt tt1 : TT} {te : TE}
    (hc : X.calm = true) (nd : X.N.Nodup) (pi0 : PI X tg iter wi) (bo : BlkOk X.N X.env.scope scope own) (hv : ∀ i ∈ vs1, i ∈ own.map (·.2))
    (blk : ∀ (s0 : Shared) (H0 : Hp) (C : Addr) (cl : List (Str × Addr)) (fp : List Addr), PG (X.blk s0 H0 scope (compEnvC scope cl C X.env) fp) tg g ∧ PTs (X.blk s0 H0 scope (compEnvC scope cl C X.env) fp) ifs tt ∧ PI (X.blk s0 H0 scope (compEnvC scope cl C X.env) fp) tg1 iter1 wi1 ∧
      PG (X.blk s0 H0 scope (compEnvC scope cl C X.env) fp) tg1 g1 ∧ PTs (X.blk s0 H0 scope (compEnvC scope cl C X.env) fp) ifs1 tt1 ∧ PE (X.blk s0 H0 scope (compEnvC scope cl C X.env) fp) elt te)
    (fs : ∀ z, foldedSetIterable iter X.env z = pure z := by intro _; rfl) (fs1 : ∀ env z, foldedSetIterable iter1 env z = pure z := by intro _ _; rfl) :
    PE X (sc2 elt tg iter tg1 iter1 ifs ifs1 scope pos) (tSc2 X.w wi g tt wi1 g1 tt1 te (own.map (·.2)) vs1) := ⟨fun pins s σ H Q I h => by
  rw [arm_eval_SetComp]
  refine sc2_ok hc nd I pi0 bo hv fs fs1 blk h fun D C s' l H' I' q ns f => ⟨l, ns, fun h2 sb => ?_⟩
  obtain ⟨f0, f1, _, f3, f4, f5⟩ := f
  exact ⟨.ref D, H', I'.turned (t' := s'.toks) (fun b o hb e => (sb.2 b hb).trans e) f0 f1 f3 f4 f5, rfl, q⟩⟩
end Zm


set_option Elab.async false
set_option linter.all false
set_option maxRecDepth 100000
set_option maxHeartbeats 4000000
set_option autoImplicit false
namespace Zm
open PySem PySem.Spec L2

theorem nd_len : ∀ (l l2 : List Int), l.Nodup → (∀ x ∈ l, x ∈ l2) → l.length ≤ l2.length
  | [], _, _, _ => Nat.zero_le _
  | a :: l, l2, h, g => by
    rw [List.nodup_cons] at h
    have ha := g a (List.mem_cons_self ..)
    have ih := nd_len l (l2.erase a) h.2 fun x hx => by
      have ne : x ≠ a := fun e => h.1 (by rw [← e]; exact hx)
      exact (List.mem_erase_of_ne ne).mpr (g x (List.mem_cons_of_mem _ hx))
    have e := List.length_erase_of_mem ha
    have := List.length_pos_of_mem ha
    rw [List.length_cons]
    omega
theorem lt_eq {l l2 : List Int} (h : l.Pairwise (· < ·)) (h2 : l2.Pairwise (· < ·)) (e : ∀ x, x ∈ l ↔ x ∈ l2) : l = l2 := by
  have nd : ∀ {l : List Int}, l.Pairwise (· < ·) → l.Nodup := fun h => h.imp fun h e => by omega
  have le : ∀ {l : List Int}, l.Pairwise (· < ·) → l.Pairwise (· ≤ ·) := fun h => h.imp fun h => by omega
  exact perm_le_eq ((List.perm_ext_iff_of_nodup (nd h) (nd h2)).mpr e) (le h) (le h2)
/-- the set of ints at D has the members that M tells -/
def HasS (w : World) (H : Hp) (D : Addr) (M : Int → Prop) : Prop := ∃ (S : Int → Bool) (n : Nat) (seen : List Int), H D = some (SetO w D S n) ∧ (∀ x, S x = true ↔ x ∈ seen) ∧ seen.Nodup ∧ seen.length = n ∧ ∀ x, x ∈ seen ↔ M x
theorem HasS.iff {w : World} {H : Hp} {D : Addr} {M M' : Int → Prop} (h : HasS w H D M) (e : ∀ x, M x ↔ M' x) : HasS w H D M' := by
  obtain ⟨S, n, seen, h1, h2, h3, h4, h5⟩ := h
  exact ⟨S, n, seen, h1, h2, h3, h4, fun x => (h5 x).trans (e x)⟩
theorem HasS.same {w : World} {H H' : Hp} {D : Addr} {M : Int → Prop} (h : HasS w H D M) (s : Same H H') : HasS w H' D M := by
  obtain ⟨S, n, seen, h1, h2, h3, h4, h5⟩ := h
  exact ⟨S, n, seen, s _ _ h1, h2, h3, h4, h5⟩
section
variable {K : PySem.W.Frag} {C : Addr} {w : World} {δ : Dl} {te : TE} {tt : TT} {wi wi1 : TI} {g g1 : TG} {vs vs1 : List Nat}
theorem en_sortedS2 {α : Type} {as : List α} {g0 : α → D} {p : α → Bool} {δi : α → Dl} {bs : α → List Int} {δj : α → Int → Dl} {ns : List Int} (hI : EvI K C wi δ (as.map g0)) (hG : ∀ a ∈ as, EvG K C g vs (wipeD δ vs) (g0 a) (δi a)) (hT : ∀ a ∈ as, EvT K C tt (δi a) (p a))
    (hI1 : ∀ a ∈ as, p a = true → EvI K C wi1 (δi a) (dI (bs a))) (hG1 : ∀ a ∈ as, p a = true → ∀ i ∈ bs a, EvG K C g1 vs1 (wipeD (δi a) vs1) (.int i) (δj a i)) (hE : ∀ a ∈ as, p a = true → ∀ i ∈ bs a, EvD K C te (δj a i) (.int i))
    (hm : ∀ k, k ∈ ns ↔ ∃ a ∈ as, p a = true ∧ k ∈ bs a) (hs : ns.Pairwise (· < ·)) (hl : ns.length < 64) :
    EvN K C (tCB (rSortedSet w) (tCons (tSc2 w wi g tt wi1 g1 tYes te vs vs1) tNil)) δ (.lst (dI ns)) := fun O σ H n Q q => by
  show wi σ H _
  refine hI O σ H n _ fun J H1 s1 wk D hD => ?_
  have n1 := n.same s1
  have o1 : OIn (addO O D) (upd H1 D (SetO w D (fun _ => false) 0)) := (n1.add (o := SetO w D (fun _ => false) 0) hD).own
  have key : ∀ H2, Same H1 H2 → Same (hid O H1) (hid (addO O D) H2) := fun H2 s => (add_fresh hD).trans (same_hid s)
  have wl : (as.map g0).length = as.length := List.length_map _
  -- what may be in the set
  have cap : ∀ {M : Int → Prop} {H2}, HasS w H2 D M → (∀ x, M x → x ∈ ns) → ∃ (S : Int → Bool) (k : Nat) (seen : List Int), H2 D = some (SetO w D S k) ∧ k < 64 ∧ (∀ x, S x = true ↔ x ∈ seen) ∧ seen.Nodup ∧ seen.length = k ∧ ∀ x, x ∈ seen ↔ M x := fun h hM => by
    obtain ⟨S, k, seen, h1, h2, h3, h4, h5⟩ := h
    refine ⟨S, k, seen, h1, ?_, h2, h3, h4, h5⟩
    rw [← h4]
    exact Nat.lt_of_le_of_lt (nd_len seen ns h3 fun x hx => hM x ((h5 x).mp hx)) hl
  refine ⟨fun j k H2 => k = as.length - j ∧ j ≤ as.length ∧ Same H1 H2 ∧ HasS w H2 D fun x => ∃ a ∈ as.take j, p a = true ∧ x ∈ bs a, ⟨as.length, by omega, Nat.zero_le _, same_new hD, ?_⟩, ?_⟩
  · exact ⟨_, 0, [], upd_same, fun x => by simp, List.nodup_nil, rfl, fun x => by simp⟩
  rintro j k H2 ⟨rfl, hj, s2, st⟩
  have o2 : OIn (addO O D) H2 := (n1.own.same s2).add (by obtain ⟨S, k, seen, h1, _⟩ := st; exact ⟨_, h1, trivial⟩)
  by_cases hlt : j < as.length
  · have hia : as[j]? = some as[j] := by simp [hlt]
    have mem : as[j] ∈ as := List.getElem_mem hlt
    have tk : as.take (j + 1) = as.take j ++ [as[j]] := List.take_succ_eq_append_getElem hlt
    refine .inr ⟨wk.go _ j H2 (key H2 s2) o2 (by rw [wl]; exact hlt), fun H3 => j + 1 ≤ as.length ∧ Same H1 H3 ∧ HasS w H3 D fun x => ∃ a ∈ as.take (j + 1), p a = true ∧ x ∈ bs a, fun H' hN => ⟨_, by omega, rfl, hN⟩, fun x H3 y => ?_⟩
    obtain ⟨s3, d3⟩ := wk.yld _ j H2 x H3 (g0 as[j]) (key H2 s2) o2 (by rw [List.getElem?_map, hia]; rfl) y
    have s13 := s2.trans s3
    have n3 : At K C (addO O D) H3 (L2.wipe σ vs) (wipeD δ vs) := ⟨o2.same s3, (n1.env.same (key H3 s13)).wipe vs⟩
    refine hG _ mem _ _ _ _ n3 d3 _ fun σ4 hw n4 => ⟨by rw [hw], hT _ mem _ _ _ n4 _ fun H5 s5 => ?_⟩
    cases hp : p as[j] with
    | false =>
      refine iteF ⟨hlt, s13.trans s5, (st.same (s3.trans s5)).iff fun x => ?_⟩
      rw [tk]
      simp only [List.mem_append, List.mem_singleton]
      constructor
      · rintro ⟨a, h1, h2⟩
        exact ⟨a, .inl h1, h2⟩
      · rintro ⟨a, h1 | h1, h2, h3⟩
        · exact ⟨a, h1, h2, h3⟩
        · rw [h1, hp] at h2
          cases h2
    | true =>
      refine iteT (hI1 _ mem hp _ _ _ (n4.same s5) _ fun J1 H6 s6 wk1 => ?_)
      have n6 := n4.same (s5.trans s6)
      have wl1 : (dI (bs as[j])).length = (bs as[j]).length := List.length_map _
      refine ⟨fun i l H7 => l = (bs as[j]).length - i ∧ i ≤ (bs as[j]).length ∧ Same H1 H7 ∧ Same (hid (addO O D) H6) (hid (addO O D) H7) ∧ HasS w H7 D (fun x => (∃ a ∈ as.take j, p a = true ∧ x ∈ bs a) ∨ x ∈ (bs as[j]).take i),
        ⟨(bs as[j]).length, by omega, Nat.zero_le _, (s13.trans s5).trans s6, Same.refl _, (st.same ((s3.trans s5).trans s6)).iff fun x => by simp⟩, ?_⟩
      rintro i l H7 ⟨rfl, hi, s7, s67, st7⟩
      have o7 : OIn (addO O D) H7 := (n1.own.same s7).add (by obtain ⟨S, k, seen, h1, _⟩ := st7; exact ⟨_, h1, trivial⟩)
      by_cases hlt1 : i < (bs as[j]).length
      · have hib : (bs as[j])[i]? = some (bs as[j])[i] := by simp [hlt1]
        have memb : (bs as[j])[i] ∈ bs as[j] := List.getElem_mem hlt1
        have tk1 : (bs as[j]).take (i + 1) = (bs as[j]).take i ++ [(bs as[j])[i]] := List.take_succ_eq_append_getElem hlt1
        refine .inr ⟨wk1.go _ i H7 s67 o7 (by rw [wl1]; exact hlt1), fun H8 => i + 1 ≤ (bs as[j]).length ∧ Same H1 H8 ∧ Same (hid (addO O D) H6) (hid (addO O D) H8) ∧ HasS w H8 D (fun x => (∃ a ∈ as.take j, p a = true ∧ x ∈ bs a) ∨ x ∈ (bs as[j]).take (i + 1)), fun H' hN => ⟨_, by omega, rfl, hN⟩, fun x H8 y => ?_⟩
        obtain ⟨s8, d8⟩ := wk1.yld _ i H7 x H8 (.int (bs as[j])[i]) s67 o7 (by unfold dI; rw [List.getElem?_map, hib]; rfl) y
        have n8 : At K C (addO O D) H8 (L2.wipe σ4 vs1) (wipeD (δi as[j]) vs1) := ⟨o7.same s8, (n6.env.same (s67.trans (same_hid s8))).wipe vs1⟩
        refine hG1 _ mem hp _ memb _ _ _ _ n8 d8 _ fun σ9 hw9 n9 => ⟨by rw [hw9], ?_⟩
        unfold tYes
        refine iteT (hE _ mem hp _ memb _ _ _ n9 _ fun v H9 s9 d9 => ?_)
        obtain ⟨S, m, seen, h1, h2, h3, h4, h5, h6⟩ := cap (st7.same (s8.trans s9)) fun x hx => (hm x).mpr (by
          rcases hx with ⟨a, ha, hb⟩ | hx
          · exact ⟨a, List.mem_of_mem_take ha, hb⟩
          · exact ⟨_, mem, hp, List.mem_of_mem_take hx⟩)
        refine ⟨_, S, m, dat_int.mp d9, h1, Nat.lt_of_lt_of_le (Nat.succ_lt_succ h2) (by decide), hlt1, same_mut ((s7.trans s8).trans s9) hD, ?_, ?_⟩
        · rw [add_upd]
          exact s67.trans (same_hid (s8.trans s9))
        · by_cases hS : S (bs as[j])[i] = true
          · refine ⟨_, _, seen, upd_same, fun x => ?_, h4, by rw [if_pos hS]; exact h5, fun x => ?_⟩
            · rw [Bool.or_eq_true, decide_eq_true_eq, h3]
              exact ⟨fun h => h.elim id fun e => by rw [e]; exact (h3 _).mp hS, .inl⟩
            · rw [h6, tk1]
              show _ ↔ (_ ∨ x ∈ (bs as[j]).take i ++ [(bs as[j])[i]])
              rw [List.mem_append, List.mem_singleton]
              have := (h6 _).mp ((h3 _).mp hS)
              exact ⟨fun h => h.elim .inl fun h => .inr (.inl h), fun h => h.elim .inl fun h => h.elim .inr fun e => by rw [e]; exact this⟩
          · refine ⟨_, _, seen ++ [(bs as[j])[i]], upd_same, fun x => ?_, ?_, by rw [if_neg hS, List.length_append, h5]; rfl, fun x => ?_⟩
            · rw [Bool.or_eq_true, decide_eq_true_eq, h3, List.mem_append, List.mem_singleton]
            · refine List.nodup_append.mpr ⟨h4, by simp, fun a ha b hb e => ?_⟩
              rw [List.mem_singleton.mp hb] at e
              exact hS ((h3 _).mpr (by rw [← e]; exact ha))
            · rw [List.mem_append, List.mem_singleton, h6, tk1]
              show _ ↔ (_ ∨ x ∈ (bs as[j]).take i ++ [(bs as[j])[i]])
              rw [List.mem_append, List.mem_singleton]
              exact or_assoc
      · have e : i = (bs as[j]).length := by omega
        subst e
        refine .inl ⟨by rw [← wl1]; exact wk1.stop _ H7 s67 o7, hlt, s7, st7.iff fun x => ?_⟩
        rw [List.take_length, tk]
        simp only [List.mem_append, List.mem_singleton]
        constructor
        · rintro (⟨a, h1, h2⟩ | h)
          · exact ⟨a, .inl h1, h2⟩
          · exact ⟨_, .inr rfl, hp, h⟩
        · rintro ⟨a, h1 | h1, h2, h3⟩
          · exact .inl ⟨a, h1, h2, h3⟩
          · rw [h1] at h3
            exact .inr h3
  · have e : j = as.length := by omega
    subst e
    refine .inl ⟨by rw [← wl]; exact wk.stop _ H2 (key H2 s2) o2, ?_⟩
    rw [List.take_length] at st
    obtain ⟨S, m, seen, h1, h2, h3, h4, h5, h6⟩ := cap st fun x hx => (hm x).mpr hx
    refine ⟨D, S, m, rfl, h1, h2, fun ns' l k1 k2 k3 fr => ?_⟩
    have e : ns' = ns := lt_eq k1 hs fun x => by rw [k2, h3, h6, hm]
    subst e
    have o : OIn O H2 := n1.own.same s2
    exact q l _ ((s1.trans s2).trans (same_new fr)) (back_none (s1.trans s2) fr) (new_lst o fr (dats_ints.mpr rfl))
end
section
variable {X : Cx} {e : Expr} {es : List Expr} {t : TA} {p pos : Pos}
theorem c_sortedS {K : PySem.W.Frag} (b : BFree X.mg) (ha : PA X (e :: es) t) (hg : Gl X "sorted" := by rfl) (hc : X.calm = true := by rfl) (hK : X.K = K := by rfl)
    (he : starEach (e :: es) X.env = (false, eval e X.env) :: starEach es X.env := by rfl) (hpl : (backTo pos (starEach es X.env)).any (·.1) = false := by rfl) :
    PE X (.Call (.Name "sorted" p) (e :: es) [] pos) (tCB (rSortedSet X.w) t) := by
  subst hK
  exact pe_callB (cr_sortedSet hc) hg (b _ (by decide)) (by decide +kernel) ha (he := he) (hpl := hpl)
end
end Zm


set_option Elab.async false
set_option linter.all false
set_option maxRecDepth 100000
set_option maxHeartbeats 4000000
set_option autoImplicit false
namespace Zm
open PySem PySem.Spec L2

/-! ### == and != by an own __eq__ -/
section
open PySem.W
variable {prog : Program} {w : World} {A : Around} {E : Value → Shared → Prop} {s : Shared} {K : Frag} {x C L f : Addr} {h0 : Heap} {m : Str → Option Value} {ox : Obj} {od : Option Obj} {name : Str} {id B : String} {b tb : Value}
theorem bound_B {args : List Value} {Q : Option Value → Shared → Prop} (X : K.In s.heap) (J : InstAt s.heap x ox C od) (at_ : findIn K (.ref C) name = some (some (.builtin id))) (S : Slot B name id)
    (h : wpAny (model prog w) A (call (.builtin id) (.ref x :: args)) (fun v => Q (some v)) E s) : wpAny (model prog w) A (callSpecialIfBound? (.ref x) name args) Q E s := by
  simp only [callSpecialIfBound?, bindSpecialIfBound?]
  refine wpAny_holding (wpAny_bind (wpAny_bind (wpAny_bind (J.type.here ((looks_findIn X at_).here ?_)))))
  simp only [S.bind]
  refine wpAny_bind (wpAny_askSetting (wpAny_ite ?_))
  have fin : wpAny (model prog w) A (call (.builtin id) ([.ref x] ++ args) >>= fun v => pure (some v)) Q E s := wpAny_bind (wpAny_mono h (fun v s1 q => wpAny_pure q) fun _ _ q => q)
  split
  · first
      | exact wpAny_bind (wpAny_pure (wpAny_pure (by exact fin)))
      | exact wpAny_bind (wpAny_pure (by exact fin))
      | exact wpAny_pure (by exact fin)
  · first
      | exact wpAny_tryCatch (wpAny_bind (wpAny_pure (wpAny_pure (by exact fin))))
      | exact wpAny_tryCatch (wpAny_bind (wpAny_pure (by exact fin)))
theorem ne_body {fd : Value} {Q : Fin → Shared → Prop} (hu : A.units < cLine) (X : K.In s.heap) (J : InstAt s.heap x ox C od) (at_ : findIn K (.ref C) "__eq__" = some (some (.ref f))) (fn : isFn K (.ref f) = true)
    (h : wpAny (model prog w) A (call (.ref f) [.ref x, b]) (fun v s1 => ∃ r, v = .bool r ∧ Q (.done (.ret (.bool (!r)))) s1) E s) : wpAny (model prog w) A (Builtin.«object.__ne__» ⟨[.ref x, b], []⟩) Q E s := by
  unfold Builtin.«object.__ne__»
  repeat (first
    | with_reducible refine wpAny_cRoomFor hu ?_
    | (refine wpAny_bind (m := callSpecialIfBound? (.ref x) (Str.ofString "__eq__") [b])
        (ifBound_K X J at_ fn (wpAny_mono h (fun v s1 q => by
          obtain ⟨r, rfl, q⟩ := q
          repeat (first | exact q | exact wpAny_pure q | exact wpAny_truthy_bool q | (refine wpAny_bind (m := truthy (.bool _)) (wpAny_truthy_bool ?_)) | wp_step)) fun _ _ e => e)))
    | wp_step)
theorem ne_own {Q : Value → Shared → Prop} (hu : A.units + 1 < cLine) (X : K.In s.heap) (J : InstAt s.heap x ox C od) (hb : Looks (model prog w) s.heap (typeOf b) tb) (nf : notFirst K C tb = true)
    (ne : findIn K (.ref C) "__ne__" = some (some (.builtin "object.__ne__"))) (ob : mroIn K C (.type "object") = some true) (at_ : findIn K (.ref C) "__eq__" = some (some (.ref f))) (fn : isFn K (.ref f) = true)
    (h : wpAny (model prog w) A.in1 (call (.ref f) [.ref x, b]) (fun v s1 => ∃ r, v = .bool r ∧ Q (.bool (!r)) s1) E s) : wpAny (model prog w) A (richCompare .NotEq (.ref x) b) Q E s := by
  have one : wpAny (model prog w) A (tryCompare (.ref x) "__ne__" b) (fun r s1 => ∃ v, r = some v ∧ Q v s1) E s := by
    unfold tryCompare
    refine wpAny_bind (bound_B X J ne F.cmp_object.ne (wpAny_call (codeAny_call_builtin F.cmp_object.ne.plain F.cmpEntry_ne (check_slot F.cmpKind_ne F.cmpSplit_ne ?_ (F.cmpArgs_ne _ _) (ne_body (A := A.in1) (fd := .none) hu X J at_ fn (wpAny_mono h (fun v s1 q => ?_) fun _ _ e => e))))))
    · unfold isInstance
      exact J.type.andThen (looks_mroIn X ob)
    · obtain ⟨r, rfl, q⟩ := q
      first | exact ⟨r, rfl, wpAny_pure ⟨_, rfl, q⟩⟩ | exact ⟨r, rfl, ⟨_, rfl, q⟩⟩
  unfold richCompare
  simp only [oneThing_ref]
  refine wpAny_holding (wpAny_bind (wpAny_cRoomFor (Nat.lt_of_succ_lt hu) ?_))
  refine wpAny_bind (J.type.here (wpAny_bind (hb.here ?_)))
  split
  · rename_i q
    have e : subIn K tb (.ref C) = some false := by
      rcases Bool.or_eq_true_iff.mp nf with e | e
      · rw [beq_iff_eq.mp e] at q
        simp at q
      · exact beq_iff_eq.mp e
    refine wpAny_bind ((looks_subIn X e).here ?_)
    simp only [Bool.false_eq_true, if_false]
    exact wpAny_bind (wpAny_mono one (fun r s1 z => by
      obtain ⟨v, rfl, q⟩ := z
      exact wpAny_pure q) fun _ _ e => e)
  · refine wpAny_bind (wpAny_pure ?_)
    simp only [Bool.false_eq_true, if_false]
    exact wpAny_bind (wpAny_mono one (fun r s1 z => by
      obtain ⟨v, rfl, q⟩ := z
      exact wpAny_pure q) fun _ _ e => e)
end

/-- x == y (neg: x != y), x an instance of the class at C, by its own == that promises sp -/
def rOwn (K : PySem.W.Frag) (C : Addr) (sp : Sp) (E : XK) (neg : Bool) : R2 := fun x y H Q => (∃ a dx fs, x = .ref a ∧ H a = some (.ins C dx fs)) ∧ (∃ t, TyX K H y t ∧ PySem.W.notFirst K C t = true) ∧ sp [x, y] H (fun v H' => ∃ b, v = .bl b ∧ Q (.bl (b != neg)) H') E
section
variable {X : Cx} {C : Addr} {k : Nat} {ps : List Str} {sp : Sp} {E : XK}
theorem call_own {A : Around} (f : Addr) {fd : FuncData} (F : FnOk X.prog X.w X.K X.mg X.base CX0 k f fd ps sp) (hb : Binds X.K fd ps []) (hr : Room k A) (fr : A.frames = X.A.frames) (pass : Passes CX0 X E) {pins : List (Addr × Obj)} {s : Shared} {σ : L2.St} {H : Hp} {x y : V} {u v : Value} {Q : VK}
    (I : Inv X pins σ H s) (rx : RelV x u) (ry : RelV y v) (h : sp [x, y] H Q E) : wpAny (model X.prog X.w) A (call (.ref f) [u, v]) (fun z s1 => ∃ r H', Inv X pins σ H' s1 ∧ RelV r z ∧ Q r H') X.xe s := by
  have e0 : Env0 X.prog X.w X.K X.mg X.base A X.stack s H := by
    have e := I.env0
    exact ⟨by rw [fr]; exact e.frames, e.mod, e.bs, e.bsz, e.funs, e.frf, e.hok, e.bare⟩
  have hl := F.len _ _ _ _ h
  refine wpAny_call (codeAny_mono (F.run A X.stack s H ⟨[u, v], []⟩ [u, v] [x, y] _ E hr e0 (by
    have := hb s [u, v] I.kIn (by simpa using hl)
    simpa using this) (.cons rx (.cons ry .nil)) h) fun r s1 hq => ?_)
  cases r with
  | error e => exact pass pins σ H s e s1 I hq
  | ok fl =>
    cases fl with
    | ret z =>
      obtain ⟨r, H', I', rz, q⟩ := I.after hq
      exact ⟨r, H', I', rz, q⟩
    | next => exact False.elim hq
    | brk => exact False.elim hq
    | cont => exact False.elim hq
theorem op_own (M : MethOk X.prog X.w X.K X.mg X.base C "__eq__" k ps sp) (hr : Room k X.A) (pass : Passes CX0 X E) : OpR X (compareOp .Eq) (rOwn X.K C sp E false) := by
  intro pins s σ H x y v u Q I rx ry ⟨⟨a, dx, fs, ex, ha⟩, ⟨t, ty, nf⟩, hsp⟩
  subst ex
  cases rx
  obtain ⟨f, fd, F, me, hb⟩ := M.ex
  obtain ⟨mA, J, _⟩ := ins_get I.hok ha
  obtain ⟨od, J, _⟩ := J.look
  obtain ⟨m, fr⟩ := I.fr
  obtain ⟨P, Z, p, _⟩ := kit_of I ry ty
  show wpAny _ X.A (richCompare .Eq (.ref a) u) _ _ _
  refine PySem.W.cmp_K (op := .Eq) (tb := t) hr.units0 fr I.ok.mod.kin J (Z.ty _ _ I.kIn p) nf me.at_ me.fn (wpAny_mono (call_own f F hb hr rfl pass I (show RelV (V.ref a) (Value.ref a) from rfl) ry hsp) (fun z s1 q => ?_) fun _ _ e => e)
  obtain ⟨r, H', I', rz, b, er, q⟩ := q
  subst er
  cases (show z = Value.bool b from rz)
  refine ⟨.bl b, H', I', rfl, ?_⟩
  rw [Bool.bne_false] at q
  exact q
theorem op_ownNe (M : MethOk X.prog X.w X.K X.mg X.base C "__eq__" k ps sp) (hr : Room (k + 1) X.A) (pass : Passes CX0 X E) (ne : PySem.W.findIn X.K (.ref C) "__ne__" = some (some (.builtin "object.__ne__"))) (ob : PySem.W.mroIn X.K C (.type "object") = some true) :
    OpR X (compareOp .NotEq) (rOwn X.K C sp E true) := by
  intro pins s σ H x y v u Q I rx ry ⟨⟨a, dx, fs, ex, ha⟩, ⟨t, ty, nf⟩, hsp⟩
  subst ex
  cases rx
  obtain ⟨f, fd, F, me, hb⟩ := M.ex
  obtain ⟨mA, J, _⟩ := ins_get I.hok ha
  obtain ⟨od, J, _⟩ := J.look
  obtain ⟨P, Z, p, _⟩ := kit_of I ry ty
  show wpAny _ X.A (richCompare .NotEq (.ref a) u) _ _ _
  have hu : X.A.units + 1 < cLine := by
    have := hr.un
    omega
  refine ne_own (tb := t) hu I.kIn J (Z.ty _ _ I.kIn p) nf ne ob me.at_ me.fn (wpAny_mono (call_own f F hb hr.in1 rfl pass I (show RelV (V.ref a) (Value.ref a) from rfl) ry hsp) (fun z s1 q => ?_) fun _ _ e => e)
  obtain ⟨r, H', I', rz, b, er, q⟩ := q
  subst er
  cases (show z = Value.bool b from rz)
  refine ⟨b, rfl, .bl (!b), H', I', rfl, ?_⟩
  rw [Bool.bne_true] at q
  exact q
end
section
variable {K : PySem.W.Frag} {C : Addr}
theorem notFirst_ty {s : String} (h : s ∈ tyNames) : PySem.W.notFirst K C (.type s) = true := by
  have h' : s = "NoneType" ∨ s = "bool" ∨ s = "int" ∨ s = "str" ∨ s = "list" ∨ s = "tuple" ∨ s = "dict" := by simpa [tyNames] using h
  rcases h' with e | e | e | e | e | e | e <;> subst e <;> kernel_rfl
theorem r2_own (R : RecFacts K C) {pre : List D → Prop} {f : List D → D} {E : XK} {neg b : Bool} {m : Int} {rows : List (List Int)} {e : D} (ht : (∃ s, tyD e = some s) ∨ ∃ n rs, e = .rcp n rs) (hp : pre [.rcp m rows, e]) (hf : f [.rcp m rows, e] = .bl b) :
    R2D K C (rOwn K C (SpD K C pre f 2) E neg) (.rcp m rows) e (.bl (b != neg)) := fun O H x y o h1 h2 Q q => by
  obtain ⟨a, dx, t, xs, rfl, g1, g2, g3⟩ := dat_rcp_iff.mp h1
  refine ⟨⟨a, dx, _, rfl, hid_same _ _ g1⟩, ?_, rfl, O, [.rcp m rows, e], o, .cons h1 (.one h2), hp, fun v H' s d => ?_⟩
  · rcases ht with ⟨s, hs⟩ | ⟨n, rs, rfl⟩
    · exact ⟨.type s, ty_dat h2 hs, notFirst_ty (tyD_mem hs)⟩
    · obtain ⟨a2, dx2, t2, xs2, rfl, k1, k2, k3⟩ := dat_rcp_iff.mp h2
      refine ⟨.ref C, .base (.ins (hid_same _ _ k1) R.cl R.ha R.hn R.tk R.hm), ?_⟩
      unfold PySem.W.notFirst
      rw [beq_self_eq_true, Bool.true_or]
  · rw [hf] at d
    exact ⟨b, dat_bl.mp d, q _ H' s (dat_bl.mpr rfl)⟩
end
end Zm


set_option Elab.async false
set_option linter.all false
set_option maxRecDepth 100000
set_option maxHeartbeats 4000000
set_option autoImplicit false
namespace Zm
open PySem PySem.Spec L2

/-! ### what == says of ints, rows, lists of rows -/
/-- data that == may look at, nested at most n deep -/
def ShN (n : Nat) (d : D) : Prop := flatAll d = true ∧ (toPy d).canLay0 = true ∧ (toPy d).depth ≤ n
theorem ShN.shp {n : Nat} {d : D} (h : ShN n d) (hn : n ≤ 64) : shp d = true := by
  unfold Zm.shp SeqAt.shaped
  rw [h.1, h.2.1, decide_eq_true (Nat.le_trans h.2.2 hn)]
  rfl
theorem shN_int {n : Nat} {i : Int} : ShN n (.int i) := by
  refine ⟨rfl, ?_, ?_⟩
  · unfold toPy PyData.canLay0
    rfl
  · unfold toPy PyData.depth
    exact Nat.zero_le _
theorem shN_all {n : Nat} : ∀ {ds : List D}, (∀ d ∈ ds, ShN n d) → flatAlls ds = true ∧ PyData.canLayAll0 (toPys ds) = true ∧ PyData.depthAll (toPys ds) ≤ n
  | [], _ => by
    refine ⟨rfl, ?_, ?_⟩
    · unfold toPys PyData.canLayAll0
      rfl
    · unfold toPys PyData.depthAll
      exact Nat.zero_le _
  | d :: ds, h => by
    obtain ⟨a1, a2, a3⟩ := h d (List.mem_cons_self ..)
    obtain ⟨b1, b2, b3⟩ := shN_all fun e he => h e (List.mem_cons_of_mem _ he)
    refine ⟨?_, ?_, ?_⟩
    · unfold flatAlls
      rw [a1, b1]
      rfl
    · unfold toPys PyData.canLayAll0
      rw [a2, b2]
      rfl
    · unfold toPys PyData.depthAll
      exact Nat.max_le.mpr ⟨a3, b3⟩
theorem shN_lst {n : Nat} {ds : List D} (h : ∀ d ∈ ds, ShN n d) : ShN (n + 1) (.lst ds) := by
  obtain ⟨b1, b2, b3⟩ := shN_all h
  refine ⟨?_, ?_, ?_⟩
  · unfold flatAll
    exact b1
  · unfold toPy PyData.canLay0
    exact b2
  · unfold toPy PyData.depth
    exact Nat.succ_le_succ b3
theorem shN_tup {n : Nat} {ds : List D} (h : ∀ d ∈ ds, ShN n d) : ShN (n + 1) (.tup ds) := by
  obtain ⟨b1, b2, b3⟩ := shN_all h
  refine ⟨?_, ?_, ?_⟩
  · unfold flatAll
    exact b1
  · unfold toPy PyData.canLay0
    exact b2
  · unfold toPy PyData.depth
    exact Nat.succ_le_succ b3
theorem shN_dI {n : Nat} {ns : List Int} : ∀ d ∈ dI ns, ShN n d := fun d hd => by
  obtain ⟨i, _, rfl⟩ := List.mem_map.mp hd
  exact shN_int
theorem shp_row {ns : List Int} : shp (.lst (dI ns)) = true := (shN_lst (n := 0) shN_dI).shp (by decide)
theorem shp_rowsD {rows : List (List Int)} : shp (rowsD rows) = true := (shN_tup (n := 1) fun d hd => by
  obtain ⟨r, _, rfl⟩ := List.mem_map.mp hd
  exact shN_tup shN_dI).shp (by decide)
theorem shp_rowsL {rows : List (List Int)} : shp (rowsL rows) = true := (shN_lst (n := 1) fun d hd => by
  obtain ⟨r, _, rfl⟩ := List.mem_map.mp hd
  exact shN_lst shN_dI).shp (by decide)
theorem eqs_map {α : Type} [DecidableEq α] {f : α → D} (h : ∀ a b, eqD (f a) (f b) = decide (a = b)) : ∀ (as bs : List α), PyData.eqvAll (toPys (as.map f)) (toPys (bs.map f)) = decide (as = bs)
  | [], [] => by
    unfold List.map toPys PyData.eqvAll
    rfl
  | [], b :: bs => by
    unfold List.map toPys PyData.eqvAll
    rfl
  | a :: as, [] => by
    unfold List.map toPys PyData.eqvAll
    rfl
  | a :: as, b :: bs => by
    have e := h a b
    unfold eqD at e
    have ih := eqs_map h as bs
    rw [List.map_cons, List.map_cons]
    unfold toPys PyData.eqvAll
    rw [e, ih, Bool.eq_iff_iff, Bool.and_eq_true, decide_eq_true_eq, decide_eq_true_eq, decide_eq_true_eq, List.cons.injEq]
theorem eqD_lst {ds es : List D} : eqD (.lst ds) (.lst es) = PyData.eqvAll (toPys ds) (toPys es) := by
  unfold eqD toPy PyData.eqv
  rfl
theorem eqD_tup {ds es : List D} : eqD (.tup ds) (.tup es) = PyData.eqvAll (toPys ds) (toPys es) := by
  unfold eqD toPy PyData.eqv
  rfl
theorem eqD_row {a b : List Int} : eqD (.lst (dI a)) (.lst (dI b)) = decide (a = b) := eqD_lst.trans (eqs_map (fun _ _ => eqD_int) a b)
theorem eqD_rowT {a b : List Int} : eqD (.tup (dI a)) (.tup (dI b)) = decide (a = b) := eqD_tup.trans (eqs_map (fun _ _ => eqD_int) a b)
theorem eqD_rowsD {a b : List (List Int)} : eqD (rowsD a) (rowsD b) = decide (a = b) := eqD_tup.trans (eqs_map (f := fun r => D.tup (dI r)) (fun _ _ => eqD_rowT) a b)
theorem eqD_rowsL {a b : List (List Int)} : eqD (rowsL a) (rowsL b) = decide (a = b) := eqD_lst.trans (eqs_map (f := fun r => D.lst (dI r)) (fun _ _ => eqD_row) a b)
end Zm


set_option Elab.async false
set_option linter.all false
set_option maxRecDepth 100000
set_option maxHeartbeats 4000000
set_option autoImplicit false
namespace Zm
open PySem PySem.Spec L2

/-! ### new lists that are changed -/
/-- how a piece of text may end -/
abbrev EndP := (Addr → Bool) → Hp → Ends → Prop
def SubO (O O' : Addr → Bool) : Prop := ∀ a, O a = true → O' a = true
def EndOk (E : EndP) : Prop := ∀ O0 O H0 H Z, SubO O0 O → OIn O0 H0 → Same H0 H → E O0 H0 Z → E O H Z
section
variable (K : PySem.W.Frag) (C : Addr)
def EndX (δ' : Dl) : EndP := fun O H Z => ∀ σ' H', Same H H' → At K C O H' σ' δ' → Z.nx σ' H'
def EndR (d : D) : EndP := fun O H Z => ∀ v H', Same H H' → Dat K C (hid O H') d v → Z.rt v H'
def StE (E : EndP) (ts : TS) (δ : Dl) : Prop := ∀ O σ H, At K C O H σ δ → ∀ Z : Ends, E O H Z → ts Z σ H
/-- slot i holds d, all of it made since H0 -/
def StNw (E : EndP) (ts : TS) (δ : Dl) (i : Nat) (d : D) : Prop := ∀ O H0 σ H, OIn O H0 → Same H0 H → EnvR K C (hid O H0) σ (δ.set i none) → (∃ v, σ[i]? = some (some v) ∧ Dat K C (hid (dom H0) H) d v) → ∀ Z : Ends, E O H0 Z → ts Z σ H
abbrev WP := (Addr → Bool) → Hp → Hp → V → Prop
/-- slot i holds what W says; its lists are one's own -/
def StW (E : EndP) (ts : TS) (δ : Dl) (i : Nat) (W : WP) : Prop := ∀ O0 H0 O σ H, SubO O0 O → OIn O0 H0 → Same H0 H → At K C O H σ δ → (∃ v, σ[i]? = some (some v) ∧ W O H0 H v) → ∀ Z : Ends, E O0 H0 Z → ts Z σ H
end
mutual
def Wild (n : Nat) : D → WP
  | .lst ds, O, H0, H, v => ∃ a xs, v = .ref a ∧ O a = true ∧ H0 a = none ∧ H a = some (.lst xs) ∧ xs.length ≤ n ∧ Wilds n ds O H0 H xs
  | _, _, _, _, _ => True
def Wilds (n : Nat) : List D → (Addr → Bool) → Hp → Hp → List V → Prop
  | [], _, _, _, _ => True
  | d :: ds, O, H0, H, xs => ∃ x ys, xs = x :: ys ∧ Wild n d O H0 H x ∧ Wilds n ds O H0 H ys
end
mutual
/-- no list of it longer than n -/
def BndD (n : Nat) : D → Prop
  | .lst ds => ds.length ≤ n ∧ BndDs n ds
  | _ => True
def BndDs (n : Nat) : List D → Prop
  | [] => True
  | d :: ds => BndD n d ∧ BndDs n ds
end
section
variable {K : PySem.W.Frag} {C : Addr} {O O0 : Addr → Bool} {H0 H H' : Hp} {n : Nat}
theorem hid_sub (s : SubO O0 O) : Same (hid O H) (hid O0 H) := fun a u e => by
  unfold hid at e ⊢
  split at e
  · cases e
  · rename_i q
    rw [if_neg fun z => q (s a z)]
    exact e
theorem sub_dom (o : OIn O H) : SubO O (dom H) := fun a e => own_dom o e
/-- what was made since H0 is one's own, but for tuples -/
structure Old (O : Addr → Bool) (H0 H : Hp) : Prop where
  same : Same H0 H
  own : ∀ a o, H0 a = none → H a = some o → NoT o → O a = true
theorem dom_none {H0 H : Hp} {a : Addr} {o : HO} (s : Same H0 H) (h : hid (dom H0) H a = some o) (no : NoT o) : H0 a = none ∧ H a = some o := by
  unfold hid at h
  split at h
  · cases h
  · rename_i q
    refine ⟨?_, h⟩
    cases r : H0 a with
    | none => rfl
    | some u =>
      have h2 := s a u r
      rw [h] at h2
      rw [Option.some.inj h2] at no
      exact absurd (dom_of r no) q
theorem endX_ok {δ' : Dl} : EndOk (EndX K C δ') := fun O0 O H0 H Z s o e h σ' H' s' n => h σ' H' (e.trans s') ⟨o.same (e.trans s'), n.env.same (hid_sub s)⟩
theorem endR_ok {d : D} : EndOk (EndR K C d) := fun O0 O H0 H Z s o e h v H' s' n => h v H' (e.trans s') (n.same (hid_sub s))
mutual
theorem Wild.of (old : Old O H0 H) : ∀ {d : D} {v : V}, BndD n d → Dat K C (hid (dom H0) H) d v → Wild n d O H0 H v
  | .lst ds, v, b, h => by
    obtain ⟨a, xs, rfl, h1, h2⟩ := dat_lst_iff.mp h
    unfold BndD at b
    unfold Wild
    obtain ⟨h0, h3⟩ := dom_none old.same h1 trivial
    exact ⟨a, xs, rfl, old.own a _ h0 h3 trivial, h0, h3, by rw [h2.length]; exact b.1, Wilds.of old b.2 h2⟩
  | .non, _, _, _ => by unfold Wild; trivial
  | .bl _, _, _, _ => by unfold Wild; trivial
  | .int _, _, _, _ => by unfold Wild; trivial
  | .str _, _, _, _ => by unfold Wild; trivial
  | .tup _, _, _, _ => by unfold Wild; trivial
  | .dic _, _, _, _ => by unfold Wild; trivial
  | .rcp _ _, _, _, _ => by unfold Wild; trivial
  | .raw _, _, _, _ => by unfold Wild; trivial
  | .dtp _, _, _, _ => by unfold Wild; trivial
theorem Wilds.of (old : Old O H0 H) : ∀ {ds : List D} {xs : List V}, BndDs n ds → Dats K C (hid (dom H0) H) ds xs → Wilds n ds O H0 H xs
  | [], _, _, _ => by unfold Wilds; trivial
  | d :: ds, xs, b, h => by
    obtain ⟨x, ys, rfl, h1, h2⟩ := dats_cons.mp h
    unfold BndDs at b
    unfold Wilds
    exact ⟨x, ys, rfl, Wild.of old b.1 h1, Wilds.of old b.2 h2⟩
end
mutual
theorem Wild.same (s : Same H H') : ∀ {d : D} {v : V}, Wild n d O H0 H v → Wild n d O H0 H' v
  | .lst ds, v, h => by
    unfold Wild at h ⊢
    obtain ⟨a, xs, h1, h2, h3, h4, h5, h6⟩ := h
    exact ⟨a, xs, h1, h2, h3, s _ _ h4, h5, Wilds.same s h6⟩
  | .non, _, _ => by unfold Wild; trivial
  | .bl _, _, _ => by unfold Wild; trivial
  | .int _, _, _ => by unfold Wild; trivial
  | .str _, _, _ => by unfold Wild; trivial
  | .tup _, _, _ => by unfold Wild; trivial
  | .dic _, _, _ => by unfold Wild; trivial
  | .rcp _ _, _, _ => by unfold Wild; trivial
  | .raw _, _, _ => by unfold Wild; trivial
  | .dtp _, _, _ => by unfold Wild; trivial
theorem Wilds.same (s : Same H H') : ∀ {ds : List D} {xs : List V}, Wilds n ds O H0 H xs → Wilds n ds O H0 H' xs
  | [], _, _ => by unfold Wilds; trivial
  | d :: ds, xs, h => by
    unfold Wilds at h ⊢
    obtain ⟨x, ys, h1, h2, h3⟩ := h
    exact ⟨x, ys, h1, Wild.same s h2, Wilds.same s h3⟩
end
theorem Wilds.snoc {y : V} : ∀ {ds : List D} {xs : List V}, Wilds n ds O H0 H xs → Wilds n ds O H0 H (xs ++ [y])
  | [], _, _ => by unfold Wilds; trivial
  | d :: ds, xs, h => by
    unfold Wilds at h ⊢
    obtain ⟨x, ys, rfl, h2, h3⟩ := h
    exact ⟨x, ys ++ [y], rfl, h2, Wilds.snoc h3⟩
mutual
/-- whatever list grows -/
theorem Wild.app {b : Addr} {ys : List V} {y : V} (hb : H b = some (.lst ys)) : ∀ {d : D} {v : V}, Wild n d O H0 H v → Wild (n + 1) d O H0 (upd H b (.lst (ys ++ [y]))) v
  | .lst ds, v, h => by
    unfold Wild at h ⊢
    obtain ⟨a, xs, h1, h2, h3, h4, h5, h6⟩ := h
    by_cases e : a = b
    · subst e
      rw [hb] at h4
      cases h4
      exact ⟨a, ys ++ [y], h1, h2, h3, upd_same, by rw [List.length_append]; exact Nat.succ_le_succ h5, (Wilds.app hb h6).snoc⟩
    · exact ⟨a, xs, h1, h2, h3, by rw [upd_ne e]; exact h4, Nat.le_succ_of_le h5, Wilds.app hb h6⟩
  | .non, _, _ => by unfold Wild; trivial
  | .bl _, _, _ => by unfold Wild; trivial
  | .int _, _, _ => by unfold Wild; trivial
  | .str _, _, _ => by unfold Wild; trivial
  | .tup _, _, _ => by unfold Wild; trivial
  | .dic _, _, _ => by unfold Wild; trivial
  | .rcp _ _, _, _ => by unfold Wild; trivial
  | .raw _, _, _ => by unfold Wild; trivial
  | .dtp _, _, _ => by unfold Wild; trivial
theorem Wilds.app {b : Addr} {ys : List V} {y : V} (hb : H b = some (.lst ys)) : ∀ {ds : List D} {xs : List V}, Wilds n ds O H0 H xs → Wilds (n + 1) ds O H0 (upd H b (.lst (ys ++ [y]))) xs
  | [], _, _ => by unfold Wilds; trivial
  | d :: ds, xs, h => by
    unfold Wilds at h ⊢
    obtain ⟨x, zs, h1, h2, h3⟩ := h
    exact ⟨x, zs, h1, Wild.app hb h2, Wilds.app hb h3⟩
end
theorem Wilds.get : ∀ {ds : List D} {xs : List V} {j : Nat} {d : D}, Wilds n ds O H0 H xs → ds[j]? = some d → ∃ x, xs[j]? = some x ∧ Wild n d O H0 H x
  | [], _, _, _, _, e => by simp at e
  | d :: ds, xs, j, d', h, e => by
    unfold Wilds at h
    obtain ⟨x, ys, rfl, h2, h3⟩ := h
    cases j with
    | zero =>
      have q : d = d' := by simpa using e
      subst q
      exact ⟨x, rfl, h2⟩
    | succ j =>
      obtain ⟨z, a, b⟩ := h3.get (j := j) (by simpa using e)
      exact ⟨z, by simpa using a, b⟩
theorem At.grow {σ : L2.St} {δ : Dl} {a : Addr} {o : HO} (n : At K C O H σ δ) (h : O a = true) (ho : NoT o := by trivial) : At K C O (upd H a o) σ δ := ⟨n.own.upd ho, by rw [hid_upd h]; exact n.env⟩
end
end Zm


set_option Elab.async false
set_option linter.all false
set_option maxRecDepth 100000
set_option maxHeartbeats 4000000
set_option autoImplicit false
namespace Zm
open PySem PySem.Spec L2

section
variable {K : PySem.W.Frag} {C : Addr} {E : EndP} {ts ts' : TS} {δ δ' : Dl} {i j : Nat} {d e : D} {te : TE} {t : TT} {W : WP} {n : Nat} {ds es : List D}
theorem dat_dom {O : Addr → Bool} {H0 H : Hp} {v : V} (o : OIn O H0) (h : Dat K C (hid (dom H0) H) d v) : Dat K C (hid O H) d v := h.same (hid_sub (sub_dom o))
theorem StE.x (h : StE K C (EndX K C δ') ts δ) : StX K C ts δ δ' := h
theorem StE.r (h : StE K C (EndR K C d) ts δ) : StR K C ts δ d := h
theorem se_x (h : StX K C ts δ δ') : StE K C (EndX K C δ') ts δ := h
theorem se_r (h : StR K C ts δ d) : StE K C (EndR K C d) ts δ := h
theorem se_seq (ok : EndOk E) (h : StX K C ts δ δ') (g : StE K C E ts' δ') : StE K C E (tSeq ts ts') δ := fun O σ H n Z q => h O σ H n _ fun σ' H' s n' => g O σ' H' n' Z (ok _ _ _ _ _ (fun _ e => e) n.own s q)
theorem se_guard (ok : EndOk E) (h : EvT K C t δ false) (g : StE K C E ts' δ) : StE K C E (tSeq (tIfS t ts tNext) ts') δ := fun O σ H n Z q => h O σ H n _ fun H' s => g O σ H' (n.same s) Z (ok _ _ _ _ _ (fun _ e => e) n.own s q)
theorem envR_set {H : Hp} {σ : L2.St} {v : V} (h : EnvR K C H σ (δ.set i none)) (hv : σ[i]? = some (some v)) (hd : Dat K C H d v) : EnvR K C H σ (δ.set i (some d)) := ⟨by rw [h.1, List.length_set, List.length_set], fun k e q => by
  by_cases hk : i = k
  · subst hk
    rw [List.getElem?_set] at q
    split at q
    · split at q
      · have e1 : d = e := by simpa using q
        subst e1
        exact ⟨v, hv, hd⟩
      · cases q
    · exact absurd rfl (by assumption)
  · rw [List.getElem?_set_ne hk] at q
    exact h.2 k e (by rw [List.getElem?_set_ne hk]; exact q)⟩
/-- a new thing comes into a slot -/
theorem se_new (ok : EndOk E) (hi : i < δ.length) (h : EvF K C te δ d) (g : StNw K C E ts δ i d) : StE K C E (tSeq (tAsg te (gName i)) ts) δ := fun O σ H n Z q => h O σ H n _ fun v H1 s1 d1 => by
  have hl : i < σ.length := by rw [n.env.1]; exact hi
  exact g O H (σ.set i (some v)) H1 n.own s1 (n.env.unset (some v) i) ⟨v, List.getElem?_set_self hl, d1⟩ Z q
theorem nw_at {O : Addr → Bool} {H0 H : Hp} {σ : L2.St} (o : OIn O H0) (s : Same H0 H) (env : EnvR K C (hid O H0) σ (δ.set i none)) (hv : ∃ v, σ[i]? = some (some v) ∧ Dat K C (hid (dom H0) H) d v) : At K C O H σ (δ.set i (some d)) := by
  obtain ⟨v, h1, h2⟩ := hv
  exact ⟨o.same s, envR_set (env.same (same_hid s)) h1 (dat_dom o h2)⟩
theorem nw_same {H0 H H' : Hp} {σ : L2.St} (s : Same H H') (hv : ∃ v, σ[i]? = some (some v) ∧ Dat K C (hid (dom H0) H) d v) : ∃ v, σ[i]? = some (some v) ∧ Dat K C (hid (dom H0) H') d v := by
  obtain ⟨v, h1, h2⟩ := hv
  exact ⟨v, h1, h2.same (same_hid s)⟩
theorem snw_guard (h : EvT K C t (δ.set i (some d)) false) (g : StNw K C E ts' δ i d) : StNw K C E (tSeq (tIfS t ts tNext) ts') δ i d := fun O H0 σ H o s env hv Z q =>
  h O σ H (nw_at o s env hv) _ fun H' s' => g O H0 σ H' o (s.trans s') env (nw_same s' hv) Z q
/-- one's own are now the things made since H0 too -/
def grown (O : Addr → Bool) (H0 H : Hp) : Addr → Bool := fun a => O a || (dom H a && !dom H0 a)
theorem grown_sub {O : Addr → Bool} {H0 H : Hp} : SubO O (grown O H0 H) := fun a e => by
  unfold grown
  rw [e]
  rfl
theorem grown_in {O : Addr → Bool} {H0 H : Hp} (o : OIn O H0) (s : Same H0 H) : OIn (grown O H0 H) H := by
  have oH := o.same s
  refine ⟨fun a e q => ?_, fun a v e q => ?_⟩
  · unfold grown at e
    rcases Bool.or_eq_true_iff.mp e with e | e
    · exact oH a e q
    · obtain ⟨e, _⟩ := Bool.and_eq_true_iff.mp e
      obtain ⟨u, r, _⟩ := dom_some e
      rw [q] at r
      cases r
  · unfold grown at e
    rcases Bool.or_eq_true_iff.mp e with e | e
    · exact oH.nt a v e q
    · obtain ⟨e, _⟩ := Bool.and_eq_true_iff.mp e
      obtain ⟨u, r, nu⟩ := dom_some e
      rw [q] at r
      rw [Option.some.inj r]
      exact nu
theorem grown_old {O : Addr → Bool} {H0 H : Hp} (s : Same H0 H) : Old (grown O H0 H) H0 H := ⟨s, fun a o h0 h no => by
  unfold grown
  have e1 : dom H a = true := dom_of h no
  have e2 : dom H0 a = false := by
    unfold dom
    rw [h0]
    rfl
  rw [e1, e2]
  simp⟩
theorem grown_hid {O : Addr → Bool} {H0 H : Hp} (s : Same H0 H) : Same (hid O H0) (hid (grown O H0 H) H) := fun a u e => by
  unfold hid at e ⊢
  split at e
  · cases e
  · rename_i q
    have : ¬ grown O H0 H a = true := fun z => by
      unfold grown at z
      rcases Bool.or_eq_true_iff.mp z with z | z
      · exact q z
      · obtain ⟨z1, z⟩ := Bool.and_eq_true_iff.mp z
        obtain ⟨w, r, nw⟩ := dom_some z1
        rw [s a u e] at r
        rw [← Option.some.inj r] at nw
        rw [dom_of e nw] at z
        cases z
    rw [if_neg this]
    exact s a u e
theorem grown_dom {O : Addr → Bool} {H0 H H' : Hp} (o : OIn O H0) (s : Same H0 H) : Same (hid (dom H) H') (hid (grown O H0 H) H') := hid_sub fun a e => by
  unfold grown at e
  rcases Bool.or_eq_true_iff.mp e with e | e
  · exact sub_dom (o.same s) a e
  · exact (Bool.and_eq_true_iff.mp e).1
theorem sn_wild (hW : ∀ {O : Addr → Bool} {H0 H : Hp} {v : V}, Old O H0 H → Dat K C (hid (dom H0) H) d v → W O H0 H v) (g : StW K C E ts (δ.set i none) i W) : StNw K C E ts δ i d := fun O H0 σ H o s env hv Z q => by
  obtain ⟨v, h1, h2⟩ := hv
  exact g O H0 (grown O H0 H) σ H grown_sub o s ⟨grown_in o s, env.same (grown_hid s)⟩ ⟨v, h1, hW (grown_old s) h2⟩ Z q
/-- a wholly new thing is made of it, then it is one's own -/
theorem sn_mk (hj : i ≠ j) (hl : j < δ.length) (h : EvF K C te (δ.set i (some d)) e) (hW : ∀ {O : Addr → Bool} {H0 H : Hp} {v : V}, Old O H0 H → Dat K C (hid (dom H0) H) d v → W O H0 H v)
    (hs : ∀ {O : Addr → Bool} {H0 H H' : Hp} {v : V}, Same H H' → W O H0 H v → W O H0 H' v) (g : StW K C E ts ((δ.set i none).set j (some e)) i W) : StNw K C E (tSeq (tAsg te (gName j)) ts) δ i d := fun O H0 σ H o s env hv Z q =>
  h O σ H (nw_at o s env hv) _ fun w H1 s1 d1 => by
    obtain ⟨v, h1, h2⟩ := hv
    have n0 : At K C (grown O H0 H) H1 σ (δ.set i none) := ⟨(grown_in o s).same s1, (env.same (grown_hid s)).same (same_hid s1)⟩
    have n1 : At K C (grown O H0 H) H1 (σ.set j (some w)) ((δ.set i none).set j (some e)) := ⟨n0.own, n0.env.set j (d1.same (grown_dom o s))⟩
    exact g O H0 (grown O H0 H) (σ.set j (some w)) H1 grown_sub o (s.trans s1) n1 ⟨v, by rw [List.getElem?_set_ne hj.symm]; exact h1, hs s1 (hW (grown_old s) h2)⟩ Z q
theorem sw_fin (ok : EndOk E) (h : StE K C E ts δ) : StW K C E ts δ i W := fun O0 H0 O σ H so o s n hv Z q => h O σ H n Z (ok _ _ _ _ _ so o s q)
/-- x.append(e) -/
theorem sw_app (hn : n < 100000) (h : EvD K C te δ e) (g : StW K C E ts δ i (Wild (n + 1) (.lst ds))) : StW K C E (tSeq (tDrop (tBM K "list" rAppend (tVar i) (tCons te tNil))) ts) δ i (Wild n (.lst ds)) := fun O0 H0 O σ H so o s n1 hv Z q => by
  obtain ⟨v, hv, hw⟩ := hv
  have hw' := hw
  unfold Wild at hw'
  obtain ⟨a, xs, rfl, k1, k2, k3, k4, k5⟩ := hw'
  refine ⟨.ref a, hv, .inl ⟨rfl, xs, (.inl (.inl k3))⟩, h O σ H n1 _ fun w H1 s1 d1 => ⟨a, xs, w, rfl, rfl, s1 _ _ k3, Nat.lt_of_le_of_lt k4 (Nat.lt_of_lt_of_le hn (by decide)), ?_⟩⟩
  exact g O0 H0 O σ _ so o (same_mut (s.trans s1) k2) ((n1.same s1).grow k1) ⟨.ref a, hv, Wild.app (s1 _ _ k3) (Wild.same s1 hw)⟩ Z q
/-- x[j].append(e) -/
theorem sw_appI {l : Int} (hn : n < 100000) (hl : l = (j : Int)) (hj : ds[j]? = some (.lst es)) (h : EvD K C te δ e) (g : StW K C E ts δ i (Wild (n + 1) (.lst ds))) :
    StW K C E (tSeq (tDrop (tBM K "list" rAppend (tOp (rIxL K) (tVar i) (tC (.int l))) (tCons te tNil))) ts) δ i (Wild n (.lst ds)) := fun O0 H0 O σ H so o s n1 hv Z q => by
  obtain ⟨v, hv, hw⟩ := hv
  have hw' := hw
  unfold Wild at hw'
  obtain ⟨a, xs, rfl, k1, k2, k3, k4, k5⟩ := hw'
  obtain ⟨x, e1, e2⟩ := k5.get hj
  unfold Wild at e2
  obtain ⟨b, ys, rfl, m1, m2, m3, m4, m5⟩ := e2
  have ix : atI xs l = some (.ref b) := by
    subst hl
    unfold atI ixN
    rw [if_pos (Int.natCast_nonneg j)]
    have : (j : Int) < (xs.length : Int) := by
      have := (List.getElem?_eq_some_iff.mp e1).1
      omega
    rw [if_pos this, Option.bind_some, Int.toNat_natCast]
    exact e1
  refine ⟨.ref a, hv, a, xs, l, .ref b, rfl, rfl, (.inl (.inl k3)), ix, .inl ⟨rfl, ys, (.inl (.inl m3))⟩, h O σ H n1 _ fun w H1 s1 d1 => ⟨b, ys, w, rfl, rfl, s1 _ _ m3, Nat.lt_of_le_of_lt m4 (Nat.lt_of_lt_of_le hn (by decide)), ?_⟩⟩
  exact g O0 H0 O σ _ so o (same_mut (s.trans s1) m2) ((n1.same s1).grow m1) ⟨.ref a, hv, Wild.app (s1 _ _ m3) (Wild.same s1 hw)⟩ Z q
/-- a new list of new rows -/
def WRows (n : Nat) : WP := fun O H0 H v => ∃ a xs, v = .ref a ∧ O a = true ∧ H0 a = none ∧ H a = some (.lst xs) ∧ xs.length ≤ n ∧ ∀ x ∈ xs, ∃ q ys, x = .ref q ∧ q ≠ a ∧ O q = true ∧ H0 q = none ∧ H q = some (.lst ys) ∧ ys.length ≤ n
theorem WRows.same {O : Addr → Bool} {H0 H H' : Hp} {v : V} (s : Same H H') (h : WRows n O H0 H v) : WRows n O H0 H' v := by
  obtain ⟨a, xs, h1, h2, h3, h4, h5, h6⟩ := h
  refine ⟨a, xs, h1, h2, h3, s _ _ h4, h5, fun x hx => ?_⟩
  obtain ⟨q, ys, k1, k2, k3, k4, k5, k6⟩ := h6 x hx
  exact ⟨q, ys, k1, k2, k3, k4, s _ _ k5, k6⟩
theorem dats_mem {H : Hp} : ∀ {ds : List D} {xs : List V}, Dats K C H ds xs → ∀ x ∈ xs, ∃ d ∈ ds, Dat K C H d x
  | [], xs, h, x, hx => by
    rw [dats_nil.mp h] at hx
    cases hx
  | d :: ds, xs, h, x, hx => by
    obtain ⟨y, ys, rfl, h1, h2⟩ := dats_cons.mp h
    rcases List.mem_cons.mp hx with e | e
    · subst e
      exact ⟨d, List.mem_cons_self .., h1⟩
    · obtain ⟨d', m, q⟩ := dats_mem h2 x e
      exact ⟨d', List.mem_cons_of_mem _ m, q⟩
theorem WRows.of {rows : List (List Int)} (hl : rows.length ≤ n) (hr : ∀ r ∈ rows, r.length ≤ n) {O : Addr → Bool} {H0 H : Hp} {v : V} (old : Old O H0 H) (h : Dat K C (hid (dom H0) H) (rowsL rows) v) : WRows n O H0 H v := by
  obtain ⟨a, xs, rfl, h1, h2⟩ := dat_lst_iff.mp h
  obtain ⟨k1, k2⟩ := dom_none old.same h1 trivial
  refine ⟨a, xs, rfl, old.own a _ k1 k2 trivial, k1, k2, by rw [h2.length, List.length_map]; exact hl, fun x hx => ?_⟩
  obtain ⟨d, hd, dx⟩ := dats_mem h2 x hx
  obtain ⟨r, mr, rfl⟩ := List.mem_map.mp hd
  obtain ⟨q, ys, rfl, g1, g2⟩ := dat_lst_iff.mp dx
  obtain ⟨m1, m2⟩ := dom_none old.same g1 trivial
  have e := dats_ints.mp g2
  refine ⟨q, ys, rfl, fun z => ?_, old.own q _ m1 m2 trivial, m1, m2, by rw [e, List.length_map]; exact hr r mr⟩
  subst z
  rw [m2] at k2
  cases k2
  rw [e] at hx
  obtain ⟨z, _, hz⟩ := List.mem_map.mp hx
  cases hz
/-- for row in x: row.append(e) -/
theorem swr_for {r : Nat} (hr : r ≠ i) (hrl : r < δ.length) (hn : 2 * n < 100000) (h : EvD K C te (δ.set r none) e) (g : StW K C E ts (δ.set r none) i (Wild n (.lst []))) :
    StW K C E (tSeq (tFor (iList K (tVar i)) (gName r) (tDrop (tBM K "list" rAppend (tVar r) (tCons te tNil)))) ts) δ i (WRows n) := fun O0 H0 O σ H so o s n1 hv Z q => by
  obtain ⟨v, hv, a, xs, rfl, k1, k2, k3, k4, k5⟩ := hv
  refine ⟨.ref a, hv, a, rfl, ⟨xs, .inl (.inl k3)⟩, ?_⟩
  refine ⟨fun k m σ' H' => m = xs.length - k ∧ k ≤ xs.length ∧ Same H0 H' ∧ At K C O H' σ' (δ.set r none) ∧ σ'[i]? = some (some (.ref a)) ∧ H' a = some (.lst xs) ∧ ∀ x ∈ xs, ∃ p ys, x = .ref p ∧ p ≠ a ∧ O p = true ∧ H0 p = none ∧ H' p = some (.lst ys) ∧ ys.length ≤ n + k,
    ⟨xs.length, by omega, Nat.zero_le _, s, ⟨n1.own, ?_⟩, hv, k3, k5⟩, ?_⟩
  · refine ⟨n1.env.1.trans (List.length_set).symm, fun j d hd => ?_⟩
    by_cases e : r = j
    · subst e
      rw [List.getElem?_set_self hrl] at hd
      cases hd
    · rw [List.getElem?_set_ne e] at hd
      exact n1.env.2 j d hd
  rintro k m σ' H' ⟨rfl, hk, s', n', hv', ka, kx⟩
  by_cases hlt : k < xs.length
  · have hx : xs[k]? = some xs[k] := by simp [hlt]
    refine .inr ⟨⟨xs, xs[k], .inl (.inl ka), hx⟩, fun σ2 H2 => k + 1 ≤ xs.length ∧ Same H0 H2 ∧ At K C O H2 σ2 (δ.set r none) ∧ σ2[i]? = some (some (.ref a)) ∧ H2 a = some (.lst xs) ∧ ∀ x ∈ xs, ∃ p ys, x = .ref p ∧ p ≠ a ∧ O p = true ∧ H0 p = none ∧ H2 p = some (.lst ys) ∧ ys.length ≤ n + (k + 1),
      fun σ2 H2 hN => ⟨_, by omega, rfl, hN⟩, fun x H2 y => ?_⟩
    obtain ⟨rfl, y⟩ := y
    have ex := y xs (.inl (.inl ka))
    rw [hx] at ex
    cases ex
    obtain ⟨p, ys, ep, pa, po, p0, ph, pl⟩ := kx xs[k] (List.getElem_mem hlt)
    have n2 : At K C O H2 (σ'.set r (some xs[k])) (δ.set r none) := by
      have z := n'.env.unset (some xs[k]) r
      rw [List.set_set] at z
      exact ⟨n'.own, z⟩
    have hr2 : (σ'.set r (some xs[k]))[r]? = some (some xs[k]) := List.getElem?_set_self (by rw [n'.env.1, List.length_set]; exact hrl)
    rw [ep] at n2 hr2
    rw [ep]
    refine ⟨.ref p, hr2, .inl ⟨rfl, ys, .inl (.inl ph)⟩, h O _ H2 n2 _ fun w H3 s3 d3 => ⟨p, ys, w, rfl, rfl, s3 _ _ ph, Nat.lt_of_le_of_lt pl (Nat.lt_of_lt_of_le (by omega) (by decide : 100000 ≤ sizeLine)), hlt, same_mut (s'.trans s3) p0, ?_, by rw [List.getElem?_set_ne hr]; exact hv', by rw [upd_ne pa.symm]; exact s3 _ _ ka, fun x hx => ?_⟩⟩
    · exact (n2.same s3).grow po
    · obtain ⟨p2, ys2, e1, e2, e3, e4, e5, e6⟩ := kx x hx
      by_cases z : p2 = p
      · subst z
        rw [ph] at e5
        cases e5
        exact ⟨p2, _, e1, e2, e3, e4, upd_same, by rw [List.length_append]; exact Nat.succ_le_succ e6⟩
      · exact ⟨p2, ys2, e1, e2, e3, e4, by rw [upd_ne z]; exact s3 _ _ e5, Nat.le_succ_of_le e6⟩
  · have e : k = xs.length := by omega
    subst e
    refine .inl ⟨⟨xs, .inl (.inl ka), Nat.le_refl _⟩, ?_⟩
    refine g O0 H0 O σ' H' so o s' n' ⟨.ref a, hv', ?_⟩ Z q
    unfold Wild
    exact ⟨a, xs, rfl, k1, k2, ka, k4, by unfold Wilds; trivial⟩
/-- a new list of two new things -/
theorem ef_lst2 {ta tb : TE} (ha : EvF K C ta δ d) (hb : EvF K C tb δ e) : EvF K C (tLst (tCons ta (tCons tb tNil))) δ (.lst [d, e]) := fun O σ H n1 Q q => ha O σ H n1 _ fun v H1 s1 d1 => hb O σ H1 (n1.same s1) _ fun w H2 s2 d2 => by
  refine ⟨by show 2 ≤ sizeLine; decide, fun p hp => q _ _ ((s1.trans s2).trans (same_new hp)) ?_⟩
  have s3 := same_new (o := HO.lst [v, w]) hp
  refine dat_new ((s1.trans s2).trans s3) (back_none (s1.trans s2) hp) upd_same (.cons (d1.same ((same_hid s2).trans (same_hid s3))) (.one ((d2.same (dom_le s1)).same (same_hid s3))))
end
end Zm


set_option Elab.async false
set_option linter.all false
set_option maxRecDepth 100000
set_option maxHeartbeats 4000000
set_option autoImplicit false
namespace Zm
open PySem PySem.Spec L2

/-! ### a list that grows, and is read at the end -/
section
variable (K : PySem.W.Frag) (C : Addr)
/-- a new list of at most n things that P tells -/
def WL (P : D → Prop) (n : Nat) : WP := fun O H0 H v => ∃ a xs ds, v = .ref a ∧ O a = true ∧ H0 a = none ∧ H a = some (.lst xs) ∧ xs.length ≤ n ∧ (∀ d ∈ ds, P d) ∧ Dats K C (hid O H) ds xs
/-- a piece of text that keeps the phase -/
def StWB (ts : TS) (δ δ' : Dl) (i : Nat) (W W' : WP) : Prop := ∀ H0 O σ H, Same H0 H → At K C O H σ δ → (∃ v, σ[i]? = some (some v) ∧ W O H0 H v) → ∀ Z : Ends, (∀ σ' H', Same H0 H' → Same (hid O H) (hid O H') → At K C O H' σ' δ' → (∃ v, σ'[i]? = some (some v) ∧ W' O H0 H' v) → Z.nx σ' H') → ts Z σ H
end
section
variable {K : PySem.W.Frag} {C : Addr} {E : EndP} {ts ts' : TS} {δ δ' δ2 : Dl} {i j : Nat} {d e z : D} {te te2 : TE} {t : TT} {W W' : WP} {n : Nat} {ds es : List D} {P : D → Prop} {c : Nat} {R1 : D → Prop} {tr : TA}
theorem WL.mono {m : Nat} (h : n ≤ m) {O : Addr → Bool} {H0 H : Hp} {v : V} (w : WL K C P n O H0 H v) : WL K C P m O H0 H v := by
  obtain ⟨a, xs, ds, h1, h2, h3, h4, h5, h6⟩ := w
  exact ⟨a, xs, ds, h1, h2, h3, h4, Nat.le_trans h5 h, h6⟩
theorem swb_seq (h : StWB K C ts δ δ' i W W') (g : StW K C E ts' δ' i W') : StW K C E (tSeq ts ts') δ i W := fun O0 H0 O σ H so o s n hv Z q => h H0 O σ H s n hv { Z with nx := ts' Z } fun σ' H' s' _ n' hv' => g O0 H0 O σ' H' so o s' n' hv' Z q
/-- x.append(e) -/
theorem swb_app (hn : n < 100000) (h : EvD K C te δ e) (hp : P e) : StWB K C (tDrop (tBM K "list" rAppend (tVar i) (tCons te tNil))) δ δ i (WL K C P n) (WL K C P (n + 1)) := fun H0 O σ H s n1 hv Z q => by
  obtain ⟨v, hv, a, xs, ds, rfl, k1, k2, k3, k4, k5, k6⟩ := hv
  refine ⟨.ref a, hv, .inl ⟨rfl, xs, .inl (.inl k3)⟩, h O σ H n1 _ fun w H1 s1 d1 => ⟨a, xs, w, rfl, rfl, s1 _ _ k3, Nat.lt_of_le_of_lt k4 (Nat.lt_of_lt_of_le hn (by decide)), ?_⟩⟩
  have e1 : hid O (upd H1 a (.lst (xs ++ [w]))) = hid O H1 := hid_upd k1
  refine q _ _ (same_mut (s.trans s1) k2) (by rw [e1]; exact same_hid s1) ((n1.same s1).grow k1) ⟨.ref a, hv, a, xs ++ [w], ds ++ [e], rfl, k1, k2, upd_same, by rw [List.length_append]; exact Nat.succ_le_succ k4, fun d hd => ?_, by rw [e1]; exact (k6.same (same_hid s1)).append (.one d1)⟩
  rcases List.mem_append.mp hd with hd | hd
  · exact k5 d hd
  · rw [List.mem_singleton.mp hd]
    exact hp
theorem swb_if {b : Bool} (h : EvT K C t δ b) (hW : ∀ {O : Addr → Bool} {H0 H H' : Hp} {v : V}, Same H H' → W O H0 H v → W O H0 H' v) (h1 : b = true → StWB K C ts δ δ' i W W') (h2 : b = false → StWB K C ts' δ δ' i W W') : StWB K C (tIfS t ts ts') δ δ' i W W' := fun H0 O σ H s n1 hv Z q => h O σ H n1 _ fun H1 s1 => by
  obtain ⟨v, hv, hw⟩ := hv
  have hv' : ∃ v, σ[i]? = some (some v) ∧ W O H0 H1 v := ⟨v, hv, hW s1 hw⟩
  cases b with
  | true => exact h1 rfl H0 O σ H1 (s.trans s1) (n1.same s1) hv' Z fun σ' H' s' sh n' hv2 => q σ' H' s' ((same_hid s1).trans sh) n' hv2
  | false => exact h2 rfl H0 O σ H1 (s.trans s1) (n1.same s1) hv' Z fun σ' H' s' sh n' hv2 => q σ' H' s' ((same_hid s1).trans sh) n' hv2
theorem swb_next (hW : ∀ {O : Addr → Bool} {H0 H : Hp} {v : V}, W O H0 H v → W' O H0 H v) : StWB K C tNext δ δ i W W' := fun H0 O σ H s n1 hv Z q => by
  obtain ⟨v, hv, hw⟩ := hv
  exact q σ H s (Same.refl _) n1 ⟨v, hv, hW hw⟩
theorem WL.same {O : Addr → Bool} {H0 H H' : Hp} {v : V} (s : Same H H') (w : WL K C P n O H0 H v) : WL K C P n O H0 H' v := by
  obtain ⟨a, xs, ds, h1, h2, h3, h4, h5, h6, h7⟩ := w
  exact ⟨a, xs, ds, h1, h2, h3, s _ _ h4, h5, h6, h7.same (same_hid s)⟩
theorem swb_le (h : StWB K C ts δ δ2 i W W') (l : LeD δ' δ2) : StWB K C ts δ δ' i W W' := fun H0 O σ H s n1 hv Z q => h H0 O σ H s n1 hv Z fun σ' H' s' sh n' hv' => q σ' H' s' sh (n'.weak l) hv'
/-- a loop of such pieces; r: the loop's slot -/
theorem swb_for {α : Type} {as : List α} {g0 : α → D} {wi : TI} {r : Nat} {tb : TS} {Wk : Nat → WP} (hr : r ≠ i) (hI : EvI K C wi δ (as.map g0)) (h0 : LeD δ' δ) (hW : ∀ {k : Nat} {O : Addr → Bool} {H0 H H' : Hp} {v : V}, Same H H' → Wk k O H0 H v → Wk k O H0 H' v)
    (hB : ∀ k a, as[k]? = some a → StWB K C tb (δ'.set r (some (g0 a))) δ' i (Wk k) (Wk (k + 1))) : StWB K C (tFor wi (gName r) tb) δ δ' i (Wk 0) (Wk as.length) := fun H0 O σ H s n1 hv Z q => hI O σ H n1 _ fun J H1 s1 w => by
  have m1 := n1.same s1
  have wl : (as.map g0).length = as.length := List.length_map _
  obtain ⟨v, hv, hw⟩ := hv
  refine ⟨fun k m σ2 H2 => m = as.length - k ∧ k ≤ as.length ∧ Same H0 H2 ∧ Same (hid O H1) (hid O H2) ∧ At K C O H2 σ2 δ' ∧ ∃ v, σ2[i]? = some (some v) ∧ Wk k O H0 H2 v, ⟨as.length, by omega, Nat.zero_le _, s.trans s1, Same.refl _, m1.weak h0, v, hv, hW s1 hw⟩, ?_⟩
  rintro k m σ2 H2 ⟨rfl, hk, s2, sh, n2, hv2⟩
  by_cases hlt : k < as.length
  · have hia : as[k]? = some as[k] := by simp [hlt]
    refine .inr ⟨w.go _ k H2 sh n2.own (by rw [wl]; exact hlt), fun σ3 H3 => k + 1 ≤ as.length ∧ Same H0 H3 ∧ Same (hid O H1) (hid O H3) ∧ At K C O H3 σ3 δ' ∧ ∃ v, σ3[i]? = some (some v) ∧ Wk (k + 1) O H0 H3 v, fun σ3 H3 hN => ⟨_, by omega, rfl, hN⟩, fun x H3 y => ?_⟩
    obtain ⟨s3, d3⟩ := w.yld _ k H2 x H3 (g0 as[k]) sh n2.own (by rw [List.getElem?_map, hia]; rfl) y
    have n3 := n2.same s3
    obtain ⟨v2, hv2, hw2⟩ := hv2
    refine hB k _ hia H0 O (σ2.set r (some x)) H3 (s2.trans s3) ⟨n3.own, n3.env.set r d3⟩ ⟨v2, by rw [List.getElem?_set_ne hr]; exact hv2, hW s3 hw2⟩ _ fun σ4 H4 s4 sh4 n4 hv4 => ?_
    exact ⟨hlt, s4, (sh.trans (same_hid s3)).trans sh4, n4, hv4⟩
  · have e : k = as.length := by omega
    subst e
    exact .inl ⟨by rw [← wl]; exact w.stop _ H2 sh n2.own, q σ2 H2 s2 ((same_hid s1).trans sh) n2 hv2⟩
theorem sw_if {b : Bool} (h : EvT K C t δ b) (hW : ∀ {O : Addr → Bool} {H0 H H' : Hp} {v : V}, Same H H' → W O H0 H v → W O H0 H' v) (h1 : b = true → StW K C E (tSeq ts ts') δ i W) (h2 : b = false → StW K C E ts' δ i W) : StW K C E (tSeq (tIfS t ts tNext) ts') δ i W := fun O0 H0 O σ H so o s n1 hv Z q => h O σ H n1 _ fun H1 s1 => by
  obtain ⟨v, hv, hw⟩ := hv
  have hv' : ∃ v, σ[i]? = some (some v) ∧ W O H0 H1 v := ⟨v, hv, hW s1 hw⟩
  cases b with
  | true => exact h1 rfl O0 H0 O σ H1 so o (s.trans s1) (n1.same s1) hv' Z q
  | false => exact h2 rfl O0 H0 O σ H1 so o (s.trans s1) (n1.same s1) hv' Z q
/-- x = x + [..] -/
theorem sw_cat (hi : i < δ.length) (hn : n + es.length ≤ 100000) (h : EvD K C te2 δ (.lst es)) (hp : ∀ d ∈ es, P d) (g : StW K C E ts (δ.set i none) i (WL K C P (n + es.length))) : StW K C E (tSeq (tAsg (tOp rCat (tVar i) te2) (gName i)) ts) δ i (WL K C P n) := fun O0 H0 O σ H so o s n1 hv Z q => by
  obtain ⟨v, hv, a, xs, ds, rfl, k1, k2, k3, k4, k5, k6⟩ := hv
  refine ⟨.ref a, hv, h O σ H n1 _ fun w H1 s1 d1 => ?_⟩
  obtain ⟨b, ys, rfl, m1, m2⟩ := dat_lst_iff.mp d1
  have hl : xs.length + ys.length ≤ n + es.length := by rw [m2.length]; omega
  refine ⟨a, b, xs, ys, rfl, rfl, s1 _ _ k3, hid_same _ _ m1, Nat.le_trans hl (Nat.le_trans hn (by decide)), fun l fr => ?_⟩
  have n2 : At K C (addO O l) (upd H1 l (.lst (xs ++ ys))) σ δ := (n1.same s1).add fr
  have sh : Same (hid O H1) (hid (addO O l) (upd H1 l (.lst (xs ++ ys)))) := (add_fresh fr).trans (same_hid (same_new fr))
  refine g O0 H0 (addO O l) _ _ (fun b hb => by unfold addO; rw [so b hb]; rfl) o ((s.trans s1).trans (same_new fr)) ⟨n2.own, n2.env.unset _ i⟩ ⟨.ref l, List.getElem?_set_self (by rw [n1.env.1]; exact hi), l, xs ++ ys, ds ++ es, rfl, by unfold addO; simp, back_none (s.trans s1) fr, upd_same, by rw [List.length_append]; exact hl, fun d hd => ?_, ((k6.same (same_hid s1)).append m2).same sh⟩ Z q
  exact (List.mem_append.mp hd).elim (k5 d) (hp d)
/-- the list is read again -/
theorem sw_back (ok : EndOk E) (g : ∀ ds : List D, (∀ d ∈ ds, P d) → ds.length ≤ n → StE K C E ts (δ.set i (some (.lst ds)))) : StW K C E ts δ i (WL K C P n) := fun O0 H0 O σ H so o s n1 hv Z q => by
  obtain ⟨v, hv, a, xs, ds, rfl, k1, k2, k3, k4, k5, k6⟩ := hv
  let O2 : Addr → Bool := fun b => O b && !decide (b = a)
  have s2 : SubO O2 O := fun b hb => (Bool.and_eq_true_iff.mp hb).1
  have s0 : SubO O0 O2 := fun b hb => by
    have ne : b ≠ a := fun z => by
      subst z
      exact o b hb k2
    show (O b && !decide (b = a)) = true
    rw [so b hb, decide_eq_false ne]
    rfl
  have o2 : OIn O2 H := ⟨fun b hb => n1.own b (s2 b hb), fun b u hb => n1.own.nt b u (s2 b hb)⟩
  have na : O2 a = false := by
    show (O a && !decide (a = a)) = false
    rw [decide_eq_true rfl, k1]
    rfl
  have da : Dat K C (hid O2 H) (.lst ds) (.ref a) := dat_lst_iff.mpr ⟨a, xs, rfl, by unfold hid; rw [na, if_neg Bool.false_ne_true]; exact k3, k6.same (hid_sub s2)⟩
  have env : EnvR K C (hid O2 H) σ (δ.set i none) := by
    have z := (n1.env.same (hid_sub s2)).unset (some (V.ref a)) i
    have e : σ.set i (some (V.ref a)) = σ := by
      apply List.ext_getElem?
      intro j
      rw [List.getElem?_set]
      split
      · rename_i e
        subst e
        split
        · exact hv.symm
        · rename_i q
          rw [List.getElem?_eq_none (by omega)]
      · rfl
    rwa [e] at z
  exact g ds k5 (by rw [← k6.length]; exact k4) O2 σ H ⟨o2, envR_set env hv da⟩ Z (ok _ _ _ _ _ s0 o s q)
/-- a list is made, then a draw comes, then no more -/
theorem sp_listDraw (hi : i < δ.length) (hi0 : i ≠ 0) (hj0 : j ≠ 0) (hij : i ≠ j) (ha : EvA K C tr δ es) (he : ∀ d ∈ es, P d) (hl : es.length ≤ n) (hn : n ≤ 100000) (hd : EvP K C te2 (δ.set i none) c R1)
    (g : ∀ d, R1 d → StW K C (EndR K C z) ts ((δ.set i none).set j (some d)) i (WL K C P n)) : StP K C (tSeq (tAsg (tLst tr) (gName i)) (tSeq (tAsg te2 (gName j)) ts)) δ c (fun d => d = z) := fun O σ H p m x hm Z q =>
  ha O σ H x.at_ _ fun vs H1 s1 d1 => ⟨by rw [d1.length]; exact Nat.le_trans hl (Nat.le_trans hn (by decide)), fun a fr => by
    have n1 := x.at_.same s1
    have n2 : At K C (addO O a) (upd H1 a (.lst vs)) σ δ := n1.add fr
    have pu := (x.purse.same s1).same (same_new (o := .lst vs) fr)
    have np : a ≠ p := fun z => by
      rw [z] at fr
      exact (x.purse.same s1).some fr
    have y : AtP K C (addO O a) (upd H1 a (.lst vs)) (σ.set i (some (.ref a))) (δ.set i none) p m := ⟨⟨n2.own, n2.env.unset _ i⟩, by unfold addO; rw [x.own]; rfl, pu, by rw [List.getElem?_set_ne hi0]; exact x.slot⟩
    refine hd (addO O a) _ _ p m y hm _ fun w H3 d b3 p3 r3 hd3 => ?_
    have y3 := y.but b3 p3
    have ha3 : H3 a = some (.lst vs) := b3 _ _ np upd_same
    let H0 : Hp := fun b => if b = a then none else H3 b
    have s0 : Same H0 H3 := fun b u e => by
      show H3 b = some u
      have e : (if b = a then none else H3 b) = some u := e
      split at e
      · cases e
      · exact e
    have h0a : H0 a = none := if_pos rfl
    have oO : OIn O H0 := by
      refine ⟨fun b hb e => ?_, fun b u hb e => ?_⟩
      · have ne : b ≠ a := fun z => by
          subst z
          exact n1.own b hb fr
        have e : (if b = a then none else H3 b) = none := e
        rw [if_neg ne] at e
        exact y3.at_.own b (by unfold addO; rw [hb]; rfl) e
      · have ne : b ≠ a := fun z => by
          subst z
          exact n1.own b hb fr
        have e : (if b = a then none else H3 b) = some u := e
        rw [if_neg ne] at e
        exact y3.at_.own.nt b u (by unfold addO; rw [hb]; rfl) e
    refine g d r3 O H0 (addO O a) ((σ.set i (some (.ref a))).set j (some w)) H3 (fun b hb => by unfold addO; rw [hb]; rfl) oO s0 ⟨y3.at_.own, y3.at_.env.set j hd3⟩ ⟨.ref a, by rw [List.getElem?_set_ne (fun q => hij q.symm), List.getElem?_set_self (by rw [x.at_.env.1]; exact hi)], a, vs, es, rfl, by unfold addO; simp, h0a, ha3, by rw [d1.length]; exact hl, he, ?_⟩ Z fun v H' s' dv => ?_
    · exact (d1.same (add_new fr)).same (but_hid b3 y.own)
    · have bb : But p H H' := fun b u hb e => by
        have e1 := s1 _ _ e
        have ne : b ≠ a := fun z => by
          subst z
          rw [fr] at e1
          cases e1
        have e3 := b3 b u hb (by rw [upd_ne ne]; exact e1)
        exact s' b u (by show (if b = a then none else H3 b) = some u; rw [if_neg ne]; exact e3)
      have pp : PurseIs (m + c) H' p := by
        obtain ⟨q1, q2, q3, q4, k1, k2⟩ := p3
        exact ⟨q1, q2, q3, q4, s' _ _ (by show (if p = a then none else H3 p) = _; rw [if_neg np.symm]; exact k1), k2⟩
      exact q v H' z bb pp rfl dv⟩
end
section
variable {X : Cx}
theorem e_revL {K : PySem.W.Frag} {e : Expr} {te : TE} {k : Nat} {p1 p2 p3 pos : Pos} (he : PE X e te) (hK : X.K = K := by rfl) : PE X (.Subscript e (.Slice none none (some (.UnaryOp .USub (.Constant (.int 1) k p1) p2)) p3) pos) (tRevL K te) := by
  subst hK
  exact pe_revL he
theorem o_own {P : Program} {w : World} {K : PySem.W.Frag} {mg : Str → Option Value} {base : Heap} {C : Addr} {k : Nat} {ps : List Str} {sp : Sp} (M : MethOk P w K mg base C "__eq__" k ps sp) (hr : Room k X.A) (h1 : X.prog = P := by rfl) (h2 : X.w = w := by rfl) (hK : X.K = K := by rfl) (h4 : X.mg = mg := by rfl) (h5 : X.base = base := by rfl) (pass : Passes CX0 X E0 := by exact pass0) :
    OpR X (compareOp .Eq) (rOwn K C sp E0 false) := by
  subst h1 h2 hK h4 h5
  exact op_own M hr pass
theorem o_ownNe {P : Program} {w : World} {K : PySem.W.Frag} {mg : Str → Option Value} {base : Heap} {C : Addr} {k : Nat} {ps : List Str} {sp : Sp} (M : MethOk P w K mg base C "__eq__" k ps sp) (hr : Room (k + 1) X.A) (ne : PySem.W.findIn K (.ref C) "__ne__" = some (some (.builtin "object.__ne__"))) (ob : PySem.W.mroIn K C (.type "object") = some true)
    (h1 : X.prog = P := by rfl) (h2 : X.w = w := by rfl) (hK : X.K = K := by rfl) (h4 : X.mg = mg := by rfl) (h5 : X.base = base := by rfl) (pass : Passes CX0 X E0 := by exact pass0) : OpR X (compareOp .NotEq) (rOwn K C sp E0 true) := by
  subst h1 h2 hK h4 h5
  exact op_ownNe M hr pass ne ob
end
section
variable {K : PySem.W.Frag} {C : Addr} {E : EndP} {ts : TS} {δ : Dl} {i : Nat} {te : TE} {W W' : WP} {ds : List D}
theorem Dats.rev {H : Hp} : ∀ {ds : List D} {xs : List V}, Dats K C H ds xs → Dats K C H ds.reverse xs.reverse
  | [], xs, h => by
    rw [dats_nil.mp h]
    exact .nil
  | d :: ds, xs, h => by
    obtain ⟨x, ys, rfl, h1, h2⟩ := dats_cons.mp h
    rw [List.reverse_cons, List.reverse_cons]
    exact (Dats.rev h2).append (.one h1)
theorem en_revL (h : EvD K C te δ (.lst ds)) : EvN K C (tRevL K te) δ (.lst ds.reverse) := fun O σ H n Q q => h O σ H n _ fun v H1 s1 d1 => by
  obtain ⟨a, xs, rfl, h1, h2⟩ := dat_lst_iff.mp d1
  exact ⟨a, xs, rfl, sqL_of h1, fun p hp => q p _ (s1.trans (same_new hp)) (back_none s1 hp) (new_lst (n.same s1).own hp h2.rev)⟩
theorem sw_mono (hW : ∀ {O : Addr → Bool} {H0 H : Hp} {v : V}, W O H0 H v → W' O H0 H v) (g : StW K C E ts δ i W') : StW K C E ts δ i W := fun O0 H0 O σ H so o s n hv Z q => by
  obtain ⟨v, hv, hw⟩ := hv
  exact g O0 H0 O σ H so o s n ⟨v, hv, hW hw⟩ Z q
end
end Zm


set_option Elab.async false
set_option linter.all false
set_option maxRecDepth 100000
set_option maxHeartbeats 4000000
set_option autoImplicit false
namespace Zm
open PySem PySem.Spec L2

/-! ### text that goes on and draws; the purse stands in slot j -/
structure AtJ (K : PySem.W.Frag) (C : Addr) (j : Nat) (O : Addr → Bool) (H : Hp) (σ : L2.St) (δ : Dl) (p : Addr) (n : Nat) : Prop where
  at_ : At K C O H σ δ
  own : O p = true
  purse : PurseIs n H p
  slot : σ[j]? = some (some (.ref p))
section
variable (K : PySem.W.Frag) (C : Addr) (j : Nat)
def EvJ (te : TE) (δ : Dl) (c : Nat) (R : D → Prop) : Prop := ∀ O σ H p n, AtJ K C j O H σ δ p n → n + c ≤ 1000000 → ∀ Q : VK, (∀ v H' d, But p H H' → PurseIs (n + c) H' p → R d → Dat K C (hid O H') d v → Q v H') → te σ H Q
def EvJT (tt : TT) (δ : Dl) (c : Nat) (b : Bool) : Prop := ∀ O σ H p n, AtJ K C j O H σ δ p n → n + c ≤ 1000000 → ∀ Q : Bool → Hp → Prop, (∀ H', But p H H' → PurseIs (n + c) H' p → Q b H') → tt σ H Q
def StJ (ts : TS) (δ δ' : Dl) (c : Nat) : Prop := ∀ O σ H p n, AtJ K C j O H σ δ p n → n + c ≤ 1000000 → ∀ Z : Ends, (∀ σ' H', But p H H' → AtJ K C j O H' σ' δ' p (n + c) → Z.nx σ' H') → ts Z σ H
end
section
variable {K : PySem.W.Frag} {C : Addr} {j i r c c1 c2 c3 n m : Nat} {O : Addr → Bool} {H H' : Hp} {σ : L2.St} {δ δ' δ2 : Dl} {p : Addr} {te ta tb : TE} {t u : TT} {ts ts' : TS} {tr : TA} {d : D} {ds : List D} {R R1 R2 : D → Prop} {b : Bool}
theorem AtJ.but (x : AtJ K C j O H σ δ p n) (s : But p H H') (h : PurseIs m H' p) : AtJ K C j O H' σ δ p m := ⟨⟨but_own x.at_.own s h, x.at_.env.same (but_hid s x.own)⟩, x.own, h, x.slot⟩
theorem AtJ.same (x : AtJ K C j O H σ δ p n) (s : Same H H') : AtJ K C j O H' σ δ p n := x.but (But.of s) (x.purse.same s)
theorem ej_call {pre : List D → Prop} {m : Nat} {R : List D → D → Prop} {E : XK} (ha : EvA K C tr δ ds) (hn : ds.length = m) (hp : pre ds) : EvJ K C j (tCall (SpP K C pre c R m) [] E (tCons (tVar j) tr)) δ c (R ds) := fun O σ H p n x hn2 Q q =>
  ⟨_, x.slot, ha O σ H x.at_ _ fun vs H1 s1 d1 => by
    show SpP K C pre c R m ((V.ref p :: vs) ++ []) H1 Q E
    rw [List.append_nil]
    exact ⟨by rw [List.length_cons, d1.length, hn], O, p, n, ds, vs, rfl, x.at_.own.same s1, x.own, x.purse.same s1, hn2, d1, hp, fun v H' d b pu r hd => q v H' d ((But.of s1).trans b) pu r hd⟩⟩
theorem ejt_of (h : EvT K C t δ b) : EvJT K C j t δ 0 b := fun O σ H p n x hn Q q => h O σ H x.at_ _ fun H' s => q H' (But.of s) (x.purse.same s)
theorem ejt_B (h : EvJ K C j te δ c (fun d => d = .bl b)) : EvJT K C j (tB te) δ c b := fun O σ H p n x hn Q q => h O σ H p n x hn _ fun v H' d s pu r hd => by
  subst r
  exact ⟨b, dat_bl.mp hd, q H' s pu⟩
theorem ejt_not (h : EvJT K C j t δ c b) : EvJT K C j (tNot t) δ c (!b) := fun O σ H p n x hn Q q => h O σ H p n x hn _ fun H' s pu => q H' s pu
theorem ejt_or (h1 : EvJT K C j t δ c1 false) (h2 : EvJT K C j u δ c2 b) : EvJT K C j (tOr t u) δ (c1 + c2) b := fun O σ H p n x hn Q q => h1 O σ H p n x (by omega) _ fun H' s pu => by
  have e : n + c1 + c2 = n + (c1 + c2) := by omega
  exact h2 O σ H' p _ (x.but s pu) (by omega) Q fun H2 s2 p2 => q H2 (s.trans s2) (by rw [← e]; exact p2)
theorem sj_seq (h : StJ K C j ts δ δ' c1) (g : StJ K C j ts' δ' δ2 c2) : StJ K C j (tSeq ts ts') δ δ2 (c1 + c2) := fun O σ H p n x hn Z q => h O σ H p n x (by omega) { Z with nx := ts' Z } fun σ' H' s x' => by
  have e : n + c1 + c2 = n + (c1 + c2) := by omega
  exact g O σ' H' p _ x' (by omega) Z fun σ2 H2 s2 x2 => q σ2 H2 (s.trans s2) (by rw [← e]; exact x2)
theorem sj_set (hi : i ≠ j) (h : EvD K C te δ d) : StJ K C j (tAsg te (gName i)) δ (δ.set i (some d)) 0 := fun O σ H p n x hn Z q => h O σ H x.at_ _ fun v H' s hd => by
  have y := x.same s
  exact q _ H' (But.of s) ⟨⟨y.at_.own, y.at_.env.set i hd⟩, y.own, y.purse, by rw [List.getElem?_set_ne hi]; exact y.slot⟩
theorem sj_skip (h : EvJT K C j t δ c false) : StJ K C j (tIfS t ts tNext) δ δ c := fun O σ H p n x hn Z q => h O σ H p n x hn _ fun H' s pu => q σ H' s (x.but s pu)
theorem sj_le (h : StJ K C j ts δ δ2 c1) (l : LeD δ' δ2) (hc : c1 ≤ c) : StJ K C j ts δ δ' c := fun O σ H p n x hn Z q => h O σ H p n x (by omega) Z fun σ' H' s y => q σ' H' s ⟨y.at_.weak l, y.own, y.purse.mono (by omega), y.slot⟩
/-- two drawn things in a new list -/
theorem sj_two (hi : i ≠ j) (ha : EvJ K C j ta δ c1 R1) (hb : EvJ K C j tb δ c2 R2) (g : ∀ d e, R1 d → R2 e → StJ K C j ts' (δ.set i (some (.lst [d, e]))) δ' c3) : StJ K C j (tSeq (tAsg (tLst (tCons ta (tCons tb tNil))) (gName i)) ts') δ δ' (c1 + c2 + c3) := fun O σ H p n x hn Z q =>
  ha O σ H p n x (by omega) _ fun v H1 d1 s1 p1 r1 hd1 => hb O σ H1 p _ (x.but s1 p1) (by omega) _ fun w H2 d2 s2 p2 r2 hd2 => by
    refine ⟨by show 2 ≤ sizeLine; decide, fun a fr => ?_⟩
    have x2 := (x.but s1 p1).but s2 p2
    have s3 := same_new (o := HO.lst [v, w]) fr
    have x3 := x2.same s3
    have da : Dat K C (hid O (upd H2 a (.lst [v, w]))) (.lst [d1, d2]) (.ref a) := new_lst x2.at_.own fr (.cons (hd1.same (but_hid s2 x.own)) (.one hd2))
    have e : n + c1 + c2 + c3 = n + (c1 + c2 + c3) := by omega
    exact g d1 d2 r1 r2 O _ _ p _ ⟨⟨x3.at_.own, x3.at_.env.set i da⟩, x3.own, x3.purse, by rw [List.getElem?_set_ne hi]; exact x3.slot⟩ (by omega) Z fun σ' H' s' y => q σ' H' ((s1.trans s2).trans ((But.of s3).trans s')) (by rw [← e]; exact y)
theorem sj_for {α : Type} {as : List α} {g0 : α → D} {wi : TI} {tb : TS} (hr : r ≠ j) (hI : EvI K C wi δ (as.map g0)) (h0 : LeD δ' δ) (hB : ∀ a ∈ as, StJ K C j tb (δ'.set r (some (g0 a))) δ' c) : StJ K C j (tFor wi (gName r) tb) δ δ' (as.length * c) := fun O σ H p n x hn Z q => hI O σ H x.at_ _ fun J H1 s1 w => by
  have x1 := x.same s1
  have wl : (as.map g0).length = as.length := List.length_map _
  refine ⟨fun k m σ2 H2 => m = as.length - k ∧ k ≤ as.length ∧ But p H1 H2 ∧ AtJ K C j O H2 σ2 δ' p (n + k * c), ⟨as.length, by omega, Nat.zero_le _, But.refl p H1, by rw [Nat.zero_mul]; exact ⟨x1.at_.weak h0, x1.own, x1.purse, x1.slot⟩⟩, ?_⟩
  rintro k m σ2 H2 ⟨rfl, hk, s2, x2⟩
  by_cases hlt : k < as.length
  · have hia : as[k]? = some as[k] := by simp [hlt]
    have hb : (k + 1) * c ≤ as.length * c := Nat.mul_le_mul_right _ hlt
    have hb2 : (k + 1) * c = k * c + c := Nat.succ_mul _ _
    refine .inr ⟨w.go _ k H2 (but_hid s2 x.own) x2.at_.own (by rw [wl]; exact hlt), fun σ3 H3 => k + 1 ≤ as.length ∧ But p H1 H3 ∧ AtJ K C j O H3 σ3 δ' p (n + (k + 1) * c), fun σ3 H3 hN => ⟨_, by omega, rfl, hN⟩, fun y H3 hy => ?_⟩
    obtain ⟨s3, d3⟩ := w.yld _ k H2 y H3 (g0 as[k]) (but_hid s2 x.own) x2.at_.own (by rw [List.getElem?_map, hia]; rfl) hy
    have x3 := x2.same s3
    refine hB as[k] (List.getElem_mem hlt) O (σ2.set r (some y)) H3 p _ ⟨⟨x3.at_.own, x3.at_.env.set r d3⟩, x3.own, x3.purse, by rw [List.getElem?_set_ne hr]; exact x3.slot⟩ (by omega) _ fun σ4 H4 s4 x4 => ?_
    have e : n + k * c + c = n + (k + 1) * c := by omega
    exact ⟨hlt, (s2.trans (But.of s3)).trans s4, by rw [← e]; exact x4⟩
  · have e : k = as.length := by omega
    subst e
    exact .inl ⟨by rw [← wl]; exact w.stop _ H2 (but_hid s2 x.own) x2.at_.own, q σ2 H2 ((But.of s1).trans s2) x2⟩
end
end Zm


set_option Elab.async false
set_option linter.all false
set_option maxRecDepth 100000
set_option maxHeartbeats 4000000
set_option autoImplicit false
namespace Zm
open PySem PySem.Spec L2
/-! ### unpacking of a list; len(set(..)); inserting -/
theorem g_lstT {X : Cx} {pos : Pos} {K : PySem.W.Frag} {es : List Expr} {k n : Nat} {t : TGs} (h : PGs X es t) (hc : X.calm = true := by rfl) (hn : (assignEach es X.env).length = n := by rfl) (hst : (assignEach es X.env).findIdx? (·.1) = none := by rfl) (hK : X.K = K := by rfl) : PG X (.Tuple es k pos) (gLst K n t) := by
  subst hK
  exact pg_lst hc h hn hst
section
variable {K : PySem.W.Frag} {C : Addr} {δ : Dl} {te : TE} {d e : D} {ns : List Int}
theorem ega_lst2 {i j : Nat} : EvGa K C (gLst K 2 (gCons (gName i) (gCons (gName j) gNil))) δ (.lst [d, e]) ((δ.set i (some d)).set j (some e)) := fun O σ H v n hd Q q => by
  obtain ⟨a, xs, rfl, h1, h3⟩ := dat_lst_iff.mp hd
  obtain ⟨x, y, rfl, h4, h5⟩ := dats_two.mp h3
  exact ⟨a, [x, y], rfl, sqL_of h1, rfl, x, [y], rfl, y, [], rfl, rfl, q _ ⟨n.own, (n.env.set i h4).set j h5⟩⟩
theorem sx_asg {g : TG} {δ' : Dl} (h : EvD K C te δ d) (hg : EvGa K C g δ d δ') : StX K C (tAsg te g) δ δ' := fun O σ H n Z q => h O σ H n _ fun v H' s hd => hg O σ H' v (n.same s) hd _ fun σ' n' => q σ' H' s n'
theorem ev_lenSet (h : EvD K C te δ (.lst (dI ns))) (nd : ns.Nodup) (hl : ns.length ≤ 4000) : EvD K C (RZ.tLenSetI K te) δ (.int ns.length) := fun O σ H n Q q => h O σ H n _ fun v H' s hd => by
  obtain ⟨a, xs, rfl, h1, h2⟩ := dat_lst_iff.mp hd
  rw [dats_ints.mp h2] at h1
  exact ⟨a, ns, rfl, sqL_of h1, nd, hl, q _ H' s (dat_int.mpr rfl)⟩
end
/-- an order of n blocks -/
def OrdOk (n : Nat) (o : List Int) : Prop := o.length = n ∧ o.Nodup ∧ ∀ x ∈ o, 0 ≤ x ∧ x < n
/-- what xs.insert(i, y) does -/
def rIns : V → List V → Hp → VK → Prop := fun x vs H Q => ∃ (l : Addr) (xs : List V) (i : Int) (y : V), x = .ref l ∧ vs = [.int i, y] ∧ H l = some (.lst xs) ∧ xs.length < sizeLine ∧ 0 ≤ i ∧ i < 2 ^ 63 ∧
    Q .non (upd H l (.lst (xs.take i.toNat ++ [y] ++ xs.drop i.toNat)))
theorem mt_insert' {X : Cx} : MtR X "list.insert" rIns := mt_insert
/-- for item in some: found.insert(draw(purse, len(found) + 1), item) .. return found; purse, some, found, item: slots 0 to 3 -/
theorem sp_shuffle {K : PySem.W.Frag} {C : Addr} {E : XK} {ns : List Int} {N : Nat} (hN : ns.length ≤ N) (hN2 : N ≤ 1000) :
    StP K C (tSeq (tAsg (tLst tNil) (gName 2)) (tSeq (tFor (iList K (tVar 1)) (gName 3) (tDrop (tBM K "list" rIns (tVar 2) (tCons (tCall spDraw [] E (tCons (tVar 0) (tCons (tOp (rI0 fun i j => .int (i + j)) (tCB (fun xs H Q => ∃ p ys, xs = [V.ref p] ∧ (SqL K H p ys ∨ SqT K H p ys) ∧ Q (.int ys.length) H) (tCons (tVar 2) tNil)) (tC (.int 1))) tNil))) (tCons (tVar 3) tNil))))) (tRet (tVar 2))))
      [none, some (.lst (dI ns)), none, none] N (fun d => ∃ o : List Int, d = .lst (dI o) ∧ o.Perm ns) := by
  intro O σ H p n x hn Z q
  obtain ⟨v1, hv1, hd1⟩ := x.at_.env.2 1 _ rfl
  obtain ⟨a, xs, rfl, ha, hxs⟩ := dat_lst_iff.mp hd1
  rw [dats_ints.mp hxs] at ha
  have hl : σ.length = 4 := x.at_.env.1
  refine ⟨by show 0 ≤ sizeLine; decide, fun l fr => ?_⟩
  have lp : l ≠ p := fun z => by
    rw [z] at fr
    exact x.purse.some fr
  have ha' := hid_same _ _ ha
  have al : a ≠ l := ne_of_none ha' fr
  have ap : a ≠ p := fun z => by
    rw [z] at ha
    unfold hid at ha
    rw [if_pos x.own] at ha
    cases ha
  refine ⟨.ref a, by rw [List.getElem?_set_ne (by decide)]; exact hv1, a, rfl, ⟨_, SqL.of (by rw [upd_ne al]; exact ha')⟩, ?_⟩
  refine ⟨fun k m σ' H' => m = ns.length - k ∧ k ≤ ns.length ∧ But p H H' ∧ PurseIs (n + k) H' p ∧ σ'.length = 4 ∧ σ'[0]? = some (some (.ref p)) ∧ σ'[2]? = some (some (.ref l)) ∧ ∃ acc : List Int, H' l = some (.lst (acc.map V.int)) ∧ acc.Perm (ns.take k),
    ⟨ns.length, by omega, Nat.zero_le _, But.of (same_new fr), x.purse.same (same_new fr), by rw [List.length_set, hl], by rw [List.getElem?_set_ne (by decide)]; exact x.slot, List.getElem?_set_self (by rw [hl]; decide), [], upd_same, by rw [List.take_zero]⟩, ?_⟩
  rintro k m σ' H' ⟨rfl, hk, b', pu, hl', s0, s2, acc, hacc, perm⟩
  have ha2 : H' a = some (.lst (ns.map V.int)) := b' a _ ap ha'
  have lacc : acc.length = k := by rw [perm.length_eq, List.length_take, Nat.min_eq_left hk]
  by_cases hlt : k < ns.length
  · have hx : (ns.map V.int)[k]? = some (.int ns[k]) := by rw [List.getElem?_map, List.getElem?_eq_getElem hlt]; rfl
    refine .inr ⟨⟨_, .int ns[k], .inl (.inl ha2), hx⟩, fun σ2 H2 => k + 1 ≤ ns.length ∧ But p H H2 ∧ PurseIs (n + (k + 1)) H2 p ∧ σ2.length = 4 ∧ σ2[0]? = some (some (.ref p)) ∧ σ2[2]? = some (some (.ref l)) ∧ ∃ acc : List Int, H2 l = some (.lst (acc.map V.int)) ∧ acc.Perm (ns.take (k + 1)),
      fun σ2 H2 hN => ⟨_, by omega, rfl, hN⟩, fun y H2 hy => ?_⟩
    obtain ⟨rfl, hy⟩ := hy
    have ey := hy _ (.inl (.inl ha2))
    rw [hx] at ey
    cases ey
    have t0 : (σ'.set 3 (some (V.int ns[k])))[0]? = some (some (.ref p)) := by rw [List.getElem?_set_ne (by decide)]; exact s0
    have t2 : (σ'.set 3 (some (V.int ns[k])))[2]? = some (some (.ref l)) := by rw [List.getElem?_set_ne (by decide)]; exact s2
    have t3 : (σ'.set 3 (some (V.int ns[k])))[3]? = some (some (.int ns[k])) := List.getElem?_set_self (by rw [hl']; decide)
    refine ⟨.ref l, t2, .inl ⟨rfl, _, .inl (.inl hacc)⟩, .ref p, t0, .ref l, t2, l, acc.map V.int, rfl, .inl (SqL.of hacc), _, _, rfl, rfl, ?_⟩
    rw [List.length_map, lacc]
    refine ⟨p, n + k, (k : Int) + 1, rfl, pu, by omega, by omega, by omega, fun i H3 i0 i1 b3 pu3 => ⟨.int ns[k], t3, l, acc.map V.int, i, .int ns[k], rfl, rfl, b3 _ _ lp hacc, ?_, i0, by omega, hlt, ?_, ?_, by rw [List.length_set, hl'], t0, t2, acc.take i.toNat ++ [ns[k]] ++ acc.drop i.toNat, ?_, ?_⟩⟩
    · rw [List.length_map, lacc]
      exact Nat.lt_of_lt_of_le (by omega : k < 1000) (by decide)
    · exact fun c u nc e => by rw [upd_ne (ne_of_none e fr)]; exact b3 c u nc (b' c u nc e)
    · exact pu3.upd lp
    · rw [upd_same]
      simp only [List.map_append, List.map_take, List.map_drop, List.map_cons, List.map_nil]
    · have e1 : (acc.take i.toNat ++ [ns[k]] ++ acc.drop i.toNat).Perm (ns[k] :: acc) := by
        rw [List.append_assoc]
        have z : (acc.take i.toNat ++ ns[k] :: acc.drop i.toNat).Perm (ns[k] :: (acc.take i.toNat ++ acc.drop i.toNat)) := List.perm_middle
        rw [List.take_append_drop] at z
        exact z
      rw [List.take_succ_eq_append_getElem hlt]
      exact e1.trans ((perm.cons _).trans (List.perm_append_comm (l₁ := [ns[k]]) (l₂ := ns.take k)))
  · have e : k = ns.length := by omega
    subst e
    refine .inl ⟨⟨_, SqL.of ha2, by rw [List.length_map]; exact Nat.le_refl _⟩, .ref l, s2, ?_⟩
    rw [List.take_length] at perm
    refine q (.ref l) H' (.lst (dI acc)) b' (pu.mono (by omega)) ⟨acc, rfl, perm⟩ (dat_lst_iff.mpr ⟨l, _, rfl, ?_, dats_ints.mpr rfl⟩)
    unfold hid
    rw [if_neg (fun z => x.at_.own l z fr)]
    exact hacc
end Zm


set_option Elab.async false
set_option linter.all false
set_option maxRecDepth 100000
set_option maxHeartbeats 4000000
set_option autoImplicit false
namespace Zm
open PySem PySem.Spec L2
/-! ### more statements that draw -/
section
variable {K : PySem.W.Frag} {C : Addr} {δ δ' : Dl} {ta tb te : TE} {tr ta2 : TA} {R R1 R2 : D → Prop} {c c1 c2 : Nat} {ts ts' ts2 : TS} {tt : TT}
theorem sp_par2 {i j : Nat} (hi : i ≠ 0) (hj : j ≠ 0) (h : EvPA K C ta2 δ c1 (fun ds => ∃ a b, ds = [a, b] ∧ R1 a ∧ R2 b)) (g : ∀ a b, R1 a → R2 b → StP K C ts ((δ.set i (some a)).set j (some b)) c2 R) :
    StP K C (tSeq (tPar i j ta2) ts) δ (c1 + c2) R := fun O σ H p n x hn Z q => h O σ H p n x (by omega) _ fun vs H' ds s pu r hd => by
  obtain ⟨a, b, rfl, r1, r2⟩ := r
  obtain ⟨v, w, rfl, h1, h2⟩ := dats_two.mp hd
  have x1 := x.but s pu
  have e : n + c1 + c2 = n + (c1 + c2) := by omega
  refine ⟨v, w, rfl, g a b r1 r2 O _ H' p _ ⟨⟨x1.at_.own, (x1.at_.env.set i h1).set j h2⟩, x1.own, x1.purse, ?_⟩ (by omega) Z fun v2 H2 d2 s2 p2 r2 hd2 => q v2 H2 d2 (s.trans s2) (by rw [← e]; exact p2) r2 hd2⟩
  rw [List.getElem?_set_ne hj, List.getElem?_set_ne hi]
  exact x1.slot
/-- if b: ..; rest -/
theorem sp_if2 {b : Bool} (h : EvT K C tt δ b) (h1 : b = true → StP K C (tSeq ts ts') δ c R) (h2 : b = false → StP K C ts' δ c R) : StP K C (tSeq (tIfS tt ts tNext) ts') δ c R := fun O σ H p n x hn Z q => h O σ H x.at_ _ fun H' s => by
  have x' := x.but (But.of s) (x.purse.same s)
  cases b with
  | true => exact h1 rfl O σ H' p _ x' hn Z fun v H2 d s2 p2 r hd => q v H2 d ((But.of s).trans s2) p2 r hd
  | false => exact h2 rfl O σ H' p _ x' hn Z fun v H2 d s2 p2 r hd => q v H2 d ((But.of s).trans s2) p2 r hd
theorem sp_assoc (h : StP K C (tSeq ts (tSeq ts' ts2)) δ c R) : StP K C (tSeq (tSeq ts ts') ts2) δ c R := h
theorem sp_weak (h : StP K C ts δ' c R) (l : LeD δ' δ) : StP K C ts δ c R := fun O σ H p n x hn Z q => h O σ H p n ⟨x.at_.weak l, x.own, x.purse, x.slot⟩ hn Z q
/-- .. what follows is shown once -/
theorem sp_if2T {δt : Dl} {b : Bool} (l : LeD δt δ) (hc : c2 ≤ c) (h : EvT K C tt δ b) (tail : StP K C ts' δt c2 R) (h1 : b = true → StP K C ts' δt c2 R → StP K C (tSeq ts ts') δ c R) : StP K C (tSeq (tIfS tt ts tNext) ts') δ c R :=
  sp_if2 h (fun e => h1 e tail) (fun _ => sp_imp (sp_weak tail l) (fun d h => h) hc)
end
section
variable {K : PySem.W.Frag} {C : Addr} {j i r c c1 c2 c3 n m : Nat} {O : Addr → Bool} {H H' : Hp} {σ : L2.St} {δ δ' δ2 : Dl} {p : Addr} {te ta tb : TE} {t u : TT} {ts ts' : TS} {tr : TA} {d : D} {ds : List D} {R R1 R2 : D → Prop} {b : Bool}
theorem sj_setJ (hi : i ≠ j) (h : EvJ K C j te δ c1 R) (g : ∀ d, R d → StJ K C j ts' (δ.set i (some d)) δ' c2) : StJ K C j (tSeq (tAsg te (gName i)) ts') δ δ' (c1 + c2) := fun O σ H p n x hn Z q => h O σ H p n x (by omega) _ fun v H1 d s1 p1 r1 hd => by
  have x1 := x.but s1 p1
  have e : n + c1 + c2 = n + (c1 + c2) := by omega
  exact g d r1 O _ H1 p _ ⟨⟨x1.at_.own, x1.at_.env.set i hd⟩, x1.own, x1.purse, by rw [List.getElem?_set_ne hi]; exact x1.slot⟩ (by omega) Z fun σ' H' s' y => q σ' H' (s1.trans s') (by rw [← e]; exact y)
theorem ej_imp (h : EvJ K C j te δ c R) (g : ∀ d, R d → R1 d) (hc : c ≤ c1) : EvJ K C j te δ c1 R1 := fun O σ H p n x hn Q q => h O σ H p n x (by omega) Q fun v H' d s pu r hd => q v H' d s (pu.mono (by omega)) (g d r) hd
/-- a wholly new thing made of a drawn one -/
theorem ej_callF {pre : List D → Prop} {f : List D → D} {E : XK} (h : EvJ K C j te δ c R1) (hp : ∀ d, R1 d → pre [d]) : EvJ K C j (tCall (SpF K C pre f 1) [] E (tCons te tNil)) δ c (fun z => ∃ d, R1 d ∧ z = f [d]) := fun O σ H p n x hn Q q => h O σ H p n x hn _ fun v H1 d s1 p1 r1 hd => by
  show SpF K C pre f 1 ([v] ++ []) H1 Q E
  have o1 := but_own x.at_.own s1 p1
  exact ⟨rfl, O, [d], o1, .one hd, hp d r1, fun w H2 s2 d2 => q w H2 (f [d]) (s1.trans (But.of s2)) (p1.same s2) ⟨d, r1, rfl⟩ (d2.same (dom_own o1))⟩
/-- a comprehension over range(n) whose elements draw -/
theorem ej_lc {Re : D → Prop} {N : Nat} {k : Int} {vs : List Nat} (hk : k = (N : Int)) (h : EvD K C ta δ (.int k)) (h0 : j ∉ vs) (hi : i ∈ vs) (hN2 : N ≤ 1000)
    (hE : ∀ a : Nat, a < N → EvJ K C j te ((wipeD δ vs).set i (some (.int (0 + (a : Int))))) c Re) : EvJ K C j (tLc (iRng1 (tCons ta tNil)) (gName i) tYes te vs) δ (N * c) (fun d => ∃ ds, d = .lst ds ∧ ds.length = N ∧ ∀ e ∈ ds, Re e) := fun O σ H p n x hn Q q => by
  subst hk
  refine ei_rng1 (ea_cons h ea_nil) (by omega) (by omega) O σ H x.at_ _ fun J H1 s1 w Da hD => ?_
  have x1 := x.same s1
  have np : Da ≠ p := fun z => by rw [z] at hD; exact x1.purse.some hD
  have wl : (rngD 0 (N : Int).toNat).length = N := by unfold rngD; rw [List.length_map, List.length_range]; omega
  have key : ∀ H2, But p H1 H2 → Same (hid O H1) (hid (addO O Da) H2) := fun H2 s => (add_fresh hD).trans (but_hid s (by unfold addO; rw [x.own]; rfl))
  have opx : addO O Da p = true := by unfold addO; rw [x.own]; rfl
  refine ⟨fun i m H2 => m = N - i ∧ i ≤ N ∧ But p H1 H2 ∧ PurseIs (n + i * c) H2 p ∧ ∃ acc ds, H2 Da = some (.lst acc) ∧ ds.length = i ∧ (∀ e ∈ ds, Re e) ∧ Dats K C (hid (addO O Da) H2) ds acc,
    ⟨N, by omega, Nat.zero_le _, But.of (same_new hD), by rw [Nat.zero_mul]; exact x1.purse.same (same_new hD), [], [], upd_same, rfl, fun e h => (by cases h), .nil⟩, ?_⟩
  rintro a m H2 ⟨rfl, hi2, s2, p2, acc, ds, ha, hln, hall, hacc⟩
  have o2 : OIn (addO O Da) H2 := (but_own x1.at_.own s2 p2).add ⟨_, ha, trivial⟩
  by_cases hlt : a < N
  · have hia : (rngD 0 (N : Int).toNat)[a]? = some (.int (0 + (a : Int))) := by
      unfold rngD
      rw [List.getElem?_map, List.getElem?_range (by omega)]
      rfl
    have hb : (a + 1) * c ≤ N * c := Nat.mul_le_mul_right _ (by omega)
    have hb2 : (a + 1) * c = a * c + c := Nat.succ_mul _ _
    refine .inr ⟨w.go _ a H2 (key H2 s2) o2 (by rw [wl]; exact hlt), fun H3 => a + 1 ≤ N ∧ But p H1 H3 ∧ PurseIs (n + (a + 1) * c) H3 p ∧ ∃ acc ds, H3 Da = some (.lst acc) ∧ ds.length = a + 1 ∧ (∀ e ∈ ds, Re e) ∧ Dats K C (hid (addO O Da) H3) ds acc,
      fun H' hN => ⟨_, by omega, rfl, hN⟩, fun y H3 hy => ?_⟩
    obtain ⟨s3, d3⟩ := w.yld _ a H2 y H3 _ (key H2 s2) o2 hia hy
    have s13 := s2.trans (But.of s3)
    have n3 : At K C (addO O Da) H3 (L2.wipe σ vs) (wipeD δ vs) := ⟨o2.same s3, (x1.at_.env.same (key H3 s13)).wipe vs⟩
    refine eg_name hi _ _ _ _ n3 d3 _ fun σ4 hw n4 => ⟨by rw [hw, wipe_wipe], ?_⟩
    have slot4 : σ4[j]? = some (some (.ref p)) := by
      have e1 := congrArg (fun s : L2.St => s[j]?) hw
      simp only [wipe_get] at e1
      rw [if_neg (fun q => h0 q.1), if_neg (fun q => h0 q.1), if_neg (fun q => h0 q.1)] at e1
      rw [e1]
      exact x.slot
    have x4 : AtJ K C j (addO O Da) H3 σ4 _ p (n + a * c) := ⟨n4, opx, p2.same s3, slot4⟩
    unfold tYes
    refine iteT (hE a hlt _ _ _ _ _ x4 (by omega) _ fun v H6 d6 s6 p6 r6 hd6 => ?_)
    have s26 : But p H2 H6 := (But.of s3).trans s6
    refine ⟨acc, s26 _ _ np ha, Nat.lt_of_le_of_lt (by rw [hacc.length, hln]; omega : acc.length ≤ 1000) (by decide), hlt, fun b u nb eb => ?_, (p6.mono (by omega)).upd np, _, ds ++ [d6], upd_same, by rw [List.length_append, hln]; rfl, fun e he => ?_, ?_⟩
    · rw [upd_ne (ne_of_none eb hD)]
      exact s2.trans s26 b u nb eb
    · rcases List.mem_append.mp he with he | he
      · exact hall e he
      · rw [List.mem_singleton.mp he]
        exact r6
    · rw [add_upd]
      exact (hacc.same (but_hid s26 opx)).append (.one hd6)
  · have e : a = N := by omega
    subst e
    refine .inl ⟨by rw [← wl]; exact w.stop _ H2 (key H2 s2) o2, ?_⟩
    refine q _ _ (.lst ds) ((But.of s1).trans s2) p2 ⟨ds, rfl, hln, hall⟩ (dat_lst_iff.mpr ⟨Da, acc, rfl, ?_, hacc.same add_le⟩)
    unfold hid
    rw [if_neg (fun z => x1.at_.own Da z hD)]
    exact ha
/-- a loop whose target is of the slots vs -/
theorem sj_forG {α : Type} {as : List α} {g0 : α → D} {δi : α → Dl} {wi : TI} {g : TG} {tb : TS} {vs : List Nat} (hr : j ∉ vs) (hI : EvI K C wi δ (as.map g0)) (h0 : LeD δ' δ) (hG : ∀ a ∈ as, EvG K C g vs δ' (g0 a) (δi a)) (hB : ∀ a ∈ as, StJ K C j tb (δi a) δ' c) : StJ K C j (tFor wi g tb) δ δ' (as.length * c) := fun O σ H p n x hn Z q => hI O σ H x.at_ _ fun J H1 s1 w => by
  have x1 := x.same s1
  have wl : (as.map g0).length = as.length := List.length_map _
  refine ⟨fun k m σ2 H2 => m = as.length - k ∧ k ≤ as.length ∧ But p H1 H2 ∧ AtJ K C j O H2 σ2 δ' p (n + k * c), ⟨as.length, by omega, Nat.zero_le _, But.refl p H1, by rw [Nat.zero_mul]; exact ⟨x1.at_.weak h0, x1.own, x1.purse, x1.slot⟩⟩, ?_⟩
  rintro k m σ2 H2 ⟨rfl, hk, s2, x2⟩
  by_cases hlt : k < as.length
  · have hia : as[k]? = some as[k] := by simp [hlt]
    have hmem : as[k] ∈ as := List.getElem_mem hlt
    have hb : (k + 1) * c ≤ as.length * c := Nat.mul_le_mul_right _ hlt
    have hb2 : (k + 1) * c = k * c + c := Nat.succ_mul _ _
    refine .inr ⟨w.go _ k H2 (but_hid s2 x.own) x2.at_.own (by rw [wl]; exact hlt), fun σ3 H3 => k + 1 ≤ as.length ∧ But p H1 H3 ∧ AtJ K C j O H3 σ3 δ' p (n + (k + 1) * c), fun σ3 H3 hN => ⟨_, by omega, rfl, hN⟩, fun y H3 hy => ?_⟩
    obtain ⟨s3, d3⟩ := w.yld _ k H2 y H3 (g0 as[k]) (but_hid s2 x.own) x2.at_.own (by rw [List.getElem?_map, hia]; rfl) hy
    have x3 := x2.same s3
    refine hG _ hmem _ _ _ _ x3.at_ d3 _ fun σ4 hw n4 => ?_
    have slot4 : σ4[j]? = some (some (.ref p)) := by
      have e1 := congrArg (fun s : L2.St => s[j]?) hw
      simp only [wipe_get] at e1
      rw [if_neg (fun q => hr q.1), if_neg (fun q => hr q.1)] at e1
      rw [e1]
      exact x2.slot
    refine hB as[k] hmem O σ4 H3 p _ ⟨n4, x3.own, x3.purse, slot4⟩ (by omega) _ fun σ5 H5 s5 x5 => ?_
    have e : n + k * c + c = n + (k + 1) * c := by omega
    exact ⟨hlt, (s2.trans (But.of s3)).trans s5, by rw [← e]; exact x5⟩
  · have e : k = as.length := by omega
    subst e
    exact .inl ⟨by rw [← wl]; exact w.stop _ H2 (but_hid s2 x.own) x2.at_.own, q σ2 H2 ((But.of s1).trans s2) x2⟩
end
end Zm


set_option Elab.async false
set_option linter.all false
set_option maxRecDepth 100000
set_option maxHeartbeats 4000000
set_option autoImplicit false
namespace Zm
open PySem PySem.Spec L2
/-! ### sorted(xs), xs a list of alike data -/
def rSortedD (K : PySem.W.Frag) : List V → Hp → VK → Prop := fun vs H Q => ∃ (a : Addr) (bs : List (V × PyData)), vs = [V.ref a] ∧ SqL K H a (bs.map (·.1)) ∧ (∀ b ∈ bs, Dp K H b.1 b.2) ∧ PySem.W.AllAlike (bs.map (·.2)) ∧ PySem.W.Sortable (bs.map (·.2)) ∧ bs.length ≤ 100000 ∧ (∀ b ∈ bs, b.2.depth ≤ 60) ∧
  ∀ p, H p = none → Q (.ref p) (upd H p (.lst ((bs.mergeSort (PySem.W.dataLe false (·.2))).map (·.1))))
theorem each_vals : ∀ {us : List Value} {bs : List (V × PyData)}, PySem.W.EachIs (fun u b => RelV b.1 u) us bs → Vals (bs.map (·.1)) us
  | _, _, .nil => .nil
  | _, _, .cons h t => .cons h (each_vals t)
theorem vals_each : ∀ {us : List Value} {bs : List (V × PyData)}, Vals (bs.map (·.1)) us → PySem.W.EachIs (fun u b => RelV b.1 u) us bs
  | us, [], h => by
    cases h
    exact .nil
  | us, b :: bs, h => by
    cases h with
    | cons r t => exact .cons r (vals_each t)
theorem cr_sortedD {X : Cx} (hu : X.A.units + 64 < cLine) : CallR X (.builtin "sorted") (rSortedD X.K) := by
  intro pins s σ H vs us Q I r h
  obtain ⟨a, bs, rfl, hs, hd, hal, hso, hl, hdp, q⟩ := h
  obtain ⟨its, rv, pl, hz⟩ := I.list hs
  obtain ⟨u, rfl, ru⟩ := vals1 r
  obtain rfl : u = Value.ref a := ru
  have e := vals_each rv
  have er : PySem.W.EachIs (fun v b => ∃ as, PySem.Reads s.heap v ((fun b : V × PyData => b.2) b) as) its bs := by
    have key : ∀ {us : List Value} {cs : List (V × PyData)}, (∀ b ∈ cs, Dp X.K H b.1 b.2) → PySem.W.EachIs (fun u b => RelV b.1 u) us cs → PySem.W.EachIs (fun v b => ∃ as, PySem.Reads s.heap v ((fun b : V × PyData => b.2) b) as) us cs := by
      intro us cs hc ec
      induction ec with
      | nil => exact .nil
      | cons h t ih => exact .cons (Dp.reads I _ _ _ (hc _ (List.mem_cons_self ..)) h) (ih fun b hb => hc b (List.mem_cons_of_mem _ hb))
    exact key hd e
  refine PySem.W.sorted_data (enc := fun b : V × PyData => b.2) (R := fun u b => RelV b.1 u) pl.isList e er hal hso (Nat.le_trans hl (by decide)) (fun b hb => by have := hdp b hb; omega) fun out ho eo => ?_
  have hn : H (s.heap.objs.size + 1) = none := I.hok.fresh (Nat.le_succ _)
  have hlen : out.length ≤ sizeLine := by
    rw [ho]
    exact Nat.le_trans hl (by decide)
  obtain ⟨n, hat⟩ := PyProof.Rows.sortedAll_at s.heap its out.toArray
  refine ⟨.ref (s.heap.objs.size + 1), upd H (s.heap.objs.size + 1) (.lst ((bs.mergeSort (PySem.W.dataLe false (·.2))).map (·.1))), I.laid (t' := s.toks) (fun b o e => PyProof.Rows.sortedAll_old e) (Nat.le_succ _) ⟨?_, out, n, each_vals eo, hat⟩, rfl, q _ hn⟩
  rw [List.length_map, List.length_mergeSort]
  exact Nat.le_trans hl (by decide)
/-! by data -/
def rowLe (p q : List Int) : Bool := decide (p ≤ q)
section
variable {K : PySem.W.Frag} {C : Addr}
theorem dats_zip {H : Hp} : ∀ {rows : List (List Int)} {xs : List V}, Dats K C H (rows.map fun r => D.lst (dI r)) xs → ∃ bs : List (V × List Int), bs.map (·.1) = xs ∧ bs.map (·.2) = rows ∧ ∀ b ∈ bs, Dat K C H (.lst (dI b.2)) b.1
  | [], xs, h => ⟨[], (dats_nil.mp h).symm, rfl, fun b hb => by cases hb⟩
  | r :: rows, xs, h => by
    obtain ⟨x, ys, rfl, h1, h2⟩ := dats_cons.mp h
    obtain ⟨bs, e1, e2, h3⟩ := dats_zip h2
    refine ⟨(x, r) :: bs, by rw [List.map_cons, e1], by rw [List.map_cons, e2], fun b hb => ?_⟩
    rcases List.mem_cons.mp hb with e | hb
    · rw [e]
      exact h1
    · exact h3 b hb
theorem zip_dats {H : Hp} : ∀ {bs : List (V × List Int)}, (∀ b ∈ bs, Dat K C H (.lst (dI b.2)) b.1) → Dats K C H ((bs.map (·.2)).map fun r => D.lst (dI r)) (bs.map (·.1))
  | [], _ => .nil
  | b :: bs, h => .cons (h b (List.mem_cons_self ..)) (zip_dats fun c hc => h c (List.mem_cons_of_mem _ hc))
theorem toPys_dI : ∀ ns : List Int, toPys (dI ns) = ns.map .int
  | [] => by
    unfold dI List.map toPys
    rfl
  | n :: ns => by
    show toPys (.int n :: dI ns) = .int n :: ns.map .int
    unfold toPys
    rw [toPys_dI ns]
    unfold toPy
    rfl
def rowPy (r : List Int) : PyData := .list (r.map .int)
theorem toPy_row (r : List Int) : toPy (.lst (dI r)) = rowPy r := by
  unfold toPy rowPy
  rw [toPys_dI]
/-- sorted(rows), rows of ints -/
theorem rn_sortedRows {rows : List (List Int)} (hl : rows.length ≤ 100000) : RCN K C (rSortedD K) [rowsL rows] (rowsL (rows.mergeSort rowLe)) := fun O H vs o h Q q => by
  obtain ⟨x, rfl, hx⟩ := dats_one.mp h
  obtain ⟨a, xs, rfl, h1, h2⟩ := dat_lst_iff.mp hx
  obtain ⟨bs, e1, e2, h3⟩ := dats_zip h2
  have em : bs.length = rows.length := by rw [← e2, List.length_map]
  refine ⟨a, bs.map fun b => (b.1, rowPy b.2), rfl, ?_, fun b hb => ?_, ?_, ?_, by rw [List.length_map, em]; exact hl, fun b hb => ?_, fun p hp => ?_⟩
  · rw [List.map_map]
    have : ((fun b : V × PyData => b.1) ∘ fun b : V × List Int => (b.1, rowPy b.2)) = fun b => b.1 := rfl
    rw [this, e1]
    exact sqL_of h1
  · obtain ⟨c, hc, rfl⟩ := List.mem_map.mp hb
    have := dp_of (K := K) (C := C) (O := O) (H := H) (.lst (dI c.2)) c.1 (shN_lst (n := 0) shN_dI).1 (h3 c hc)
    rwa [toPy_row] at this
  · rw [List.map_map]
    exact PySem.W.AllAlike.of (enc := fun b : V × List Int => rowPy b.2) fun b b' => by
      show PySem.W.alike (.list _) (.list _) = true
      unfold PySem.W.alike
      exact PySem.W.alike_ints _ _
  · rw [List.map_map]
    exact PySem.W.Sortable.others (enc := fun b : V × List Int => rowPy b.2) fun b => ⟨fun z => (by cases z), fun xs z => (by cases z)⟩
  · obtain ⟨c, hc, rfl⟩ := List.mem_map.mp hb
    show PyData.depth (.list (c.2.map .int)) ≤ 60
    unfold PyData.depth
    rw [PySem.W.depth_ints]
    decide
  · have es : ((bs.map fun b => (b.1, rowPy b.2)).mergeSort (PySem.W.dataLe false (·.2))) = (bs.mergeSort fun p q => rowLe p.2 q.2).map fun b => (b.1, rowPy b.2) := by
      refine (List.map_mergeSort fun a ha b hb => ?_).symm
      have := congrFun (congrFun (PySem.W.dataLe_rows (fun b : V × List Int => b.2)) a) b
      exact this.symm
    have er : (bs.mergeSort fun p q => rowLe p.2 q.2).map (·.2) = rows.mergeSort rowLe := by
      rw [← e2]
      exact List.map_mergeSort fun a ha b hb => rfl
    rw [es, List.map_map]
    refine q p _ (same_new hp) hp (dat_lst_iff.mpr ⟨p, _, rfl, hid_new o hp, ?_⟩)
    rw [← er]
    have := zip_dats (K := K) (C := C) (H := hid O H) (bs := bs.mergeSort fun p q => rowLe p.2 q.2) fun b hb => h3 b ((List.mergeSort_perm _ _).mem_iff.mp hb)
    exact this.same (same_hid (same_new hp))
end
section
variable {X : Cx} {e : Expr} {es : List Expr} {t : TA} {p pos : Pos}
theorem c_sortedD {K : PySem.W.Frag} (b : BFree X.mg) (hu : X.A.units + 64 < cLine) (ha : PA X (e :: es) t) (hg : Gl X "sorted" := by rfl) (hK : X.K = K := by rfl)
    (he : starEach (e :: es) X.env = (false, eval e X.env) :: starEach es X.env := by rfl) (hpl : (backTo pos (starEach es X.env)).any (·.1) = false := by rfl) :
    PE X (.Call (.Name "sorted" p) (e :: es) [] pos) (tCB (rSortedD K) t) := by
  subst hK
  exact pe_callB (cr_sortedD hu) hg (b _ (by decide)) (by decide +kernel) ha (he := he) (hpl := hpl)
end
end Zm


set_option Elab.async false
set_option linter.all false
set_option maxRecDepth 100000
set_option maxHeartbeats 4000000
set_option autoImplicit false
namespace Zm
open PySem PySem.Spec L2 PyProof.Rows
/-! ### laying small hashes -/
def Sm (h : Int) : Prop := 0 ≤ h ∧ h < 8
theorem bits_sm {h : Int} (s : Sm h) : SetTable.bits h = h.toNat := by
  obtain ⟨h0, h1⟩ := s
  unfold SetTable.bits
  rw [Int.emod_eq_of_lt h0 (by omega)]
/-- owner tells which of hs stands at j -/
def Owns (mask : Nat) (owner : Array (Option Nat)) (hs : List Int) : Prop := owner.size = mask + 1 ∧ ∀ j i : Nat, j ≤ mask → (owner.getD j none = some i ↔ ∃ h, hs[i]? = some h ∧ h.toNat = j)
theorem free_at {mask : Nat} {owner : Array (Option Nat)} {j p f : Nat} (hj : j < owner.size) (h : owner.getD j none = none) : SetTable.layClean.free mask owner (f + 1) j p = some j := by
  unfold SetTable.layClean.free
  have hr : j ≤ SetTable.runEnd mask j := by
    unfold SetTable.runEnd
    split <;> omega
  have e : (SetTable.runEnd mask j + 1 - j) = (SetTable.runEnd mask j - j) + 1 := by omega
  have h2 : (owner.getD (j + 0) (some 0)).isNone = true := by
    rw [Nat.add_zero]
    rw [Array.getD_eq_getD_getElem?, Array.getElem?_eq_getElem hj] at h ⊢
    dsimp only [Option.getD_some] at h ⊢
    rw [h]
    rfl
  have e2 : (List.range (SetTable.runEnd mask j + 1 - j)).find? (fun k => (owner.getD (j + k) (some 0)).isNone) = some 0 := by
    rw [e, List.range_succ_eq_map]
    exact List.find?_cons_of_pos (p := fun k => (owner.getD (j + k) (some 0)).isNone) h2
  rw [e2]
  rfl
theorem lay_fold {mask : Nat} (hm : 7 ≤ mask) : ∀ (hs pre : List Int) (owner : Array (Option Nat)), Owns mask owner pre → (pre ++ hs).Nodup → (∀ h ∈ pre ++ hs, Sm h) →
    ∃ owner', hs.foldl (init := some (owner, pre.length)) (fun acc h => do
      let (owner, k) ← acc
      let j ← SetTable.layClean.free mask owner (SetTable.turns mask) (SetTable.bits h % (mask + 1)) (SetTable.bits h)
      pure (owner.setIfInBounds j (some k), k + 1)) = some (owner', (pre ++ hs).length) ∧ Owns mask owner' (pre ++ hs)
  | [], pre, owner, ow, nd, sm => ⟨owner, by rw [List.append_nil]; rfl, by rw [List.append_nil]; exact ow⟩
  | h :: hs, pre, owner, ow, nd, sm => by
    have s := sm h (by simp)
    have eb : SetTable.bits h % (mask + 1) = h.toNat := by
      rw [bits_sm s]
      exact Nat.mod_eq_of_lt (by have := s.2; have := s.1; omega)
    have hj : h.toNat < owner.size := by rw [ow.1]; have := s.2; have := s.1; omega
    have hno : ∀ x ∈ pre, x ≠ h := fun x hx e => by
      rw [List.nodup_append] at nd
      exact nd.2.2 x hx h (List.mem_cons_self ..) e
    have hn : owner.getD h.toNat none = none := by
      cases e : owner.getD h.toNat none with
      | none => rfl
      | some i =>
        obtain ⟨x, hx, ex⟩ := (ow.2 h.toNat i (by rw [ow.1] at hj; omega)).mp e
        have mx := List.mem_of_getElem? hx
        have sx := sm x (List.mem_append_left _ mx)
        exact absurd (by have := sx.1; have := s.1; omega) (hno x mx)
    have ef : SetTable.layClean.free mask owner (SetTable.turns mask) (SetTable.bits h % (mask + 1)) (SetTable.bits h) = some h.toNat := by
      rw [eb]
      exact free_at hj hn
    have ow' : Owns mask (owner.setIfInBounds h.toNat (some pre.length)) (pre ++ [h]) := by
      refine ⟨by rw [Array.size_setIfInBounds]; exact ow.1, fun j i hj' => ?_⟩
      rw [Array.getD_eq_getD_getElem?, Array.getElem?_setIfInBounds]
      by_cases e : h.toNat = j
      · subst e
        rw [if_pos rfl, if_pos hj]
        dsimp only [Option.getD_some]
        constructor
        · intro z
          cases z
          exact ⟨h, by simp, rfl⟩
        · rintro ⟨x, hx, ex⟩
          by_cases hi : i < pre.length
          · rw [List.getElem?_append_left hi] at hx
            have mx := List.mem_of_getElem? hx
            have sx := sm x (List.mem_append_left _ mx)
            exact absurd (by have := sx.1; have := s.1; omega) (hno x mx)
          · rw [List.getElem?_append_right (by omega)] at hx
            have : i - pre.length = 0 := by
              have := (List.getElem?_eq_some_iff.mp hx).1
              simpa using this
            rw [show i = pre.length by omega]
      · rw [if_neg e, ← Array.getD_eq_getD_getElem?, ow.2 j i hj']
        constructor
        · rintro ⟨x, hx, ex⟩
          exact ⟨x, by rw [List.getElem?_append_left (List.getElem?_eq_some_iff.mp hx).1]; exact hx, ex⟩
        · rintro ⟨x, hx, ex⟩
          by_cases hi : i < pre.length
          · rw [List.getElem?_append_left hi] at hx
            exact ⟨x, hx, ex⟩
          · rw [List.getElem?_append_right (by omega)] at hx
            have h0 : i - pre.length = 0 := by
              have := (List.getElem?_eq_some_iff.mp hx).1
              simpa using this
            rw [h0] at hx
            cases hx
            exact absurd ex e
    have ea : pre ++ h :: hs = (pre ++ [h]) ++ hs := by simp
    obtain ⟨o', e1, e2⟩ := lay_fold hm hs (pre ++ [h]) _ ow' (by rw [← ea]; exact nd) (by rw [← ea]; exact sm)
    refine ⟨o', ?_, by rw [ea]; exact e2⟩
    rw [List.foldl_cons, ea]
    have e3 : (do
      let (owner, k) ← (some (owner, pre.length) : Option (Array (Option Nat) × Nat))
      let j ← SetTable.layClean.free mask owner (SetTable.turns mask) (SetTable.bits h % (mask + 1)) (SetTable.bits h)
      pure (owner.setIfInBounds j (some k), k + 1)) = some (owner.setIfInBounds h.toNat (some pre.length), (pre ++ [h]).length) := by
      show (SetTable.layClean.free mask owner (SetTable.turns mask) (SetTable.bits h % (mask + 1)) (SetTable.bits h)).bind _ = _
      rw [ef, List.length_append]
      rfl
    rw [e3]
    exact e1
theorem lay_clean {mask : Nat} (hm : 7 ≤ mask) {hs : Array Int} (nd : hs.toList.Nodup) (sm : ∀ h ∈ hs.toList, Sm h) : ∃ owner, SetTable.layClean mask hs = some owner ∧ Owns mask owner hs.toList := by
  have ow : Owns mask (Array.replicate (mask + 1) none) [] := ⟨Array.size_replicate, fun j i hj => by
    rw [Array.getD_eq_getD_getElem?, Array.getElem?_replicate]
    rw [if_pos (by omega)]
    simp⟩
  obtain ⟨o, e1, e2⟩ := lay_fold hm hs.toList [] _ ow (by simpa using nd) (by simpa using sm)
  refine ⟨o, ?_, by simpa using e2⟩
  unfold SetTable.layClean
  rw [← Array.foldl_toList]
  rw [List.length_nil] at e1
  rw [e1]
  rfl
theorem live_order (f : Nat → Option Nat) : ∀ l : List Nat, l.Nodup → (∀ j ∈ l, ∀ j' ∈ l, ∀ i, f j = some i → f j' = some i → j = j') →
    ((l.filterMap fun j => (f j).map (j, ·)).map (·.2)).Nodup ∧ ∀ i, i ∈ (l.filterMap fun j => (f j).map (j, ·)).map (·.2) ↔ ∃ j ∈ l, f j = some i
  | [], _, _ => ⟨List.nodup_nil, fun i => by simp⟩
  | j :: l, nd, inj => by
    rw [List.nodup_cons] at nd
    obtain ⟨i1, i2⟩ := live_order f l nd.2 fun a ha b hb => inj a (List.mem_cons_of_mem _ ha) b (List.mem_cons_of_mem _ hb)
    cases hf : f j with
    | none =>
      have e : ((j :: l).filterMap fun j => (f j).map (j, ·)) = l.filterMap fun j => (f j).map (j, ·) := List.filterMap_cons_none (by simp [hf])
      rw [e]
      refine ⟨i1, fun i => (i2 i).trans ?_⟩
      simp [hf]
    | some k =>
      have e : ((j :: l).filterMap fun j => (f j).map (j, ·)) = (j, k) :: l.filterMap fun j => (f j).map (j, ·) := List.filterMap_cons_some (by simp [hf])
      rw [e, List.map_cons]
      refine ⟨List.nodup_cons.mpr ⟨fun z => ?_, i1⟩, fun i => ?_⟩
      · obtain ⟨j', hj', e'⟩ := (i2 k).mp z
        have := inj j (List.mem_cons_self ..) j' (List.mem_cons_of_mem _ hj') k hf e'
        rw [this] at nd
        exact nd.1 hj'
      · rw [List.mem_cons, i2]
        constructor
        · rintro (z | ⟨j', h1, h2⟩)
          · exact ⟨j, List.mem_cons_self .., by rw [hf, z]⟩
          · exact ⟨j', List.mem_cons_of_mem _ h1, h2⟩
        · rintro ⟨j', h1, h2⟩
          rcases List.mem_cons.mp h1 with z | z
          · rw [z, hf] at h2
            cases h2
            exact .inl rfl
          · exact .inr ⟨j', z, h2⟩
theorem laid_sm {mask f m : Nat} {led plain : Bool} (hm : 7 ≤ mask) {hs : Array Int} (nd : hs.toList.Nodup) (sm : ∀ h ∈ hs.toList, Sm h) (hl : hs.size ≤ mask) :
    ∃ t order, SetTable.laid mask f m led plain hs = some (t, order) ∧ order.toList.Perm (List.range hs.size) ∧ t.fits hs.size = true ∧ Ris t.place.toList ∧ t.led = led ∧ t.mask = mask ∧ t.dummies = #[] := by
  obtain ⟨owner, e, ow⟩ := lay_clean hm nd sm
  have inj : ∀ j ∈ List.range (mask + 1), ∀ j' ∈ List.range (mask + 1), ∀ i, owner.getD j none = some i → owner.getD j' none = some i → j = j' := fun j hj j' hj' i h1 h2 => by
    obtain ⟨x, hx, ex⟩ := (ow.2 j i (by have := List.mem_range.mp hj; omega)).mp h1
    obtain ⟨y, hy, ey⟩ := (ow.2 j' i (by have := List.mem_range.mp hj'; omega)).mp h2
    rw [hx] at hy
    cases hy
    rw [← ex, ← ey]
  obtain ⟨n1, n2⟩ := live_order (fun j => owner.getD j none) (List.range (mask + 1)) List.nodup_range inj
  have pm : (((List.range (mask + 1)).filterMap fun j => (owner.getD j none).map (j, ·)).map (·.2)).Perm (List.range hs.size) := by
    refine (List.perm_ext_iff_of_nodup n1 List.nodup_range).mpr fun i => ?_
    rw [n2, List.mem_range]
    constructor
    · rintro ⟨j, hj, h1⟩
      obtain ⟨x, hx, ex⟩ := (ow.2 j i (by have := List.mem_range.mp hj; omega)).mp h1
      have := (List.getElem?_eq_some_iff.mp hx).1
      rwa [Array.length_toList] at this
    · intro hi
      have hi' : i < hs.toList.length := by rw [Array.length_toList]; exact hi
      have s := sm _ (List.getElem_mem hi')
      have s1 := s.1
      have s2 := s.2
      refine ⟨hs.toList[i].toNat, List.mem_range.mpr (by omega), (ow.2 _ i (by omega)).mpr ⟨_, List.getElem?_eq_getElem hi', rfl⟩⟩
  refine ⟨_, _, by unfold SetTable.laid; rw [e]; rfl, by simpa using pm, ?_, ?_, rfl, rfl, rfl⟩
  · have hz : ((List.range (mask + 1)).filterMap fun j => (owner.getD j none).map (j, ·)).length = hs.size := by
      have := pm.length_eq
      rwa [List.length_map, List.length_range] at this
    unfold SetTable.fits SetTable.fill
    simp only [List.size_toArray, List.length_map, hz]
    simp [hl]
  · have := (ris_live (fun j => owner.getD j none) (List.range (mask + 1)) (by unfold Ris; exact List.pairwise_lt_range)).1
    simpa using this
end Zm


set_option Elab.async false
set_option linter.all false
set_option maxRecDepth 100000
set_option maxHeartbeats 4000000
set_option autoImplicit false
namespace Zm
open PySem PySem.Spec L2 PyProof.Rows
theorem hash_sm {k : Int} (s : Sm k) : hashInt k = k := by
  obtain ⟨h0, h1⟩ := s
  have : k = 0 ∨ k = 1 ∨ k = 2 ∨ k = 3 ∨ k = 4 ∨ k = 5 ∨ k = 6 ∨ k = 7 := by omega
  rcases this with e | e | e | e | e | e | e | e <;> subst e <;> decide +kernel
/-- what stands at a set's place -/
structure Sst (w : World) (o : Obj) (es : Array (Int × Value)) (ep : Nat) (t : SetTable) : Prop where
  ex : o.ExactSet
  data : o.data = .set es ep t
  good : ∀ e ∈ es.toList, GoodE e
  nd : (es.toList.map keyOf).Nodup
  bd : es.size < scanBound
  fits : t.fits es.size = true
  ris : Ris t.place.toList
  led : w.params.followText "set-order" = true ∨ t.led = true
section
variable {P : Program} {w : World} {A : Around} {E : Value → Shared → Prop} {s : Shared} {a : Addr} {o : Obj} {es : Array (Int × Value)} {ep : Nat} {t : SetTable}
theorem sst_of {S : Int → Bool} {n : Nat} {h : Heap} (R : SetR w h a S n) : ∃ o es ep t, h.get? a = some o ∧ Sst w o es ep t ∧ (∀ k, S k = true ↔ k ∈ es.toList.map keyOf) ∧ es.size = n := by
  obtain ⟨o, es, ep, t, ho, hex, hd, g, nd, hm, hb, hf, hn, hr, hl⟩ := R
  exact ⟨o, es, ep, t, ho, ⟨hex, hd, g, nd, hb, hf, hr, hl⟩, hm, hn⟩
theorem sst_setR {S : Int → Bool} {n : Nat} {h : Heap} (ho : h.get? a = some o) (x : Sst w o es ep t) (hm : ∀ k, S k = true ↔ k ∈ es.toList.map keyOf) (hn : es.size = n) : SetR w h a S n :=
  ⟨o, es, ep, t, ho, x.ex, x.data, x.good, x.nd, hm, x.bd, x.fits, hn, x.ris, x.led⟩
theorem ent_at {Q : Array (Int × Value) → Shared → Prop} (ho : s.heap.get? a = some o) (x : Sst w o es ep t) (h : Q es s) : wpAny (model P w) A (setEntries a) Q E s := by
  unfold setEntries
  exact wpAny_bind (wpAny_setState_of ho x.data x.fits (wpAny_pure h))
theorem walk_at {Q : Array (Int × Value) → Shared → Prop} (ho : s.heap.get? a = some o) (x : Sst w o es ep t) (hQ : ∀ out d, out.toList.Perm es.toList → Q out { s with drawn := d }) : wpAny (model P w) A (setWalk a) Q E s := by
  unfold setWalk
  refine wpAny_bind (wpAny_setState_of ho x.data x.fits ?_)
  dsimp only
  refine wpAny_bind (wpAny_byText ?_)
  cases hb : w.params.followText "set-order" with
  | true =>
    refine wp_if_pos rfl ?_
    exact wpAny_bind (wpAny_askSetting (wpAny_pure (hQ _ s.drawn (pick_perm _ _))))
  | false =>
    refine wp_if_neg (by decide) ?_
    try refine wpAny_bind (wpAny_pure ?_)
    cases hd : (!t.plain && decide (es.size > 1)) with
    | true =>
      refine wp_if_pos hd ?_
      refine wpAny_bind (drawOrder_at es.size es.toList s _ (Nat.le_of_eq Array.length_toList) fun ys d p => wpAny_pure (hQ _ d (by simpa using p)))
    | false =>
      refine wp_if_neg (by show ¬ ((!t.plain && decide (es.size > 1)) = true); rw [hd]; exact Bool.false_ne_true) ?_
      try refine wpAny_bind (wpAny_pure ?_)
      have hl : t.led = true := x.led.resolve_left (by rw [hb]; decide)
      refine wpAny_bind (wpAny_of_eq (a := ()) ?_ ?_)
      · show (if (!t.led && decide (es.size > 1)) = true then unsupported "set:maker-not-led" else pure ()) = pure ()
        rw [hl] <;> rfl
      · exact wpAny_pure (hQ _ s.drawn (List.Perm.refl _))
theorem forq {Q : Option Bool × Unit → Shared → Prop} {f : Int × Value → Option Bool × Unit → Sem (ForInStep (Option Bool × Unit))} (hf : ∀ h k tk, f (h, .int k tk) (none, ()) = pure (.yield (none, ()))) :
    ∀ l : List (Int × Value), (∀ e ∈ l, GoodE e) → Q (none, ()) s → wpAny (model P w) A (forIn l (none, ()) f) Q E s
  | [], _, q => wpAny_pure q
  | e :: l, g, q => by
    obtain ⟨k, tk, h1, h2⟩ := g e (List.mem_cons_self ..)
    obtain ⟨h0, v⟩ := e
    dsimp only at h1
    subst h1
    rw [List.forIn_cons, hf]
    exact wpAny_bind (wpAny_pure (forq hf l (fun e he => g e (List.mem_cons_of_mem _ he)) q))
theorem quiet_at {Q : Bool → Shared → Prop} : ∀ (sets : List Addr), (∀ a ∈ sets, ∃ o es ep t, s.heap.get? a = some o ∧ Sst w o es ep t) → Q true s → wpAny (model P w) A (setsQuiet sets) Q E s := by
  intro sets h q
  unfold setsQuiet
  refine wpAny_bind ?_
  induction sets with
  | nil => exact wpAny_pure (wpAny_pure q)
  | cons b bs ih =>
    rw [List.forIn_cons]
    obtain ⟨o, es, ep, t, ho, x⟩ := h b (List.mem_cons_self ..)
    refine wpAny_bind (wpAny_bind (ent_at ho x ?_))
    refine wpAny_bind ?_
    rw [← Array.forIn_toList]
    refine forq (fun h k tk => rfl) es.toList x.good ?_
    exact wpAny_pure (ih fun a ha => h a (List.mem_cons_of_mem _ ha))
/-- the walk that nobody sees, into a set that is filled -/
theorem unseen_at {f : Addr} {others : List Addr} {S : Int → Bool} {n : Nat} {Q : Array (Int × Value) → Shared → Prop} (ho : s.heap.get? a = some o) (x : Sst w o es ep t)
    (hs : ∀ b ∈ others, ∃ o es ep t, s.heap.get? b = some o ∧ Sst w o es ep t) (R : SetR w s.heap f S n)
    (hQ : ∀ out h' d, out.toList.Perm es.toList → Heap.SameBut f s.heap h' → SetR w h' f S n → Q out { s with heap := h', drawn := d }) : wpAny (model P w) A (setWalkUnseen a others (some f)) Q E s := by
  have hw : wpAny (model P w) A (setWalk a) Q E s := walk_at ho x fun out d p => hQ out s.heap d p (Heap.SameBut.refl _ _) R
  unfold setWalkUnseen
  refine wpAny_bind (wpAny_setState_of ho x.data x.fits ?_)
  dsimp only
  refine wpAny_bind (wpAny_byText ?_)
  cases hc : (w.params.followText "set-order" || (t.led && t.plain) || decide (es.size ≤ 1)) with
  | true => exact wp_if_pos rfl hw
  | false =>
    refine wp_if_neg (by decide) ?_
    try refine wpAny_bind (wpAny_pure ?_)
    refine wpAny_bind (quiet_at (a :: others) (fun b hb => ?_) ?_)
    · rcases List.mem_cons.mp hb with e | hb
      · rw [e]
        exact ⟨o, es, ep, t, ho, x⟩
      · exact hs b hb
    refine wp_if_neg (by decide) ?_
    try refine wpAny_bind (wpAny_pure ?_)
    refine wpAny_bind (wpAny_rule ?_)
    obtain ⟨of, ef, epf, tf, hof, xf, hm, hn⟩ := sst_of R
    refine wpAny_bind (wpAny_setState_of hof xf.data xf.fits ?_)
    dsimp only
    have hb : w.params.followText "set-order" = false := by
      cases e : w.params.followText "set-order" with
      | false => rfl
      | true => rw [e] at hc; cases hc
    have hl : t.led = true := x.led.resolve_left (by rw [hb]; decide)
    split
    · refine wpAny_bind (wpAny_storeSet_of hof xf.data ?_ (fits_of_scanBound xf.bd))
      refine wpAny_pure (hQ es _ s.drawn (List.Perm.refl _) (Heap.SameBut.update _ f _) ⟨_, ef, _, _, store_at hof xf.data, xf.ex, rfl, xf.good, xf.nd, hm, xf.bd, xf.fits, hn, xf.ris, xf.led.imp id fun z => ?_⟩)
      show (tf.led && t.led) = true
      rw [z, hl] <;> rfl
    · exact wpAny_pure (hQ es s.heap s.drawn (List.Perm.refl _) (Heap.SameBut.refl _ _) R)
/-! ### merging -/
def SmS (S : Int → Bool) : Prop := ∀ k, S k = true → Sm k
theorem nd_small : ∀ {l : List Int}, l.Nodup → (∀ k ∈ l, Sm k) → l.length ≤ 8 := fun {l} nd h => by
  have := nd_len l [0, 1, 2, 3, 4, 5, 6, 7] nd fun x hx => by
    obtain ⟨h0, h1⟩ := h x hx
    have : x = 0 ∨ x = 1 ∨ x = 2 ∨ x = 3 ∨ x = 4 ∨ x = 5 ∨ x = 6 ∨ x = 7 := by omega
    simp [this]
  exact this
theorem sst_small {S : Int → Bool} (x : Sst w o es ep t) (hm : ∀ k, S k = true ↔ k ∈ es.toList.map keyOf) (sm : SmS S) : es.size ≤ 8 := by
  have := nd_small x.nd fun k hk => sm k ((hm k).mpr hk)
  rwa [List.length_map, Array.length_toList] at this
theorem fst_key {S : Int → Bool} (x : Sst w o es ep t) (hm : ∀ k, S k = true ↔ k ∈ es.toList.map keyOf) (sm : SmS S) : (es.map (·.1)).toList = es.toList.map keyOf := by
  rw [Array.toList_map]
  refine List.map_congr_left fun e he => ?_
  obtain ⟨k, tk, h1, h2⟩ := x.good e he
  have hk : keyOf e = k := by unfold keyOf; rw [h1]
  have := sm k ((hm k).mpr (by rw [← hk]; exact List.mem_map_of_mem he))
  rw [h2, hash_sm this, hk]
theorem put_order {order : Array Nat} (hp : order.toList.Perm (List.range es.size)) : (order.filterMap (es[·]?)).toList.Perm es.toList := by
  rw [Array.toList_filterMap]
  exact (hp.filterMap _).trans (by rw [filterMap_getElem?_range])
theorem above_ok {n : Nat} (h : n ≤ 32) : 7 ≤ SetTable.sizeAbove n - 1 ∧ n ≤ SetTable.sizeAbove n - 1 ∧ SetTable.sizeAbove n ≤ 64 := by
  have key : ∀ m : Fin 33, 7 ≤ SetTable.sizeAbove m.val - 1 ∧ m.val ≤ SetTable.sizeAbove m.val - 1 ∧ SetTable.sizeAbove m.val ≤ 64 := by decide +kernel
  exact key ⟨n, by omega⟩
/-- laying anew what a set of small ints has -/
theorem relay_at {S : Int → Bool} {wanted : Nat} {Q : Unit → Shared → Prop} (ho : s.heap.get? a = some o) (x : Sst w o es ep t) (hm : ∀ k, S k = true ↔ k ∈ es.toList.map keyOf) (sm : SmS S) (hw : wanted ≤ 32) (he : es.size ≤ wanted)
    (hQ : ∀ o' es' t', Sst w o' es' (ep + 1) t' → es'.toList.Perm es.toList → t'.mask = SetTable.sizeAbove wanted - 1 → t'.dummies = #[] → (s.heap.update a (Obj.putSet es' t')).get? a = some o' → Q () { s with heap := s.heap.update a (Obj.putSet es' t') }) : wpAny (model P w) A (setRelay a wanted) Q E s := by
  obtain ⟨a1, a2, a3⟩ := above_ok hw
  have hk := fst_key x hm sm
  obtain ⟨t', order, e1, e2, e3, e4, e5, e6, e7⟩ := laid_sm (mask := SetTable.sizeAbove wanted - 1) (f := t.finger) (m := t.movedTo (SetTable.sizeAbove wanted - 1)) (led := t.led) (plain := t.plain) a1 (hs := es.map (·.1)) (by rw [hk]; exact x.nd)
    (by rw [hk]; exact fun k hk => sm k ((hm k).mpr hk)) (by rw [Array.size_map]; omega)
  rw [Array.size_map] at e2 e3
  have pm := put_order e2
  have hz : (order.filterMap (es[·]?)).size = es.size := by rw [← Array.length_toList, pm.length_eq, Array.length_toList]
  unfold setRelay
  refine wpAny_bind (wpAny_setState_of ho x.data x.fits ?_)
  dsimp only
  refine wp_if_neg (by rw [show sizeLine = 16777216 from rfl]; omega) ?_
  try refine wpAny_bind (wpAny_pure ?_)
  have er : t.relaid (es.map (·.1)) wanted = some (t', order) := e1
  rw [er]
  refine wpAny_bind (wpAny_of_eq (a := (order.filterMap (es[·]?), t')) ?_ ?_)
  · show (if ((order.filterMap (es[·]?)).size != es.size) = true then unsupported "internal:set-table-lost-an-element" else pure (order.filterMap (es[·]?), t')) = pure (order.filterMap (es[·]?), t')
    rw [hz, bne_self_eq_false] <;> rfl
  · refine wpAny_storeSet_of ho x.data ?_ (fits_of_scanBound (by rw [hz]; exact x.bd))
    refine hQ { o with data := .set (order.filterMap (es[·]?)) (ep + 1) t' } _ _ ⟨x.ex, rfl, fun e he => x.good e (pm.mem_iff.mp he), (pm.map keyOf).nodup_iff.mpr x.nd, by rw [hz]; exact x.bd, by rw [hz]; exact e3, e4, x.led.imp id fun z => by rw [e5]; exact z⟩ pm e6 e7 (store_at ho x.data)
abbrev frO (w : World) : Obj := { cls := .type "set", dict := none, data := .set #[] 0 (.fresh 0 0 (!w.params.followText "set-order")) }
theorem fr_sst (w : World) : Sst w (frO w) #[] 0 (.fresh 0 0 (!w.params.followText "set-order")) :=
  ⟨⟨rfl, rfl, rfl⟩, rfl, (fun e he => by simp at he), (by simp), (by decide), (by rfl), List.Pairwise.nil, by
    show _ ∨ (!w.params.followText "set-order") = true
    cases w.params.followText "set-order"
    · exact .inr rfl
    · exact .inl rfl⟩
/-- into a new set: all at once -/
theorem merge_new {f : Addr} {S : Int → Bool} {n : Nat} {each : Sem Unit} {Q : Unit → Shared → Prop} (R : SetR w s.heap a S n) (hf : s.heap.get? f = some (frO w)) (ne : f ≠ a) (sm : SmS S)
    (hQ : ∀ h', Heap.SameBut f s.heap h' → SetR w h' f S n → (n = 0 → h' = s.heap) → Q () { s with heap := h' }) : wpAny (model P w) A (setMerge f a each) Q E s := by
  obtain ⟨o, es, ep, t, ho, x, hm, hn⟩ := sst_of R
  have h8 := sst_small x hm sm
  have fr := fr_sst w
  unfold setMerge
  refine wp_if_neg (by simpa using ne) ?_
  try refine wpAny_bind (wpAny_pure ?_)
  refine wpAny_bind (wpAny_setState_of ho x.data x.fits ?_)
  dsimp only
  by_cases he : es.isEmpty = true
  · refine wp_if_pos he ?_
    have e0 : es = #[] := Array.isEmpty_iff.mp he
    subst e0
    exact wpAny_pure (hQ s.heap (Heap.SameBut.refl _ _) (sst_setR hf fr hm hn) fun _ => rfl)
  refine wp_if_neg he ?_
  try refine wpAny_bind (wpAny_pure ?_)
  have hn0 : n ≠ 0 := fun z => he (by rw [Array.isEmpty_iff_size_eq_zero, hn, z])
  have hk := fst_key x hm sm
  refine wpAny_bind (wpAny_mono (Q := fun _ s' => ∃ h1 of epf tf, s' = { s with heap := h1 } ∧ Heap.SameBut f s.heap h1 ∧ h1.get? f = some of ∧ Sst w of #[] epf tf ∧ 7 ≤ tf.mask ∧ es.size ≤ tf.mask ∧ tf.fill = 0) (E := E) ?_ ?_ fun _ _ e => e)
  · unfold setRoomFor
    refine wpAny_bind (wpAny_setState_of hf fr.data fr.fits ?_)
    dsimp only
    have er : (SetTable.fresh 0 0 (!w.params.followText "set-order")).roomFor es.size = if (0 + es.size) * 5 ≥ 7 * 3 then some ((0 + es.size) * 2) else none := rfl
    rw [er]
    by_cases h5 : (0 + es.size) * 5 ≥ 7 * 3
    · rw [if_pos h5]
      dsimp only
      refine relay_at hf fr (S := fun _ => false) (fun k => by simp) (fun k z => by cases z) (by omega) (Nat.zero_le _) fun o' es' t' x' p' e' d' g' => ?_
      have e0 : es' = #[] := by
        have := p'.length_eq
        apply Array.eq_empty_of_size_eq_zero
        simpa using this
      subst e0
      have := (above_ok (n := (0 + es.size) * 2) (by omega))
      refine ⟨_, o', _, t', rfl, Heap.SameBut.update _ f _, g', x', by rw [e']; exact this.1, by rw [e']; omega, ?_⟩
      have ff := x'.fits
      unfold SetTable.fits at ff
      rw [Bool.and_eq_true, beq_iff_eq] at ff
      unfold SetTable.fill
      rw [d', ff.1]
      rfl
    · rw [if_neg h5]
      dsimp only
      exact wpAny_pure ⟨s.heap, _, _, _, rfl, Heap.SameBut.refl _ _, hf, fr, Nat.le_refl 7, by show es.size ≤ 7; omega, rfl⟩
  · rintro _ s' ⟨h1, of, epf, tf, rfl, sb, ho1, xf, m1, m2, f0⟩
    refine wpAny_bind (wpAny_setState_of ho1 xf.data xf.fits ?_)
    dsimp only
    have nb : ∀ {h2 : Heap} {z : Obj → Obj}, h2 = h1.update f z → Heap.SameBut f s.heap h2 := fun e => by
      rw [e]
      exact sb.trans (Heap.SameBut.update _ f _)
    by_cases hr : (tf.mask == t.mask && t.dummies.isEmpty) = true
    · have er : tf.road t = .slotForSlot := by
        unfold SetTable.road
        rw [f0, if_neg (by decide), if_pos hr]
      rw [er]
      dsimp only
      refine wpAny_storeSet_of ho1 xf.data ?_ (fits_of_scanBound x.bd)
      exact hQ _ (nb rfl) ⟨_, es, _, _, store_at ho1 xf.data, xf.ex, rfl, x.good, x.nd, hm, x.bd, x.fits, hn, x.ris, by
        rcases xf.led with z | z
        · exact .inl z
        rcases x.led with z2 | z2
        · exact .inl z2
        refine .inr ?_
        show (tf.led && t.led) = true
        rw [z, z2] <;> rfl⟩ fun z => absurd z hn0
    · have er : tf.road t = .clean := by
        unfold SetTable.road
        rw [f0, if_neg (by decide), if_neg hr]
      rw [er]
      dsimp only
      obtain ⟨t', order, e1, e2, e3, e4, e5, e6, e7⟩ := laid_sm (mask := tf.mask) (f := tf.finger) (m := tf.moves) (led := tf.led && t.led) (plain := tf.plain && t.plain) m1 (hs := es.map (·.1)) (by rw [hk]; exact x.nd)
        (by rw [hk]; exact fun k hk => sm k ((hm k).mpr hk)) (by rw [Array.size_map]; exact m2)
      rw [Array.size_map] at e2 e3
      have pm := put_order e2
      have hz : (order.filterMap (es[·]?)).size = es.size := by rw [← Array.length_toList, pm.length_eq, Array.length_toList]
      rw [e1]
      refine wpAny_bind (wpAny_of_eq (a := (order.filterMap (es[·]?), t')) ?_ ?_)
      · show (if ((order.filterMap (es[·]?)).size != es.size) = true then unsupported "internal:set-table-lost-an-element" else pure (order.filterMap (es[·]?), t')) = pure (order.filterMap (es[·]?), t')
        rw [hz, bne_self_eq_false] <;> rfl
      · refine wpAny_storeSet_of ho1 xf.data ?_ (fits_of_scanBound (by rw [hz]; exact x.bd))
        refine hQ _ (nb rfl) ⟨_, _, _, _, store_at ho1 xf.data, xf.ex, rfl, fun e he => x.good e (pm.mem_iff.mp he), (pm.map keyOf).nodup_iff.mpr x.nd, fun k => (hm k).trans (pm.map keyOf).mem_iff.symm, by rw [hz]; exact x.bd, by rw [hz]; exact e3, by rw [hz]; exact hn, e4, ?_⟩ fun z => absurd z hn0
        rcases xf.led with z | z
        · exact .inl z
        rcases x.led with z2 | z2
        · exact .inl z2
        refine .inr ?_
        rw [e5, z, z2] <;> rfl
/-- one by one -/
theorem into_loop {f : Addr} {each : Sem Unit} {ho0 : Heap} {Q : PUnit → Shared → Prop} (hg : ho0.get? a = some o) (x : Sst w o es ep t) (ne : a ≠ f)
    (hEach : ∀ (s' : Shared) (Q' : Unit → Shared → Prop), s'.heap.get? a = some o → Q' () s' → wpAny (model P w) A each Q' E s') :
    ∀ (l : List (Int × Value)), (∀ e ∈ l, GoodE e) → ∀ (s1 : Shared) (S1 : Int → Bool) (n1 : Nat), Heap.SameBut f ho0 s1.heap → SetR w s1.heap f S1 n1 → n1 + l.length < scanBound →
      (∀ h' S' n', Heap.SameBut f ho0 h' → SetR w h' f S' n' → (∀ k, S' k = true ↔ S1 k = true ∨ k ∈ l.map keyOf) → Q ⟨⟩ { s1 with heap := h' }) →
      wpAny (model P w) A (forIn l PUnit.unit fun (e : Int × Value) _ => holding [e.2] (setAddHashed f e.2 e.1) >>= fun _ => each >>= fun _ => setState a >>= fun z =>
        if (z.2.1 != ep) = true then (unsupported "set.changed-during-merge" : Sem Unit) >>= fun _ => pure (ForInStep.yield PUnit.unit) else pure (ForInStep.yield PUnit.unit)) Q E s1
  | [], _, s1, S1, n1, sb, R, hb, q => wpAny_pure (q s1.heap S1 n1 sb R fun k => by simp)
  | e :: l, g, s1, S1, n1, sb, R, hb, q => by
    obtain ⟨k, tk, h1, h2⟩ := g e (List.mem_cons_self ..)
    obtain ⟨h0, v⟩ := e
    dsimp only at h1 h2
    subst h1
    subst h2
    rw [List.length_cons] at hb
    rw [List.forIn_cons]
    refine wpAny_bind (wpAny_bind (wpAny_holding ?_))
    refine setR_add_hashed (P := P) (k := k) (tk := tk) R (by omega) fun h' sb' R' => ?_
    have sb2 := sb.trans sb'
    have hga : h'.get? a = some o := (sb2.2 a ne).trans hg
    refine wpAny_bind (hEach _ _ hga ?_)
    refine wpAny_bind (wpAny_setState_of hga x.data x.fits ?_)
    dsimp only
    rw [bne_self_eq_false]
    refine wp_if_neg (by decide) ?_
    try refine wpAny_bind (wpAny_pure ?_)
    refine wpAny_pure ?_
    refine into_loop hg x ne hEach l (fun e he => g e (List.mem_cons_of_mem _ he)) _ _ _ sb2 R' ?_ fun h3 S' n' sb3 R3 h4 => ?_
    · split <;> omega
    · refine q h3 S' n' sb3 R3 fun j => (h4 j).trans ?_
      rw [List.map_cons, List.mem_cons, Bool.or_eq_true, decide_eq_true_eq]
      show _ ↔ _ ∨ j = k ∨ _
      exact or_assoc
theorem merge_into {f : Addr} {S T : Int → Bool} {n m : Nat} {each : Sem Unit} {Q : Unit → Shared → Prop} (R : SetR w s.heap a T m) (Rf : SetR w s.heap f S n) (ne : f ≠ a) (sm : SmS S) (smT : SmS T) (hn0 : n ≠ 0)
    (hEach : ∀ (s' : Shared) (Q' : Unit → Shared → Prop), s'.heap.get? a = s.heap.get? a → Q' () s' → wpAny (model P w) A each Q' E s')
    (hQ : ∀ h' d S' n', Heap.SameBut f s.heap h' → SetR w h' f S' n' → (∀ k, S' k = true ↔ S k = true ∨ T k = true) → Q () { s with heap := h', drawn := d }) : wpAny (model P w) A (setMerge f a each) Q E s := by
  obtain ⟨o, es, ep, t, ho, x, hm, hn⟩ := sst_of R
  obtain ⟨of, ef, epf, tf, hf, fr, hmf, hnf⟩ := sst_of Rf
  have h8 := sst_small x hm smT
  have f8 := sst_small fr hmf sm
  unfold setMerge
  refine wp_if_neg (by simpa using ne) ?_
  try refine wpAny_bind (wpAny_pure ?_)
  refine wpAny_bind (wpAny_setState_of ho x.data x.fits ?_)
  dsimp only
  by_cases he : es.isEmpty = true
  · refine wp_if_pos he ?_
    have e0 : es = #[] := Array.isEmpty_iff.mp he
    subst e0
    exact wpAny_pure (hQ s.heap s.drawn S n (Heap.SameBut.refl _ _) Rf fun k => by rw [hm k]; simp)
  refine wp_if_neg he ?_
  try refine wpAny_bind (wpAny_pure ?_)
  refine wpAny_bind (wpAny_mono (Q := fun _ s' => ∃ h1, s' = { s with heap := h1 } ∧ Heap.SameBut f s.heap h1 ∧ SetR w h1 f S n) (E := E) ?_ ?_ fun _ _ e => e)
  · unfold setRoomFor
    refine wpAny_bind (wpAny_setState_of hf fr.data fr.fits ?_)
    dsimp only
    have hpl : tf.place.size = ef.size := by
      have ff := fr.fits
      unfold SetTable.fits at ff
      rw [Bool.and_eq_true, beq_iff_eq] at ff
      exact ff.1
    unfold SetTable.roomFor
    rw [hpl]
    by_cases h5 : (tf.fill + es.size) * 5 ≥ tf.mask * 3
    · rw [if_pos h5]
      dsimp only
      refine relay_at hf fr hmf sm (by omega) (by omega) fun o' es' t' x' p' e' d' g' => ?_
      exact ⟨_, rfl, Heap.SameBut.update _ f _, sst_setR g' x' (fun k => (hmf k).trans (p'.map keyOf).mem_iff.symm) (by rw [← Array.length_toList, p'.length_eq, Array.length_toList]; exact hnf)⟩
    · rw [if_neg h5]
      dsimp only
      exact wpAny_pure ⟨s.heap, rfl, Heap.SameBut.refl _ _, Rf⟩
  · rintro _ s' ⟨h1, rfl, sb, R1⟩
    obtain ⟨of1, ef1, epf1, tf1, ho1, xf, hm1, hn1⟩ := sst_of R1
    refine wpAny_bind (wpAny_setState_of ho1 xf.data xf.fits ?_)
    dsimp only
    have er : tf1.road t = .oneByOne := by
      unfold SetTable.road
      rw [if_pos]
      have ff := xf.fits
      unfold SetTable.fits at ff
      rw [Bool.and_eq_true, beq_iff_eq] at ff
      show ((tf1.place.size + tf1.dummies.size) != 0) = true
      rw [bne_iff_ne]
      have := ff.1
      omega
    rw [er]
    dsimp only
    have hga1 : h1.get? a = some o := (sb.2 a (Ne.symm ne)).trans ho
    refine wpAny_bind (unseen_at (s := { s with heap := h1 }) hga1 x (fun b hb => ?_) R1 fun out h2 d pm sb2 R2 => ?_)
    · rw [List.mem_singleton.mp hb]
      exact ⟨_, _, _, _, ho1, xf⟩
    rw [← Array.forIn_toList]
    have hga2 : h2.get? a = some o := (sb2.2 a (Ne.symm ne)).trans hga1
    refine wpAny_bind ?_
    refine into_loop (ho0 := h2) hga2 x (Ne.symm ne) (fun s' Q' h q => hEach s' Q' (by rw [h, ho]) q) out.toList (fun e he => x.good e (pm.mem_iff.mp he)) { s with heap := h2, drawn := d } S n (Heap.SameBut.refl _ _) R2 ?_ fun h3 S' n' sb3 R3 h4 => ?_
    · rw [pm.length_eq, Array.length_toList]
      show _ < 4096
      omega
    · refine wpAny_pure ?_
      refine hQ h3 d S' n' ((sb.trans sb2).trans sb3) R3 fun k => (h4 k).trans ?_
      rw [(pm.map keyOf).mem_iff, hm]
end
end Zm


set_option Elab.async false
set_option linter.all false
set_option maxRecDepth 100000
set_option maxHeartbeats 4000000
set_option autoImplicit false
namespace Zm
open PySem PySem.Spec L2 PyProof.Rows
theorem entry_set_or : entryFor table "set.__or__" = some Builtin.«frozenset.__or__» :=
  entryFor_alias (id' := "frozenset.__or__") (by kernel_rfl) rfl (by decide +kernel) (by kernel_rfl)
theorem entry_set_and : entryFor table "set.__and__" = some Builtin.«frozenset.__and__» :=
  entryFor_alias (id' := "frozenset.__and__") (by kernel_rfl) rfl (by decide +kernel) (by kernel_rfl)
end Zm


set_option Elab.async false
set_option linter.all false
set_option maxRecDepth 100000
set_option maxHeartbeats 4000000
set_option autoImplicit false
namespace Zm
open PySem PySem.Spec L2 PyProof.Rows
section
variable {P : Program} {w : World} {A : Around} {E : Value → Shared → Prop} {s : Shared} {a b : Addr} {o : Obj} {es : Array (Int × Value)} {ep : Nat} {t : SetTable}
theorem setR_type {S : Int → Bool} {n : Nat} (R : SetR w s.heap a S n) : s.TypeIs (.ref a) "set" := by
  obtain ⟨o, es, ep, t, ho, x, _⟩ := sst_of R
  exact ⟨o, ho, x.ex.1⟩
/-- a copy -/
theorem copy_at {S : Int → Bool} {n : Nat} {Q : Value → Shared → Prop} (R : SetR w s.heap a S n) (sm : SmS S)
    (hQ : ∀ h', (∀ c u, s.heap.get? c = some u → h'.get? c = some u) → SetR w h' s.heap.objs.size S n → (n = 0 → h'.get? s.heap.objs.size = some (frO w)) → Q (.ref s.heap.objs.size) { s with heap := h' }) :
    wpAny (model P w) A (Builtin.Frozenset.copyOf a) Q E s := by
  unfold Builtin.Frozenset.copyOf Builtin.Frozenset.baseOf
  refine wpAny_bind (wpAny_bind (wpAny_isInstance (setR_type R) sub_set_self (wpAny_pure ?_)))
  rw [if_pos rfl]
  unfold newSet
  refine wpAny_bind (wpAny_bind (wpAny_byText ?_))
  dsimp only
  refine wpAny_newObj_type ?_
  have hlt := R.lt
  have hg : (s.heap.push (frO w)).get? s.heap.objs.size = some (frO w) := Heap.get?_push_size _ rfl
  refine wpAny_bind (m := Builtin.Frozenset.addrOf _) (wpAny_pure ?_)
  refine wpAny_bind (merge_new (s := { s with heap := s.heap.push (frO w) }) (R.at fun u e => Heap.get?_push_of_some _ e) hg (Nat.ne_of_gt hlt) sm fun h' sb R' z => ?_)
  refine wpAny_pure (hQ h' (fun c u e => ?_) R' fun e => by rw [z e]; exact hg)
  rw [sb.2 c (Nat.ne_of_lt (Heap.lt_size e))]
  exact Heap.get?_push_of_some _ e
theorem isAny_at {S : Int → Bool} {n : Nat} {Q : Bool → Shared → Prop} (R : SetR w s.heap a S n) (h : Q true s) : wpAny (model P w) A (Builtin.Frozenset.isAnySet (.ref a)) Q E s := by
  unfold Builtin.Frozenset.isAnySet orM
  refine wpAny_bind (wpAny_isInstance (setR_type R) sub_set_self ?_)
  exact wpAny_pure h
theorem or_at {S T : Int → Bool} {n m : Nat} {Q : Value → Shared → Prop} (R : SetR w s.heap a S n) (R2 : SetR w s.heap b T m) (ne : a ≠ b) (sm : SmS S) (smT : SmS T)
    (hQ : ∀ h' d S' n', (∀ c u, s.heap.get? c = some u → h'.get? c = some u) → SetR w h' s.heap.objs.size S' n' → (∀ k, S' k = true ↔ S k = true ∨ T k = true) → Q (.ref s.heap.objs.size) { s with heap := h', drawn := d }) :
    wpAny (model P w) A (binaryOp .BitOr (.ref a) (.ref b)) Q E s := by
  refine wpAny_binaryOp_same (op := .BitOr) (setR_type R) (setR_type R2) F.fills_set_or F.slot_set_or ?_
  refine wpAny_call_entry F.slot_set_or (setR_type R) entry_set_or ?_ (F.args_set_or_2 _ _)
  unfold Builtin.«frozenset.__or__»
  wp_delta
  unfold Builtin.Frozenset.slot1 slotArgs
  simp only [List.isEmpty_nil, Bool.not_true, Bool.false_eq_true, ↓reduceIte, bind_assoc, List.length_cons, List.length_nil, bne_self_eq_false, pure_bind]
  unfold andM
  refine wpAny_bind (wpAny_bind (isAny_at R ?_))
  refine isAny_at R2 ?_
  refine wp_if_neg (by decide) ?_
  try refine wpAny_bind (wpAny_pure ?_)
  refine wpAny_bind ?_
  wp_delta
  refine wpAny_bind (copy_at R sm fun h1 k1 R1 z1 => ?_)
  have neb : b ≠ a := fun e => ne e.symm
  refine wp_if_pos (by simpa using neb) ?_
  refine wpAny_bind (m := Builtin.Frozenset.addrOf _) (wpAny_pure ?_)
  refine wpAny_bind (wpAny_holding ?_)
  have R2' : SetR w h1 b T m := R2.at (k1 b)
  have lt2 := R2.lt
  have neb2 : s.heap.objs.size ≠ b := Nat.ne_of_gt lt2
  have back : ∀ h' d S' n', Heap.SameBut s.heap.objs.size h1 h' → SetR w h' s.heap.objs.size S' n' → (∀ k, S' k = true ↔ S k = true ∨ T k = true) →
      wpAny (model P w) A.in1 (pure (Value.ref s.heap.objs.size)) (fun a s' => wpAny (model P w) A.in1 (ret a) (fun fin s' => ∃ v, fin = Fin.done (Flow.ret v) ∧ v ≠ Value.notImplemented ∧ Q v s') E s') E { s with heap := h', drawn := d } := fun h' d S' n' sb R' e => by
    refine wpAny_pure (wpAny_pure ⟨_, rfl, by simp, hQ h' d S' n' (fun c u e => ?_) R' e⟩)
    rw [sb.2 c (Nat.ne_of_lt (Heap.lt_size e))]
    exact k1 c u e
  unfold Builtin.Frozenset.updateFrom
  refine wpAny_bind (isAny_at (s := { s with heap := h1 }) R2' ?_)
  refine wp_if_pos rfl ?_
  refine wpAny_bind (m := Builtin.Frozenset.addrOf _) (wpAny_pure ?_)
  unfold Builtin.Frozenset.merge
  obtain ⟨o2, es2, ep2, t2, ho2, x2, hm2, hn2⟩ := sst_of R2'
  refine wpAny_bind (wpAny_setEpoch_of (s := { s with heap := h1 }) ho2 x2.data x2.fits ?_)
  by_cases hn0 : n = 0
  · subst hn0
    refine merge_new (s := { s with heap := h1 }) R2' (z1 rfl) neb2 smT fun h' sb R' z => ?_
    refine back h' s.drawn T m sb R' fun k => ⟨.inr, fun h => h.elim (fun h => ?_) id⟩
    obtain ⟨o, es, ep, t, ho, x, hm, hn⟩ := sst_of R
    have e0 : es = #[] := Array.eq_empty_of_size_eq_zero hn
    rw [hm, e0] at h
    simp at h
  · refine merge_into (s := { s with heap := h1 }) R2' R1 neb2 sm smT hn0 (fun s' Q' hg q => ?_) fun h' d S' n' sb R' e => back h' d S' n' sb R' e
    unfold Builtin.Frozenset.unchanged
    refine wpAny_bind (wpAny_setEpoch_of (hg.trans ho2) x2.data x2.fits ?_)
    rw [bne_self_eq_false]
    refine wp_if_neg (by decide) ?_
    exact wpAny_pure q
/-! ### what both have -/
theorem and_loop {f c : Addr} {ho0 : Heap} {T : Int → Bool} {m : Nat} {id : String} {Q : PUnit → Shared → Prop} (hg : ho0.get? a = some o) (x : Sst w o es ep t) (ne : a ≠ f) (Rc : SetR w ho0 c T m) (nc : c ≠ f) :
    ∀ (l : List (Int × Value)), (∀ e ∈ l, GoodE e) → ∀ (s1 : Shared) (S1 : Int → Bool) (n1 : Nat), Heap.SameBut f ho0 s1.heap → SetR w s1.heap f S1 n1 → n1 + l.length < scanBound →
      (∀ h' S' n', Heap.SameBut f ho0 h' → SetR w h' f S' n' → (∀ k, S' k = true ↔ S1 k = true ∨ (k ∈ l.map keyOf ∧ T k = true)) → Q ⟨⟩ { s1 with heap := h' }) →
      wpAny (model P w) A (forIn l PUnit.unit fun (e : Int × Value) _ => holding [e.2] (do if (← setFind c e.2 e.1).isSome then let _ ← setAddHashed f e.2 e.1) >>= fun _ => Builtin.Frozenset.unchanged id a ep >>= fun _ => pure (ForInStep.yield PUnit.unit)) Q E s1
  | [], _, s1, S1, n1, sb, R, hb, q => wpAny_pure (q s1.heap S1 n1 sb R fun k => by simp)
  | e :: l, g, s1, S1, n1, sb, R, hb, q => by
    obtain ⟨k, tk, h1, h2⟩ := g e (List.mem_cons_self ..)
    obtain ⟨h0, v⟩ := e
    dsimp only at h1 h2
    subst h1
    subst h2
    rw [List.length_cons] at hb
    rw [List.forIn_cons]
    have Rc1 : SetR w s1.heap c T m := Rc.at fun u e => (sb.2 c nc).trans e
    have go : ∀ (h2 : Heap) (S2 : Int → Bool) (n2 : Nat), Heap.SameBut f ho0 h2 → SetR w h2 f S2 n2 → n2 + l.length < scanBound → (∀ j, S2 j = true ↔ S1 j = true ∨ (j = k ∧ T j = true)) → ∀ (G : ForInStep PUnit → Sem PUnit),
        G (.yield ⟨⟩) = (forIn l PUnit.unit fun (e : Int × Value) _ => holding [e.2] (do if (← setFind c e.2 e.1).isSome then let _ ← setAddHashed f e.2 e.1) >>= fun _ => Builtin.Frozenset.unchanged id a ep >>= fun _ => pure (ForInStep.yield PUnit.unit)) →
        wpAny (model P w) A (Builtin.Frozenset.unchanged id a ep >>= fun _ => pure (ForInStep.yield PUnit.unit)) (fun r s' => wpAny (model P w) A (G r) Q E s') E { s1 with heap := h2 } := fun h2 S2 n2 sb2 R2 hb2 m2 G hG => by
      unfold Builtin.Frozenset.unchanged
      refine wpAny_bind (wpAny_bind (wpAny_setEpoch_of (s := { s1 with heap := h2 }) ((sb2.2 a ne).trans hg) x.data x.fits ?_))
      rw [bne_self_eq_false]
      refine wp_if_neg (by decide) ?_
      refine wpAny_pure (wpAny_pure ?_)
      rw [hG]
      refine and_loop hg x ne Rc nc l (fun e he => g e (List.mem_cons_of_mem _ he)) _ _ _ sb2 R2 hb2 fun h3 S' n' sb3 R3 h4 => ?_
      refine q h3 S' n' sb3 R3 fun j => (h4 j).trans ?_
      rw [m2, List.map_cons, List.mem_cons]
      show (_ ∨ _) ∨ _ ↔ _ ∨ (j = k ∨ _) ∧ _
      constructor
      · rintro ((z | ⟨z1, z2⟩) | ⟨z1, z2⟩)
        · exact .inl z
        · exact .inr ⟨.inl z1, z2⟩
        · exact .inr ⟨.inr z1, z2⟩
      · rintro (z | ⟨z1 | z1, z2⟩)
        · exact .inl (.inl z)
        · exact .inl (.inr ⟨z1, z2⟩)
        · exact .inr ⟨z1, z2⟩
    refine wpAny_bind (wpAny_bind (wpAny_holding ?_))
    refine wpAny_bind (wpAny_setFind_of (knd := intKind P w) (k := k) (intKind_is P w k tk) rfl Rc1.setOf fun r hr => ?_)
    rw [hr]
    cases hT : T k with
    | true =>
      refine wp_if_pos rfl ?_
      refine wpAny_bind (setR_add_hashed (P := P) (k := k) (tk := tk) R (by omega) fun h' sb' R' => ?_)
      refine wpAny_pure (go h' _ _ (sb.trans sb') R' (by split <;> omega) (fun j => ?_) _ rfl)
      rw [Bool.or_eq_true, decide_eq_true_eq]
      exact ⟨fun h => h.elim .inl fun e => .inr ⟨e, by rw [e]; exact hT⟩, fun h => h.elim .inl fun h => .inr h.1⟩
    | false =>
      refine wp_if_neg (by decide) ?_
      refine wpAny_pure (go s1.heap S1 n1 sb R (by omega) (fun j => ⟨.inl, fun h => h.elim _root_.id fun h => ?_⟩) _ rfl)
      rw [h.1, hT] at h
      cases h.2
theorem and_at {S T : Int → Bool} {n m : Nat} {Q : Value → Shared → Prop} (R : SetR w s.heap a S n) (R2 : SetR w s.heap b T m) (ne : a ≠ b)
    (hQ : ∀ h' d S' n', (∀ c u, s.heap.get? c = some u → h'.get? c = some u) → SetR w h' s.heap.objs.size S' n' → (∀ k, S' k = true ↔ S k = true ∧ T k = true) → Q (.ref s.heap.objs.size) { s with heap := h', drawn := d }) (hb0 : n < 2000) (hb1 : m < 2000) :
    wpAny (model P w) A (binaryOp .BitAnd (.ref a) (.ref b)) Q E s := by
  refine wpAny_binaryOp_same (op := .BitAnd) (setR_type R) (setR_type R2) F.fills_set_and F.slot_set_and ?_
  refine wpAny_call_entry F.slot_set_and (setR_type R) entry_set_and ?_ (F.args_set_and_2 _ _)
  unfold Builtin.«frozenset.__and__»
  wp_delta
  unfold Builtin.Frozenset.slot1 slotArgs
  simp only [List.isEmpty_nil, Bool.not_true, Bool.false_eq_true, ↓reduceIte, bind_assoc, List.length_cons, List.length_nil, bne_self_eq_false, pure_bind]
  unfold andM
  refine wpAny_bind (wpAny_bind (isAny_at R ?_))
  refine isAny_at R2 ?_
  refine wp_if_neg (by decide) ?_
  try refine wpAny_bind (wpAny_pure ?_)
  refine wpAny_bind ?_
  unfold Builtin.Frozenset.intersection
  have neb : b ≠ a := fun e => ne e.symm
  refine wp_if_neg (by simpa using neb) ?_
  try refine wpAny_bind (wpAny_pure ?_)
  unfold Builtin.Frozenset.baseOf
  refine wpAny_bind (wpAny_bind (wpAny_isInstance (setR_type R) sub_set_self (wpAny_pure ?_)))
  rw [if_pos rfl]
  unfold newSet
  refine wpAny_bind (wpAny_bind (wpAny_byText ?_))
  dsimp only
  refine wpAny_newObj_type ?_
  have hg : (s.heap.push (frO w)).get? s.heap.objs.size = some (frO w) := Heap.get?_push_size _ rfl
  have kp : ∀ c u, s.heap.get? c = some u → (s.heap.push (frO w)).get? c = some u := fun c u e => Heap.get?_push_of_some _ e
  have R' := R.at (kp a)
  have R2' := R2.at (kp b)
  have na : a ≠ s.heap.objs.size := Nat.ne_of_lt R.lt
  have nb : b ≠ s.heap.objs.size := Nat.ne_of_lt R2.lt
  have Rn : SetR w (s.heap.push (frO w)) s.heap.objs.size (fun _ => false) 0 := sst_setR hg (fr_sst w) (fun k => by simp) rfl
  refine wpAny_bind (m := Builtin.Frozenset.addrOf _) (wpAny_pure ?_)
  refine wpAny_bind (wpAny_holding ?_)
  refine wpAny_bind (isAny_at (s := { s with heap := s.heap.push (frO w) }) R2' ?_)
  refine wp_if_pos rfl ?_
  refine wpAny_bind (m := Builtin.Frozenset.addrOf _) (wpAny_pure ?_)
  obtain ⟨o1, es1, ep1, t1, ho1, x1, hm1, hn1⟩ := sst_of R'
  obtain ⟨o2, es2, ep2, t2, ho2, x2, hm2, hn2⟩ := sst_of R2'
  unfold Builtin.Frozenset.sizeOf
  refine wpAny_bind (wpAny_bind (ent_at (s := { s with heap := s.heap.push (frO w) }) ho2 x2 (wpAny_pure ?_)))
  refine wpAny_bind (wpAny_bind (ent_at (s := { s with heap := s.heap.push (frO w) }) ho1 x1 (wpAny_pure ?_)))
  have back : ∀ h' d S' n', Heap.SameBut s.heap.objs.size (s.heap.push (frO w)) h' → SetR w h' s.heap.objs.size S' n' → (∀ k, S' k = true ↔ S k = true ∧ T k = true) →
      wpAny (model P w) A.in1 (pure (Value.ref s.heap.objs.size)) (fun a s' => wpAny (model P w) A.in1 (ret a) (fun fin s' => ∃ v, fin = Fin.done (Flow.ret v) ∧ v ≠ Value.notImplemented ∧ Q v s') E s') E { s with heap := h', drawn := d } := fun h' d S' n' sb R' e => by
    refine wpAny_pure (wpAny_pure ⟨_, rfl, by simp, hQ h' d S' n' (fun c u e => ?_) R' e⟩)
    rw [sb.2 c (Nat.ne_of_lt (Heap.lt_size e))]
    exact kp c u e
  by_cases hgt : es2.size > es1.size
  · rw [if_pos hgt]
    dsimp only
    refine wpAny_bind (wpAny_setEpoch_of (s := { s with heap := s.heap.push (frO w) }) ho1 x1.data x1.fits ?_)
    refine wpAny_bind (unseen_at (s := { s with heap := s.heap.push (frO w) }) ho1 x1 (fun c hc => ?_) Rn fun out h2 d pm sb R3 => ?_)
    · rcases List.mem_cons.mp hc with z | z
      · rw [z]
        exact ⟨_, _, _, _, ho2, x2⟩
      · rw [List.mem_singleton.mp z]
        exact ⟨_, _, _, _, hg, fr_sst w⟩
    rw [← Array.forIn_toList]
    refine wpAny_bind ?_
    refine and_loop (ho0 := h2) ((sb.2 a na).trans ho1) x1 na (R2'.at fun u e => (sb.2 b nb).trans e) nb out.toList (fun e he => x1.good e (pm.mem_iff.mp he)) { s with heap := h2, drawn := d } _ 0 (Heap.SameBut.refl _ _) R3 ?_ fun h3 S' n' sb3 R4 h4 => ?_
    · rw [pm.length_eq, Array.length_toList]
      show _ < 4096
      omega
    · refine wpAny_pure (back h3 d S' n' (sb.trans sb3) R4 fun k => (h4 k).trans ?_)
      rw [(pm.map keyOf).mem_iff, ← hm1]
      simp
  · rw [if_neg hgt]
    dsimp only
    refine wpAny_bind (wpAny_setEpoch_of (s := { s with heap := s.heap.push (frO w) }) ho2 x2.data x2.fits ?_)
    refine wpAny_bind (unseen_at (s := { s with heap := s.heap.push (frO w) }) ho2 x2 (fun c hc => ?_) Rn fun out h2 d pm sb R3 => ?_)
    · rcases List.mem_cons.mp hc with z | z
      · rw [z]
        exact ⟨_, _, _, _, ho1, x1⟩
      · rw [List.mem_singleton.mp z]
        exact ⟨_, _, _, _, hg, fr_sst w⟩
    rw [← Array.forIn_toList]
    refine wpAny_bind ?_
    refine and_loop (ho0 := h2) ((sb.2 b nb).trans ho2) x2 nb (R'.at fun u e => (sb.2 a na).trans e) na out.toList (fun e he => x2.good e (pm.mem_iff.mp he)) { s with heap := h2, drawn := d } _ 0 (Heap.SameBut.refl _ _) R3 ?_ fun h3 S' n' sb3 R4 h4 => ?_
    · rw [pm.length_eq, Array.length_toList]
      show _ < 4096
      omega
    · refine wpAny_pure (back h3 d S' n' (sb.trans sb3) R4 fun k => (h4 k).trans ?_)
      rw [(pm.map keyOf).mem_iff, ← hm2]
      simp
      exact And.comm
end
/-! ### in the layer of the heap by data -/
def rSetOr (w : World) : V → V → Hp → VK → Prop := fun x y H Q => ∃ (a b : Addr) (S T : Int → Bool) (n m : Nat), x = V.ref a ∧ y = V.ref b ∧ a ≠ b ∧ H a = some (SetO w a S n) ∧ H b = some (SetO w b T m) ∧ SmS S ∧ SmS T ∧
  ∀ p S' n', H p = none → n' ≤ 8 → (∀ k, S' k = true ↔ S k = true ∨ T k = true) → Q (.ref p) (upd H p (SetO w p S' n'))
def rSetAnd (w : World) : V → V → Hp → VK → Prop := fun x y H Q => ∃ (a b : Addr) (S T : Int → Bool) (n m : Nat), x = V.ref a ∧ y = V.ref b ∧ a ≠ b ∧ H a = some (SetO w a S n) ∧ H b = some (SetO w b T m) ∧ n < 2000 ∧ m < 2000 ∧ SmS S ∧
  ∀ p S' n', H p = none → n' ≤ 8 → (∀ k, S' k = true ↔ S k = true ∧ T k = true) → Q (.ref p) (upd H p (SetO w p S' n'))
section
variable {X : Cx}
theorem setR_le8 {w : World} {h : Heap} {p : Addr} {S : Int → Bool} {n : Nat} (R : SetR w h p S n) (sm : SmS S) : n ≤ 8 := by
  obtain ⟨o, es, ep, t, ho, x, hm, hn⟩ := sst_of R
  rw [← hn]
  exact sst_small x hm sm
theorem or_setOr : OpR X (binaryOp .BitOr) (rSetOr X.w) := by
  intro pins s σ H x y v u Q I rx ry h
  obtain ⟨a, b, S, T, n, m, rfl, rfl, ne, ha, hb, sm, smT, q⟩ := h
  cases rx
  cases ry
  refine or_at (setO_get I ha) (setO_get I hb) ne sm smT fun h' d S' n' kp R e => ?_
  have hn := I.hok.fresh (Nat.le_refl s.heap.objs.size)
  have J : Inv X pins σ (upd H s.heap.objs.size (SetO X.w s.heap.objs.size S' n')) { s with heap := h', drawn := d } :=
    I.call (ch := []) (Un.laid kp (Nat.le_refl _) hn) (I.hok.laid kp (Nat.le_refl _) (setO_new R)) I.bare (fun _ z => nomatch z)
  refine ⟨.ref _, _, J, rfl, q _ S' n' hn (setR_le8 R fun k hk => ?_) e⟩
  exact ((e k).mp hk).elim (sm k) (smT k)
theorem or_setAnd : OpR X (binaryOp .BitAnd) (rSetAnd X.w) := by
  intro pins s σ H x y v u Q I rx ry h
  obtain ⟨a, b, S, T, n, m, rfl, rfl, ne, ha, hb, h1, h2, sm, q⟩ := h
  cases rx
  cases ry
  refine and_at (setO_get I ha) (setO_get I hb) ne (fun h' d S' n' kp R e => ?_) h1 h2
  have hn := I.hok.fresh (Nat.le_refl s.heap.objs.size)
  have J : Inv X pins σ (upd H s.heap.objs.size (SetO X.w s.heap.objs.size S' n')) { s with heap := h', drawn := d } :=
    I.call (ch := []) (Un.laid kp (Nat.le_refl _) hn) (I.hok.laid kp (Nat.le_refl _) (setO_new R)) I.bare (fun _ z => nomatch z)
  refine ⟨.ref _, _, J, rfl, q _ S' n' hn (setR_le8 R fun k hk => ?_) e⟩
  exact sm k ((e k).mp hk).1
end
end Zm


set_option Elab.async false
set_option linter.all false
set_option maxRecDepth 100000
set_option maxHeartbeats 4000000
set_option autoImplicit false
namespace Zm
open PySem PySem.Spec L2 PyProof.Rows
/-! ### set(ns), ns a list of ints -/
section
variable {P : Program} {w : World} {A : Around} {E : Value → Shared → Prop} {s : Shared}
/-- filling a new set from a list -/
theorem fill_list {l : Addr} {items : Array Value} {ns : List Int} {h1 : Heap} {p : Addr} {id : String} {Q : Unit → Shared → Prop} (hh : A.handled = none) (hp : h1.get? p = some (frO w)) (ne : l ≠ p) (hl : h1.IsList l items) (hi : IntsAre items.toList ns) (hb : ns.length + 1 < scanBound)
    (hs : s.heap = h1) (h : ∀ (h' : Heap) (tk c : Nat), SetR w h' p (fun j => decide (j ∈ ns)) c → c ≤ ns.length → (∀ b o, b ≠ p → h1.get? b = some o → h'.get? b = some o) → Q () { s with heap := h', toks := tk }) :
    wpAny (model P w) A (Builtin.Frozenset.updateFrom id p (.ref l)) Q E s := by
  subst hs
  have hz : items.size = ns.length := by
    have q := IntsAre.length hi
    rwa [Array.length_toList] at q
  have hl0 := hl
  obtain ⟨o, ho, hc, n, hd⟩ := hl
  have hT : s.TypeIs (.ref l) "list" := ⟨o, ho, hc⟩
  have lts := Heap.lt_size ho
  have ltp := Heap.lt_size hp
  unfold Builtin.Frozenset.updateFrom Builtin.Frozenset.isAnySet orM
  refine wpAny_bind (wpAny_bind (wpAny_isInstance hT F.sub_list_set ?_))
  refine wpAny_isInstance hT F.sub_list_frozenset ?_
  refine wp_if_neg (by decide) ?_
  try refine wpAny_bind (wpAny_pure ?_)
  refine wpAny_bind (wpAny_typeOf hT ?_)
  refine wp_if_neg (by decide) ?_
  try refine wpAny_bind (wpAny_pure ?_)
  refine wpAny_bind (wpAny_pyIter_list hl0 ?_)
  refine wpAny_bind (wpAny_runValue ?_)
  have hI : l ≠ s.heap.objs.size := Nat.ne_of_lt lts
  have hpI : p ≠ s.heap.objs.size := Nat.ne_of_lt ltp
  refine set_update_ints ((Walks.list (A := A.in1) (by simp [hh]) _ l hI items).toS) p (by simp [hpI, Ne.symm ne]) ns hz hb (fun i v hv => ?_) (items.size - 0) 0 _ (by omega) (Nat.zero_le _)
    ?_ ⟨0, Nat.le_refl 0, ?_⟩ fun s' c hm hc hS => ?_
  · have hin : i < ns.length := by rw [← hz]; exact (Array.getElem?_eq_some_iff.mp hv).1
    obtain ⟨t, e⟩ := IntsAre.int_at hi i v (by rw [Array.getElem?_toList]; exact hv)
    refine ⟨ns[i], t, List.getElem?_eq_getElem hin, ?_⟩
    rw [e, List.getD_eq_getElem?_getD, List.getElem?_eq_getElem hin] <;> rfl
  · exact ⟨⟨_, Heap.get?_push_size _ rfl, rfl, rfl⟩, hl0.push _⟩
  · exact setR_new_at (Heap.get?_push_of_some _ hp)
  · obtain ⟨h', g2, d', tk', os'⟩ := s'
    obtain rfl : g2 = s.gens := hm.gens
    obtain rfl : d' = s.drawn := hm.drawn
    obtain rfl : os' = s.os := hm.os
    refine wpAny_pure ?_
    refine h h' tk' c hS (by omega) fun b u nb e => ?_
    exact hm.heap b u (by simp [nb, Nat.ne_of_lt (Heap.lt_size e)]) (Heap.get?_push_of_some _ e)
theorem setR_list {l : Addr} {items : Array Value} {ns : List Int} {Q : Value → Shared → Prop} (hh : A.handled = none) (hl : s.heap.IsList l items) (hi : IntsAre items.toList ns) (hb : ns.length + 1 < scanBound)
    (h : ∀ (h' : Heap) (tk c : Nat), SetR w h' s.heap.objs.size (fun j => decide (j ∈ ns)) c → c ≤ ns.length → (∀ b o, s.heap.get? b = some o → h'.get? b = some o) → Q (.ref s.heap.objs.size) { s with heap := h', toks := tk }) :
    wpAny (model P w) A (call (.type "set") [.ref l]) Q E s := by
  have lts : l < s.heap.objs.size := by
    obtain ⟨o, ho, _⟩ := hl
    exact Heap.lt_size ho
  have hg : (s.heap.push (frO w)).get? s.heap.objs.size = some (frO w) := Heap.get?_push_size _ rfl
  have hT : Shared.TypeIs { s with heap := s.heap.push (frO w) } (.ref s.heap.objs.size) "set" := ⟨_, hg, rfl⟩
  have hl2 : (s.heap.push (frO w)).IsList l items := hl.push _
  have C := F.called_set
  obtain ⟨c, tl, hmro⟩ := C.mro
  have m1 := C.made
  have m2 := C.sub
  have m3 := C.notType
  have m4 := C.canCreate
  have m5 := F.typeCall_set_1 (.ref l)
  have m6 := C.init.lookup
  have m7 := C.init.bind (.ref s.heap.objs.size)
  refine wpAny_call (codeAny_of_tree (wpAny_pure ⟨Code.quiet_builtin _ (by decide +kernel), codeAny_builtin F.entry_type_call ?_⟩))
  rw [Around.under_plain (weight_type_call_type "set" [.ref l] []) rfl]
  repeat (any_goals (first | assumption | wp_step))
  refine codeAny_mono (code_set_led1 (.ref l) (E := E) (Q₁ := fun v s1 => v = .ref s.heap.objs.size ∧ s1 = { s with heap := s.heap.push (frO w) }) ⟨rfl, rfl⟩) ?_
  rintro (e | f) s1 hr
  · exact hr
  cases f with
  | ret v =>
    obtain ⟨rfl, rfl⟩ := hr
    repeat (any_goals (first | assumption | wp_step))
    refine codeAny_mono (codeAny_call_builtin (R := wants (fun v s2 => v = .none ∧ ∃ h' tk c, s2 = { s with heap := h', toks := tk } ∧ SetR w h' s.heap.objs.size (fun j => decide (j ∈ ns)) c ∧ c ≤ ns.length ∧ (∀ b o, s.heap.get? b = some o → h'.get? b = some o)) E)
      C.init.plain F.entry_set_init (check_set_init_1 hT ?_)) ?_
    · unfold Builtin.«set.__init__» noKeywords
      generalize hU : Builtin.Frozenset.updateFrom = U
      wp_walk
      subst hU
      refine fill_list (by simp [hh]) hg (Nat.ne_of_lt lts) hl2 hi hb rfl fun h' tk c hS hc hk => ?_
      exact wpAny_pure ⟨rfl, h', tk, c, rfl, hS, hc, fun b o e => hk b o (Nat.ne_of_lt (Heap.lt_size e)) (Heap.get?_push_of_some _ e)⟩
    · rintro (e | f) s2 hr
      · exact hr
      cases f with
      | ret v =>
        obtain ⟨rfl, h', tk, c, rfl, hS, hc, hk⟩ := hr
        refine wpAny_pure ?_
        refine wp_if_neg (by decide) ?_
        exact wpAny_pure (h h' tk c hS hc hk)
      | _ => exact hr.elim
  | _ => exact hr.elim
end
end Zm


set_option Elab.async false
set_option linter.all false
set_option maxRecDepth 100000
set_option maxHeartbeats 4000000
set_option autoImplicit false
namespace Zm
open PySem PySem.Spec L2 PyProof.Rows
/-! in the layers -/
def rSetL (K : PySem.W.Frag) (w : World) : List V → Hp → VK → Prop := fun vs H Q => ∃ (a : Addr) (ns : List Int), vs = [V.ref a] ∧ SqL K H a (ns.map V.int) ∧ ns.length < 2000 ∧
  ∀ p c, H p = none → c ≤ ns.length → Q (.ref p) (upd H p (SetO w p (fun j => decide (j ∈ ns)) c))
theorem cr_setL {X : Cx} (hc : X.calm = true := by rfl) : CallR X (.type "set") (rSetL X.K X.w) := by
  intro pins s σ H vs us Q I r h
  obtain ⟨a, ns, rfl, hs, hl, q⟩ := h
  obtain ⟨its, rv, pl, hz⟩ := I.list hs
  rw [Vals.ref1 r]
  refine setR_list (I.ok.hd hc) pl.isList (by simpa using ints_of_vals rv) (by show _ < 4096; omega) fun h' tk c R hc kp => ?_
  have hn := I.hok.fresh (Nat.le_refl s.heap.objs.size)
  exact ⟨.ref _, upd H s.heap.objs.size (SetO X.w s.heap.objs.size (fun j => decide (j ∈ ns)) c), I.laid (t' := tk) kp (Nat.le_refl _) (setO_new R), rfl, q _ c hn hc⟩
section
variable {X : Cx} {e : Expr} {es : List Expr} {t : TA} {p pos : Pos}
theorem c_setL {K : PySem.W.Frag} (b : BFree X.mg) (ha : PA X (e :: es) t) (hg : Gl X "set" := by rfl) (hc : X.calm = true := by rfl) (hK : X.K = K := by rfl)
    (he : starEach (e :: es) X.env = (false, eval e X.env) :: starEach es X.env := by rfl) (hpl : (backTo pos (starEach es X.env)).any (·.1) = false := by rfl) :
    PE X (.Call (.Name "set" p) (e :: es) [] pos) (tCB (rSetL K X.w) t) := by
  subst hK
  exact pe_callTy (cr_setL hc) hg (b _ (by decide)) (by decide +kernel) ha (he := he) (hpl := hpl)
end
/-! sorted(set(ns) | set(ms)) -/
section
variable {K : PySem.W.Frag} {C : Addr} {w : World} {δ : Dl} {t1 t2 : TE} {ns ms ks : List Int}
theorem smS_mem (h : ∀ x ∈ ns, Sm x) : SmS (fun j => decide (j ∈ ns)) := fun k hk => h k (of_decide_eq_true hk)
/-- two sets of lists -/
theorem two_sets (h1 : EvD K C t1 δ (.lst (dI ns))) (h2 : EvD K C t2 δ (.lst (dI ms))) (l1 : ns.length < 2000) (l2 : ms.length < 2000) {O : Addr → Bool} {σ : L2.St} {H : Hp} (n : At K C O H σ δ) {r : V → V → Hp → VK → Prop} {Q : VK}
    (q : ∀ p1 p2 c1 c2 H', Same H H' → p1 ≠ p2 → c1 ≤ ns.length → c2 ≤ ms.length → H' p1 = some (SetO w p1 (fun j => decide (j ∈ ns)) c1) → H' p2 = some (SetO w p2 (fun j => decide (j ∈ ms)) c2) → r (.ref p1) (.ref p2) H' Q) :
    tOp r (tCB (rSetL K w) (tCons t1 tNil)) (tCB (rSetL K w) (tCons t2 tNil)) σ H Q := by
  refine h1 O σ H n _ fun v1 H1 s1 d1 => ?_
  obtain ⟨a, xs, rfl, e1, e2⟩ := dat_lst_iff.mp d1
  rw [dats_ints.mp e2] at e1
  refine ⟨a, ns, rfl, sqL_of e1, l1, fun p1 c1 f1 k1 => ?_⟩
  refine h2 O σ _ (n.same (s1.trans (same_new f1))) _ fun v2 H2 s2 d2 => ?_
  obtain ⟨b, ys, rfl, e3, e4⟩ := dat_lst_iff.mp d2
  rw [dats_ints.mp e4] at e3
  refine ⟨b, ms, rfl, sqL_of e3, l2, fun p2 c2 f2 k2 => ?_⟩
  have g1 := s2 _ _ (upd_same (H := H1) (a := p1))
  have ne : p1 ≠ p2 := ne_of_none g1 f2
  exact q p1 p2 c1 c2 _ (((s1.trans (same_new f1)).trans s2).trans (same_new f2)) ne k1 k2 (by rw [upd_ne ne]; exact g1) upd_same
theorem sort_set {O : Addr → Bool} {σ : L2.St} {H H' : Hp} (n : At K C O H σ δ) (s : Same H H') {p : Addr} {S : Int → Bool} {m : Nat} (hp : H' p = some (SetO w p S m)) (hm : m ≤ 8) (ha : ks.Pairwise (· < ·)) (hk : ∀ x, x ∈ ks ↔ S x = true) {Q : VK}
    (q : ∀ p H', Same H H' → H p = none → Dat K C (hid O H') (.lst (dI ks)) (.ref p) → Q (.ref p) H') : rSortedSet w [.ref p] H' Q := by
  refine ⟨p, S, m, rfl, hp, by omega, fun ns' l k1 k2 k3 fr => ?_⟩
  obtain rfl : ns' = ks := lt_eq k1 ha fun x => by rw [k2, hk]
  exact q l _ (s.trans (same_new fr)) (back_none s fr) (new_lst (n.own.same s) fr (dats_ints.mpr rfl))
theorem en_setOr (h1 : EvD K C t1 δ (.lst (dI ns))) (h2 : EvD K C t2 δ (.lst (dI ms))) (s1 : ∀ x ∈ ns, Sm x) (s2 : ∀ x ∈ ms, Sm x) (l1 : ns.length < 2000) (l2 : ms.length < 2000) (ha : ks.Pairwise (· < ·)) (hk : ∀ x, x ∈ ks ↔ x ∈ ns ∨ x ∈ ms) :
    EvN K C (tCB (rSortedSet w) (tCons (tOp (rSetOr w) (tCB (rSetL K w) (tCons t1 tNil)) (tCB (rSetL K w) (tCons t2 tNil))) tNil)) δ (.lst (dI ks)) := fun O σ H n Q q =>
  two_sets h1 h2 l1 l2 n fun p1 p2 c1 c2 H' s ne k1 k2 g1 g2 => ⟨p1, p2, _, _, c1, c2, rfl, rfl, ne, g1, g2, smS_mem s1, smS_mem s2, fun p S' n' f b e =>
    sort_set n (s.trans (same_new f)) upd_same b ha (fun x => by rw [hk, e, decide_eq_true_eq, decide_eq_true_eq]) q⟩
theorem en_setAnd (h1 : EvD K C t1 δ (.lst (dI ns))) (h2 : EvD K C t2 δ (.lst (dI ms))) (s1 : ∀ x ∈ ns, Sm x) (l1 : ns.length < 2000) (l2 : ms.length < 2000) (ha : ks.Pairwise (· < ·)) (hk : ∀ x, x ∈ ks ↔ x ∈ ns ∧ x ∈ ms) :
    EvN K C (tCB (rSortedSet w) (tCons (tOp (rSetAnd w) (tCB (rSetL K w) (tCons t1 tNil)) (tCB (rSetL K w) (tCons t2 tNil))) tNil)) δ (.lst (dI ks)) := fun O σ H n Q q =>
  two_sets h1 h2 l1 l2 n fun p1 p2 c1 c2 H' s ne k1 k2 g1 g2 => ⟨p1, p2, _, _, c1, c2, rfl, rfl, ne, g1, g2, by omega, by omega, smS_mem s1, fun p S' n' f b e =>
    sort_set n (s.trans (same_new f)) upd_same b ha (fun x => by rw [hk, e, decide_eq_true_eq, decide_eq_true_eq]) q⟩
end
end Zm


set_option Elab.async false
set_option linter.all false
set_option maxRecDepth 100000
set_option maxHeartbeats 4000000
set_option autoImplicit false
namespace Zm
open PySem PySem.Spec L2

/-! ### a dict that grows -/
def rUpd : V → List V → Hp → VK → Prop := fun x vs H Q => ∃ a b kvs more, x = V.ref a ∧ vs = [V.ref b] ∧ a ≠ b ∧ H a = some (.dK kvs) ∧ H b = some (.dK more) ∧ kvs.length + more.length ≤ sizeLine ∧ Q .non (upd H a (.dK (mergeK kvs more)))
theorem mt_upd {X : Cx} : MtR X "dict.update" rUpd := by
  intro pins s σ H x vs v us Q I rx rv h
  obtain ⟨a, b, kvs, more, rfl, rfl, ne, ha, hb, hz, q⟩ := h
  cases rx
  obtain ⟨u, rfl, ru⟩ := rv.one
  cases ru
  obtain ⟨z1, m1, ps, r1, d1⟩ := I.hok a _ ha
  obtain ⟨z2, m2, qs, r2, d2⟩ := I.hok b _ hb
  refine call_meetsIn F.slot_dict_update d1.typeIs F.entry_dict_update (F.args_dict_update_2 _ _) (PySem.meets_dict_update (mixKind X.prog X.w) a b ne m2) ⟨ps, qs, d1, d2, by rw [← r1.length, ← r2.length]; exact hz, fun h' hd ho sb => ?_⟩
  have he : ∃ u, h'.get? a = some u := by
    obtain ⟨o, es, ep, ho, _⟩ := hd
    exact ⟨o, ho⟩
  exact ⟨.non, upd H a (.dK (mergeK kvs more)), I.write (e := a) (t' := s.toks) (by rw [ha]; trivial) (.inl rfl) (fun c u hc hu => (sb.2 c hc).trans hu) he ⟨Nat.le_trans (length_mergeK more kvs) hz, m1, _, KV.merge r2 r1, hd⟩, rfl, q⟩
section
variable (K : PySem.W.Frag) (C : Addr)
/-- a new dict that P tells -/
def WD (P : List (Key × D) → Prop) : WP := fun O H0 H v => ∃ a kws kvs, v = .ref a ∧ O a = true ∧ H0 a = none ∧ H a = some (.dK kws) ∧ DatK K C (hid O H) kvs kws ∧ P kvs
end
section
variable {K : PySem.W.Frag} {C : Addr} {E : EndP} {ts : TS} {δ : Dl} {i : Nat} {te : TE} {P P' : List (Key × D) → Prop} {more : List (Key × D)} {ns : List Int}
theorem ef_dic0 : EvF K C tDNewK δ (.dic []) := fun O σ H n Q q p hp => q (.ref p) _ (same_new hp) (dat_dic_iff.mpr ⟨p, [], rfl, by unfold hid dom; rw [hp]; exact upd_same, datK_nil.mpr rfl⟩)
theorem WD.of (hP : P []) {O : Addr → Bool} {H0 H : Hp} {v : V} (old : Old O H0 H) (h : Dat K C (hid (dom H0) H) (.dic []) v) : WD K C P O H0 H v := by
  obtain ⟨a, kws, rfl, h1, h2⟩ := dat_dic_iff.mp h
  obtain ⟨k1, k2⟩ := dom_none old.same h1 trivial
  rw [datK_nil.mp h2] at k2
  exact ⟨a, [], [], rfl, old.own a _ k1 k2 trivial, k1, k2, datK_nil.mpr rfl, hP⟩
theorem WD.same {O : Addr → Bool} {H0 H H' : Hp} {v : V} (s : Same H H') (h : WD K C P O H0 H v) : WD K C P O H0 H' v := by
  obtain ⟨a, kws, kvs, h1, h2, h3, h4, h5, h6⟩ := h
  exact ⟨a, kws, kvs, h1, h2, h3, s _ _ h4, DatK.same (same_hid s) _ _ h5, h6⟩
theorem WD.imp (hP : ∀ kvs, P kvs → P' kvs) {O : Addr → Bool} {H0 H : Hp} {v : V} (h : WD K C P O H0 H v) : WD K C P' O H0 H v := by
  obtain ⟨a, kws, kvs, h1, h2, h3, h4, h5, h6⟩ := h
  exact ⟨a, kws, kvs, h1, h2, h3, h4, h5, hP _ h6⟩
theorem DatK.len {H : Hp} {kvs : List (Key × D)} {kws : List (Key × V)} (h : DatK K C H kvs kws) : kws.length = kvs.length := by
  have := congrArg List.length h.keys
  rwa [List.length_map, List.length_map] at this
/-- d.update(e) -/
theorem swb_upd (h : EvD K C te δ (.dic more)) (hP : ∀ kvs, P kvs → P' (mergeD kvs more) ∧ kvs.length + more.length ≤ 100000) : StWB K C (tDrop (tBM K "dict" rUpd (tVar i) (tCons te tNil))) δ δ i (WD K C P) (WD K C P') := fun H0 O σ H s n1 hv Z q => by
  obtain ⟨v, hv, a, kws, kvs, rfl, k1, k2, k3, k4, k5⟩ := hv
  refine ⟨.ref a, hv, .inr (.inr (.inl ⟨rfl, .inl ⟨kws, k3⟩⟩)), h O σ H n1 _ fun w H1 s1 d1 => ?_⟩
  obtain ⟨b, ms, rfl, m1, m2⟩ := dat_dic_iff.mp d1
  have ne : a ≠ b := fun z => by
    subst z
    unfold hid at m1
    rw [if_pos k1] at m1
    cases m1
  obtain ⟨p1, p2⟩ := hP kvs k5
  have g4 := DatK.same (same_hid (O := O) s1) _ _ k4
  refine ⟨a, b, kws, ms, rfl, rfl, ne, s1 _ _ k3, hid_same _ _ m1, by rw [k4.len, m2.len]; exact Nat.le_trans p2 (by decide), ?_⟩
  have e1 : hid O (upd H1 a (.dK (mergeK kws ms))) = hid O H1 := hid_upd k1
  exact q _ _ (same_mut (s.trans s1) k2) (by rw [e1]; exact same_hid s1) ((n1.same s1).grow k1) ⟨.ref a, hv, a, _, mergeD kvs more, rfl, k1, k2, upd_same, by rw [e1]; exact DatK.merge m2 g4, p1⟩
/-- return sorted(d) -/
theorem sw_retSorted (hP : ∀ kvs, P kvs → ∃ ks : List Int, kvs.map (·.1) = ks.map Sum.inl ∧ ks.length < 64 ∧ srt ks = ns) : StW K C (EndR K C (.lst (dI ns))) (tRet (tCB (fun xs H Q => ∃ (a : Addr) (kvs : List (Key × V)) (ks : List Int), xs = [V.ref a] ∧ Rd H a (.dK kvs) ∧ kvs.map (·.1) = ks.map Sum.inl ∧ ks.length < 64 ∧
    ∀ (ys : List Int) (p : Addr), ys.Perm ks → ys.Pairwise (· ≤ ·) → H p = none → Q (.ref p) (upd H p (.lst (ys.map V.int)))) (tCons (tVar i) tNil))) δ i (WD K C P) := fun O0 H0 O σ H so o s n1 hv Z q => by
  obtain ⟨v, hv, a, kws, kvs, rfl, k1, k2, k3, k4, k5⟩ := hv
  obtain ⟨ks, e1, e2, e3⟩ := hP kvs k5
  refine ⟨.ref a, hv, a, kws, ks, rfl, .inl k3, by rw [k4.keys, e1], e2, fun ys p hp hs hn => ?_⟩
  have e : ys = ns := by
    rw [← e3]
    exact perm_le_eq (hp.trans (srt_perm ks).symm) hs (srt_le ks)
  subst e
  exact q _ _ (s.trans (same_new hn)) (new_lst (o.same s) hn (dats_ints.mpr rfl))
end
end Zm


set_option Elab.async false
set_option linter.all false
set_option maxRecDepth 100000
set_option maxHeartbeats 4000000
set_option autoImplicit false
namespace Zm
open PySem PySem.Spec L2
/-! ### comprehensions over a dict, which is locked meanwhile -/
section
variable {K : PySem.W.Frag} {C : Addr} {δ : Dl}
theorem lc_lock {O : Addr → Bool} {σ : L2.St} {H : Hp} (n : At K C O H σ δ) {i k : Nat} {a : Addr} {kws : List (Key × V)} (hσ : σ[i]? = some (some (.ref a))) (ha : H a = some (.dK kws)) (hl : kws.length ≤ 100000) {te : TE} {f : Nat → D} {Q : VK}
    (hE : ∀ (j : Nat) (kv : Key × V), kws[j]? = some kv → ∀ od O' H', Same (upd H a (.frz od (.dK kws))) H' → OIn O' H' → (∀ b, O b = true → O' b = true) → O' a = true →
      ∀ Q' : VK, (∀ v H'', Same H' H'' → Dat K C (hid O' H'') (f j) v → Q' v H'') → te ((L2.wipe σ [k]).set k (some (kV kv.1))) H' Q')
    (q : ∀ p H', Same H H' → H p = none → Dat K C (hid O H') (.lst ((List.range kws.length).map f)) (.ref p) → Q (.ref p) H') : tLockE (tLc (iKeys (tVar i)) (gName k) tYes te [k]) σ H Q := by
  refine ⟨a, .dK kws, ha, trivial, fun od => ?_⟩
  refine ⟨.ref a, hσ, a, od, rfl, .inl ⟨kws, upd_same, fun D hD => ?_⟩⟩
  have aD : a ≠ D := ne_of_none upd_same hD
  have hDn : H D = none := by rw [upd_ne (Ne.symm aD)] at hD; exact hD
  have oO' : ∀ {b}, (addO (addO O a) D) b = true ↔ O b = true ∨ b = a ∨ b = D := fun {b} => by
    unfold addO
    rw [Bool.or_eq_true, Bool.or_eq_true, decide_eq_true_eq, decide_eq_true_eq, or_assoc]
  have ow : ∀ (H2 : Hp) (acc : List V), Same (upd H a (.frz od (.dK kws))) H2 → H2 D = some (.lst acc) → OIn (addO (addO O a) D) H2 := by
    intro H2 acc s hd
    have fa := s _ _ (upd_same (H := H) (a := a) (o := .frz od (.dK kws)))
    refine ⟨fun b hb => ?_, fun b u hb hu => ?_⟩
    · rcases oO'.mp hb with h | h | h
      · by_cases e : b = a
        · rw [e, fa]
          exact fun z => by cases z
        · intro z
          have := n.own b h
          cases hb2 : H b with
          | none => exact this hb2
          | some u =>
            have := s b u (by rw [upd_ne e]; exact hb2)
            rw [z] at this
            cases this
      · rw [h, fa]
        exact fun z => by cases z
      · rw [h, hd]
        exact fun z => by cases z
    · rcases oO'.mp hb with h | h | h
      · by_cases e : b = a
        · rw [e, fa] at hu
          rw [← Option.some.inj hu]
          trivial
        · have := n.own b h
          cases hb2 : H b with
          | none => exact absurd hb2 this
          | some u2 =>
            have e2 := s b u2 (by rw [upd_ne e]; exact hb2)
            rw [hu] at e2
            rw [Option.some.inj e2]
            exact n.own.nt b u2 h hb2
      · rw [h, fa] at hu
        rw [← Option.some.inj hu]
        trivial
      · rw [h, hd] at hu
        rw [← Option.some.inj hu]
        trivial
  refine ⟨fun j m H2 => m = kws.length - j ∧ j ≤ kws.length ∧ Same (upd H a (.frz od (.dK kws))) H2 ∧ ∃ acc, H2 D = some (.lst acc) ∧ Dats K C (hid (addO (addO O a) D) H2) ((List.range j).map f) acc, ⟨kws.length, by omega, Nat.zero_le _, same_new hD, [], upd_same, .nil⟩, ?_⟩
  rintro j m H2 ⟨rfl, hj, s2, acc, hacc, dacc⟩
  have fa2 := s2 _ _ (upd_same (H := H) (a := a) (o := .frz od (.dK kws)))
  have o2 := ow H2 _ s2 hacc
  by_cases hlt : j < kws.length
  · have hkv : kws[j]? = some kws[j] := List.getElem?_eq_getElem hlt
    refine .inr ⟨⟨fa2, hlt⟩, fun H3 => j + 1 ≤ kws.length ∧ Same (upd H a (.frz od (.dK kws))) H3 ∧ ∃ acc, H3 D = some (.lst acc) ∧ Dats K C (hid (addO (addO O a) D) H3) ((List.range (j + 1)).map f) acc, fun H' hN => ⟨_, by omega, rfl, hN⟩, ?_⟩
    rintro x H3 ⟨rfl, ky, v, e1, rfl⟩
    rw [hkv] at e1
    refine ⟨?_, ?_⟩
    · show ((σ.set k none).set k (some (kV ky))).set k none = σ.set k none
      rw [List.set_set, List.set_set]
    · unfold tYes
      refine iteT ?_
      have ek : ky = (kws[j]).1 := by rw [Option.some.inj e1]
      rw [ek]
      refine hE j _ hkv od _ _ s2 o2 (fun b hb => oO'.mpr (.inl hb)) (oO'.mpr (.inr (.inl rfl))) _ fun y H4 s4 d4 => ?_
      have l1 : acc.length = j := by rw [dacc.length, List.length_map, List.length_range]
      refine ⟨acc, s4 _ _ hacc, Nat.lt_of_lt_of_le (by omega : acc.length < 100001) (by decide), hlt, same_mut (s2.trans s4) hD, _, upd_same, ?_⟩
      rw [add_upd, List.range_succ, List.map_append]
      exact (dacc.same (same_hid s4)).append (.one d4)
  · have e : j = kws.length := by omega
    subst e
    refine .inl ⟨⟨fa2, Nat.le_refl _⟩, fa2, ?_⟩
    refine q D _ (fun b u hb => ?_) hDn ?_
    · by_cases e : b = a
      · subst e
        rw [upd_same, ← ha]
        exact hb
      · rw [upd_ne e]
        exact s2 b u (by rw [upd_ne e]; exact hb)
    · refine dat_lst_iff.mpr ⟨D, acc, rfl, ?_, dacc.same fun b u hb => ?_⟩
      · unfold hid
        rw [if_neg (fun z => n.own D z hDn), upd_ne (Ne.symm aD)]
        exact hacc
      · unfold hid at hb ⊢
        by_cases hO : addO (addO O a) D b = true
        · rw [if_pos hO] at hb
          cases hb
        · rw [if_neg hO] at hb
          have h1 : ¬ O b = true := fun z => hO (oO'.mpr (.inl z))
          have h2 : b ≠ a := fun z => hO (oO'.mpr (.inr (.inl z)))
          rw [if_neg h1, upd_ne h2]
          exact hb
/-- list(d) -/
theorem rn_listK {kvs : List (Key × D)} : RCN K C rListD [.dic kvs] (.lst (kvs.map fun kv => keyV kv.1)) := fun O H vs o h Q q => by
  obtain ⟨x, rfl, hx⟩ := dats_one.mp h
  obtain ⟨a, kws, rfl, h1, h2⟩ := dat_dic_iff.mp hx
  refine ⟨a, kws, rfl, hid_same _ _ h1, fun p hp => q p _ (same_new hp) hp (new_lst o hp ?_)⟩
  have e : ∀ {kvs : List (Key × D)} {kws : List (Key × V)}, kws.map (·.1) = kvs.map (·.1) → Dats K C (hid O H) (kvs.map fun kv => keyV kv.1) (kws.map fun kv => kV kv.1) := by
    intro kvs
    induction kvs with
    | nil =>
      intro kws e
      rw [List.map_eq_nil_iff.mp e]
      exact .nil
    | cons kv kvs ih =>
      intro kws e
      cases kws with
      | nil => cases e
      | cons kw kws =>
        have e1 : kw.1 = kv.1 := (List.cons.inj e).1
        exact .cons (dat_key.mpr (by show kV kw.1 = kV kv.1; rw [e1])) (ih (List.cons.inj e).2)
  exact e h2.keys
def OneI (kvs : List (Key × D)) : Prop := kvs = [] ∨ ∃ i j : Int, kvs = [(Sum.inl i, .int j)]
theorem one_get {H : Hp} {kvs : List (Key × D)} {kws : List (Key × V)} (h : DatK K C H kvs kws) (o : OneI kvs) : (kvs = [] ∧ kws = []) ∨ ∃ i v : Int, kws = [(Sum.inl i, V.int v)] ∧ kvs = [(Sum.inl i, .int v)] ∧ valV kws (Sum.inl i) = some (.int v) := by
  rcases o with rfl | ⟨i, j, rfl⟩
  · exact .inl ⟨rfl, datK_nil.mp h⟩
  · obtain ⟨x, ys, rfl, h1, h2⟩ := datK_cons.mp h
    rw [datK_nil.mp h2, dat_int.mp h1]
    refine .inr ⟨i, j, rfl, rfl, ?_⟩
    unfold valV
    rw [List.find?_cons_of_pos (by simp)]
    rfl
theorem merge_one {kvs : List (Key × D)} (o : OneI kvs) : D.dic (mergeD [] kvs) = .dic kvs := by
  rcases o with rfl | ⟨i, j, rfl⟩ <;> rfl
theorem ef_dicI {te : TE} {kvs : List (Key × D)} (o : OneI kvs) (h : EvN K C te δ (.dic kvs)) : EvF K C te δ (.dic kvs) := fun O σ H n Q q => h O σ H n Q fun p H' s hp hd => by
  obtain ⟨a, kws, e, h1, dk⟩ := dat_dic_iff.mp hd
  cases e
  refine q _ _ s (dat_dic_iff.mpr ⟨p, kws, rfl, ?_, ?_⟩)
  · unfold hid dom
    rw [hp]
    exact hid_same _ _ h1
  · rcases one_get dk o with ⟨e, z⟩ | ⟨i, v, z, e, _⟩
    · rw [e, z]
      exact datK_nil.mpr rfl
    · rw [e, z]
      exact datK_cons.mpr ⟨_, _, rfl, dat_int.mpr rfl, datK_nil.mpr rfl⟩
end
section
variable {X : Cx} {e : Expr} {es : List Expr} {t : TA} {p pos : Pos}
theorem c_listK {K : PySem.W.Frag} (b : BFree X.mg) (ha : PA X (e :: es) t) (hg : Gl X "list" := by rfl) (hc : X.calm = true := by rfl) (hK : X.K = K := by rfl)
    (he : starEach (e :: es) X.env = (false, eval e X.env) :: starEach es X.env := by rfl) (hpl : (backTo pos (starEach es X.env)).any (·.1) = false := by rfl) :
    PE X (.Call (.Name "list" p) (e :: es) [] pos) (tCB rListD t) := by
  subst hK
  exact pe_callTy (call_list_dK hc) hg (b _ (by decide)) (by decide +kernel) ha (he := he) (hpl := hpl)
end
end Zm


set_option Elab.async false
set_option linter.all false
set_option maxRecDepth 100000
set_option maxHeartbeats 4000000
set_option autoImplicit false
namespace Zm
open PySem PySem.Spec L2
/-! ### wholly new lists of what passes a test; sorted -/
section
variable {K : PySem.W.Frag} {C : Addr} {δ : Dl} {te : TE} {d z : D}
/-- a comprehension with a test, of new things -/
theorem ef_lcF {α : Type} {as : List α} {g0 : α → D} {p : α → Bool} {f : α → D} {δi : α → Dl} {wi : TI} {g : TG} {tt : TT} {vs : List Nat} (hI : EvI K C wi δ (as.map g0)) (hG : ∀ a ∈ as, EvG K C g vs (wipeD δ vs) (g0 a) (δi a))
    (hT : ∀ a ∈ as, EvT K C tt (δi a) (p a)) (hE : ∀ a ∈ as, p a = true → EvF K C te (δi a) (f a)) (hl : as.length ≤ 100000) : EvF K C (tLc wi g tt te vs) δ (.lst ((as.filter p).map f)) := fun O σ H n Q q => hI O σ H n _ fun J H1 s1 w Da hD => by
  have n1 := n.same s1
  have key : ∀ H2, Same H1 H2 → Same (hid O H1) (hid (addO O Da) H2) := fun H2 s => (add_fresh hD).trans (same_hid s)
  refine ⟨fun i m H2 => m = as.length - i ∧ i ≤ as.length ∧ Same H1 H2 ∧ ∃ acc, H2 Da = some (.lst acc) ∧ Dats K C (hid (addO (dom H1) Da) H2) (((as.take i).filter p).map f) acc, ⟨as.length, by omega, Nat.zero_le _, same_new hD, [], upd_same, by rw [List.take_zero]; exact .nil⟩, ?_⟩
  rintro i m H2 ⟨rfl, hi, s2, acc, ha, hacc⟩
  have o2 : OIn (addO O Da) H2 := (n1.own.same s2).add ⟨_, ha, trivial⟩
  have wl : (as.map g0).length = as.length := List.length_map _
  by_cases hlt : i < as.length
  · have hia : as[i]? = some as[i] := by simp [hlt]
    have hmem : as[i] ∈ as := List.getElem_mem hlt
    refine .inr ⟨w.go _ i H2 (key H2 s2) o2 (by rw [wl]; exact hlt), fun H3 => i + 1 ≤ as.length ∧ Same H1 H3 ∧ ∃ acc, H3 Da = some (.lst acc) ∧ Dats K C (hid (addO (dom H1) Da) H3) (((as.take (i + 1)).filter p).map f) acc,
      fun H' hN => ⟨_, by omega, rfl, hN⟩, fun x H3 y => ?_⟩
    obtain ⟨s3, d3⟩ := w.yld _ i H2 x H3 (g0 as[i]) (key H2 s2) o2 (by rw [List.getElem?_map, hia]; rfl) y
    have s13 := s2.trans s3
    have n3 : At K C (addO O Da) H3 (L2.wipe σ vs) (wipeD δ vs) := ⟨o2.same s3, (n1.env.same (key H3 s13)).wipe vs⟩
    refine hG _ hmem _ _ _ _ n3 d3 _ fun σ4 hw n4 => ⟨by rw [hw, wipe_wipe], ?_⟩
    refine hT _ hmem _ _ _ n4 _ fun H5 s5 => ?_
    have ht : as.take (i + 1) = as.take i ++ [as[i]] := List.take_succ_eq_append_getElem hlt
    cases hp : p as[i] with
    | false =>
      refine iteF ⟨hlt, s13.trans s5, acc, s5 _ _ (s3 _ _ ha), ?_⟩
      rw [ht, List.filter_append, List.filter_cons, hp]
      rw [if_neg Bool.false_ne_true, List.filter_nil, List.append_nil]
      exact hacc.same (same_hid (s3.trans s5))
    | true =>
    refine iteT (hE _ hmem hp _ _ _ (n4.same s5) _ fun v H6 s6 d6 => ?_)
    have s36 := (s3.trans s5).trans s6
    have hl2 : acc.length ≤ as.length := by
      rw [hacc.length, List.length_map]
      exact Nat.le_trans (List.length_filter_le _ _) (by rw [List.length_take]; omega)
    refine ⟨acc, s36 _ _ ha, Nat.lt_of_le_of_lt (Nat.le_trans hl2 hl) (by decide), hlt, same_mut (s2.trans s36) hD, _, upd_same, ?_⟩
    rw [add_upd, ht, List.filter_append, List.filter_cons, hp, if_pos rfl, List.filter_nil, List.map_append]
    refine (hacc.same (same_hid s36)).append (.one (d6.same fun a u e => ?_))
    -- new since H3: not in H1, not Da
    unfold hid at e ⊢
    split at e
    · cases e
    · rename_i z
      rw [if_neg (fun y => z ?_)]
      · exact e
      · unfold addO at y
        rcases Bool.or_eq_true_iff.mp y with y | y
        · exact dom_mono (s13.trans s5) y
        · have y := of_decide_eq_true y
          subst y
          unfold dom
          rw [(s3.trans s5) _ _ ha]
          rfl
  · have e : i = as.length := by omega
    subst e
    rw [List.take_length] at hacc
    refine .inl ⟨by rw [← wl]; exact w.stop _ H2 (key H2 s2) o2, q _ _ (s1.trans s2) ?_⟩
    have h2 : Dat K C (hid (dom H1) H2) (.lst ((as.filter p).map f)) (.ref Da) := dat_new s2 hD ha (hacc.same add_le)
    exact h2.same (dom_le s1)
/-- a built-in that makes a new thing of a new one, its parts being the other's -/
theorem ef_cbN {r : List V → Hp → VK → Prop} (ha : EvF K C te δ d) (hr : RCN K C r [d] z) : EvF K C (tCB r (tCons te tNil)) δ z := fun O σ H n Q q => ha O σ H n _ fun v H1 s1 d1 => hr (dom H) H1 [v] (dom_in s1) (.one d1) Q fun p H' s hp hd => q _ H' (s1.trans s) hd
end
theorem rc_minOf {K : PySem.W.Frag} {C : Addr} {ns : List Int} {l : Int} (h1 : l ∈ ns) (h2 : ∀ y ∈ ns, l ≤ y) : RCD K C (rMin K) [.lst (dI ns)] (.int l) := fun O H vs o h Q q => by
  obtain ⟨x, rfl, hx⟩ := dats_one.mp h
  obtain ⟨a, xs, rfl, g1, g2⟩ := dat_lst_iff.mp hx
  rw [dats_ints.mp g2] at g1
  refine ⟨a, ns, rfl, sqL_of g1, List.length_pos_of_mem h1, fun m hm hy => ?_⟩
  have e : m = l := Int.le_antisymm (hy l h1) (h2 m hm)
  subst e
  exact q _ H (Same.refl H) (dat_int.mpr rfl)
theorem rc_maxOf {K : PySem.W.Frag} {C : Addr} {ns : List Int} {l : Int} (h1 : l ∈ ns) (h2 : ∀ y ∈ ns, y ≤ l) : RCD K C (rMax K) [.lst (dI ns)] (.int l) := fun O H vs o h Q q => by
  obtain ⟨x, rfl, hx⟩ := dats_one.mp h
  obtain ⟨a, xs, rfl, g1, g2⟩ := dat_lst_iff.mp hx
  rw [dats_ints.mp g2] at g1
  refine ⟨a, ns, rfl, sqL_of g1, List.length_pos_of_mem h1, fun m hm hy => ?_⟩
  have e : m = l := Int.le_antisymm (h2 m hm) (hy l h1)
  subst e
  exact q _ H (Same.refl H) (dat_int.mpr rfl)
end Zm


set_option Elab.async false
set_option linter.all false
set_option maxRecDepth 100000
set_option maxHeartbeats 4000000
set_option autoImplicit false
namespace Zm
open PySem PySem.Spec L2
/-! ### lots as masks -/
theorem nat_and (a b : Nat) : Builtin.bitAnd (a : Int) (b : Int) = ((a &&& b : Nat) : Int) := by
  rw [← PyProof.Rows.bitAnd_eq]
  unfold Spec.bitAnd
  rw [decide_eq_true (by omega : (0 : Int) ≤ (a : Int)), decide_eq_true (by omega : (0 : Int) ≤ (b : Int))]
  rfl
theorem nat_or (a b : Nat) : Builtin.bitOr (a : Int) (b : Int) = ((a ||| b : Nat) : Int) := by
  rw [← PyProof.Rows.bitOr_eq]
  unfold Spec.bitOr Spec.bitAnd
  have e : ∀ n : Nat, Spec.bitNot (Spec.bitNot (n : Int)) = n := fun n => by
    unfold Spec.bitNot
    omega
  have f : ∀ n : Nat, decide ((0 : Int) ≤ Spec.bitNot (n : Int)) = false := fun n => decide_eq_false (by unfold Spec.bitNot; omega)
  rw [f, f]
  dsimp only
  rw [e, e, e]
  rfl
/-- how many bits of n are 1 -/
def pc : Nat → Nat
  | 0 => 0
  | n + 1 => (n + 1) % 2 + pc ((n + 1) / 2)
decreasing_by omega
theorem pc_0 : pc 0 = 0 := by unfold pc; rfl
theorem pc_eq (n : Nat) : pc n = n % 2 + pc (n / 2) := by
  cases n with
  | zero => show pc 0 = 0 + pc 0; omega
  | succ n => rw [pc]
theorem pc_zero {n : Nat} : pc n = 0 ↔ n = 0 := by
  induction n using Nat.strongRecOn with
  | _ n ih =>
    rw [pc_eq]
    by_cases h : n = 0
    · subst h
      simp [pc]
    · have := ih (n / 2) (by omega)
      constructor
      · intro z
        have h1 : n % 2 = 0 := by omega
        have h2 : n / 2 = 0 := this.mp (by omega)
        omega
      · intro z
        exact absurd z h
/-- n &&& (n - 1) has one bit less -/
theorem pc_low {n : Nat} (h : n ≠ 0) : pc (n &&& (n - 1)) + 1 = pc n := by
  induction n using Nat.strongRecOn with
  | _ n ih =>
    have hd : ∀ a b : Nat, (a &&& b) / 2 = a / 2 &&& b / 2 := fun a b => by
      have := Nat.shiftRight_and_distrib (a := a) (b := b) (i := 1)
      simpa [Nat.shiftRight_eq_div_pow] using this
    have hm : ∀ a b : Nat, (a &&& b) % 2 = a % 2 &&& b % 2 := fun a b => by
      have := Nat.and_mod_two_pow (a := a) (b := b) (n := 1)
      simpa using this
    rw [pc_eq (n &&& (n - 1)), pc_eq n, hd, hm]
    rcases Nat.mod_two_eq_zero_or_one n with e | e
    · have e1 : (n - 1) % 2 = 1 := by omega
      have e2 : (n - 1) / 2 = n / 2 - 1 := by omega
      rw [e, e1, e2]
      have := ih (n / 2) (by omega) (by omega)
      show 0 + pc (n / 2 &&& (n / 2 - 1)) + 1 = 0 + pc (n / 2)
      omega
    · have e1 : (n - 1) % 2 = 0 := by omega
      have e2 : (n - 1) / 2 = n / 2 := by omega
      rw [e, e1, e2, Nat.and_self]
      show 0 + pc (n / 2) + 1 = 1 + pc (n / 2)
      omega
/-- the lowest bit cleared, k times -/
def clr : Nat → Nat → Nat
  | 0, n => n
  | k + 1, n => clr k n &&& (clr k n - 1)
theorem clr_pc : ∀ {k n : Nat}, k ≤ pc n → pc (clr k n) = pc n - k
  | 0, n, _ => rfl
  | k + 1, n, h => by
    have ih := clr_pc (k := k) (n := n) (by omega)
    have := pc_low (n := clr k n) fun z => by
      rw [z] at ih
      have : pc 0 = 0 := pc_0
      omega
    show pc (clr k n &&& (clr k n - 1)) = _
    omega
section
variable {K : PySem.W.Frag} {C : Addr} {δ δ' : Dl} {te : TE} {tt : TT} {tb : TS}
/-- while, the slots known ahead of each turn -/
theorem sx_while {δs : Nat → Dl} {N : Nat} (h0 : LeD (δs 0) δ) (hT : ∀ k, k ≤ N → EvT K C tt (δs k) (decide (k < N))) (hB : ∀ k, k < N → StX K C tb (δs k) (δs (k + 1))) : StX K C (tWhile tt tb) δ (δs N) := fun O σ H n Z q => by
  refine ⟨fun m σ2 H2 => ∃ k, k ≤ N ∧ m = N - k ∧ Same H H2 ∧ At K C O H2 σ2 (δs k), ⟨N, 0, Nat.zero_le _, rfl, Same.refl _, n.weak h0⟩, ?_⟩
  rintro m σ2 H2 ⟨k, hk, rfl, s2, n2⟩
  refine hT k hk O σ2 H2 n2 _ fun H3 s3 => ?_
  by_cases hlt : k < N
  · rw [decide_eq_true hlt]
    refine iteT ⟨fun σ4 H4 => k + 1 ≤ N ∧ Same H H4 ∧ At K C O H4 σ4 (δs (k + 1)), fun σ4 H4 h => ⟨_, by omega, k + 1, h.1, rfl, h.2⟩, ?_⟩
    exact hB k hlt O σ2 H3 (n2.same s3) _ fun σ4 H4 s4 n4 => ⟨hlt, (s2.trans s3).trans s4, n4⟩
  · rw [decide_eq_false hlt]
    have e : k = N := by omega
    subst e
    exact iteF (q _ _ (s2.trans s3) (n2.same s3))
theorem et_truI {i : Int} (h : EvD K C te δ (.int i)) : EvT K C (fun σ H Q => te σ H fun x H' => ∃ k, TruV K x H' k ∧ Q k H') δ (i != 0) := fun O σ H n Q q => h O σ H n _ fun v H1 s1 d1 => by
  rw [dat_int.mp d1]
  exact ⟨_, rfl, q H1 s1⟩
end
end Zm


set_option Elab.async false
set_option linter.all false
set_option maxRecDepth 100000
set_option maxHeartbeats 4000000
set_option autoImplicit false
namespace Zm
open PySem PySem.Spec L2
/-! ### statements beside objects that change: Pv hides them, Φ says what they are, O hides what it likes, them too -/
def StI (K : PySem.W.Frag) (C : Addr) (O Pv : Addr → Bool) (ts : TS) (Φ : Hp → Prop) (δ : Dl) (Ψ : Hp → Prop) (δ' : Dl) : Prop :=
  ∀ σ H, At K C O H σ δ → Φ H → ∀ Z : Ends, (∀ σ' H', Same (hid Pv H) (hid Pv H') → At K C O H' σ' δ' → Ψ H' → Z.nx σ' H') → ts Z σ H
def Stays (Φ : Hp → Prop) : Prop := ∀ H H', Same H H' → Φ H → Φ H'
section
variable {K : PySem.W.Frag} {C : Addr} {O Pv : Addr → Bool} {δ δ' δ2 : Dl} {ts ts' tb : TS} {Φ Ψ Ψ2 : Hp → Prop}
theorem hid_more {H H' : Hp} (hp : ∀ c, Pv c = true → O c = true) (s : Same (hid Pv H) (hid Pv H')) : Same (hid O H) (hid O H') := fun c u e => by
  unfold hid at e ⊢
  by_cases h : O c = true
  · rw [if_pos h] at e
    cases e
  · rw [if_neg h] at e ⊢
    have h2 : ¬ Pv c = true := fun z => h (hp c z)
    have := s c u (by unfold hid; rw [if_neg h2]; exact e)
    unfold hid at this
    rwa [if_neg h2] at this
theorem si_of (h : StX K C ts δ δ') (st : Stays Φ) : StI K C O Pv ts Φ δ Φ δ' := fun σ H n p Z q => h O σ H n Z fun σ' H' s n' => q σ' H' (same_hid s) n' (st _ _ s p)
theorem si_seq (h : StI K C O Pv ts Φ δ Ψ δ') (g : StI K C O Pv ts' Ψ δ' Ψ2 δ2) : StI K C O Pv (tSeq ts ts') Φ δ Ψ2 δ2 := fun σ H n p Z q => h σ H n p { Z with nx := ts' Z } fun σ1 H1 s1 n1 p1 => g σ1 H1 n1 p1 Z fun σ2 H2 s2 n2 p2 => q σ2 H2 (s1.trans s2) n2 p2
theorem si_weak (h : StI K C O Pv ts Φ δ Ψ δ2) (l : LeD δ' δ2) : StI K C O Pv ts Φ δ Ψ δ' := fun σ H n p Z q => h σ H n p Z fun σ' H' s n' p' => q σ' H' s (n'.weak l) p'
theorem si_for {α : Type} {as : List α} {g0 : α → D} {δs : Nat → Dl} {Φs : Nat → Hp → Prop} {wi : TI} {g : TG} (hI : EvI K C wi δ (as.map g0)) (h0 : LeD (δs 0) δ) (st : ∀ i, Stays (Φs i)) (hp : ∀ c, Pv c = true → O c = true)
    (hB : ∀ i a, as[i]? = some a → ∃ δ1, EvGa K C g (δs i) (g0 a) δ1 ∧ StI K C O Pv tb (Φs i) δ1 (Φs (i + 1)) (δs (i + 1))) : StI K C O Pv (tFor wi g tb) (Φs 0) δ (Φs as.length) (δs as.length) := fun σ H n p Z q => hI O σ H n _ fun J H1 s1 w => by
  have wl : (as.map g0).length = as.length := List.length_map _
  refine ⟨fun i m σ2 H2 => m = as.length - i ∧ i ≤ as.length ∧ Same (hid Pv H1) (hid Pv H2) ∧ At K C O H2 σ2 (δs i) ∧ Φs i H2, ⟨as.length, by omega, Nat.zero_le _, Same.refl _, (n.same s1).weak h0, st 0 _ _ s1 p⟩, ?_⟩
  rintro i m σ2 H2 ⟨rfl, hi, s2, n2, p2⟩
  by_cases hlt : i < as.length
  · have hia : as[i]? = some as[i] := by simp [hlt]
    refine .inr ⟨w.go _ i H2 (hid_more hp s2) n2.own (by rw [wl]; exact hlt), fun σ3 H3 => i + 1 ≤ as.length ∧ Same (hid Pv H1) (hid Pv H3) ∧ At K C O H3 σ3 (δs (i + 1)) ∧ Φs (i + 1) H3, fun σ' H' hN => ⟨_, by omega, rfl, hN⟩, fun x H3 y => ?_⟩
    obtain ⟨s3, d3⟩ := w.yld _ i H2 x H3 (g0 as[i]) (hid_more hp s2) n2.own (by rw [List.getElem?_map, hia]; rfl) y
    obtain ⟨δ1, hg, hb⟩ := hB i _ hia
    exact hg _ _ _ _ (n2.same s3) d3 _ fun σ4 n4 => hb _ _ n4 (st i _ _ s3 p2) _ fun σ5 H5 s5 n5 p5 => ⟨hlt, (s2.trans (same_hid s3)).trans s5, n5, p5⟩
  · have e : i = as.length := by omega
    subst e
    exact .inl ⟨by rw [← wl]; exact w.stop _ H2 (hid_more hp s2) n2.own, q _ _ ((same_hid s1).trans s2) n2 p2⟩
theorem si_then {σ : L2.St} {H : Hp} {Z : Ends} (h : StI K C O Pv ts Φ δ Ψ δ') (n : At K C O H σ δ) (p : Φ H) (q : ∀ σ' H', Same (hid Pv H) (hid Pv H') → At K C O H' σ' δ' → Ψ H' → ts' Z σ' H') : tSeq ts ts' Z σ H := h σ H n p { Z with nx := ts' Z } q
end
end Zm


set_option Elab.async false
set_option linter.all false
set_option maxRecDepth 100000
set_option maxHeartbeats 4000000
set_option autoImplicit false
namespace Zm
open PySem PySem.Spec L2
/-! ### draws in any slot: conditions, operations, arguments -/
section
variable {K : PySem.W.Frag} {C : Addr} {j : Nat}
def EvJA (K : PySem.W.Frag) (C : Addr) (j : Nat) (ta : TA) (δ : Dl) (c : Nat) (R : List D → Prop) : Prop := ∀ O σ H p n, AtJ K C j O H σ δ p n → n + c ≤ 1000000 → ∀ Q : List V → Hp → Prop, (∀ vs H' ds, But p H H' → PurseIs (n + c) H' p → R ds → Dats K C (hid O H') ds vs → Q vs H') → ta σ H Q
variable {δ δ' : Dl} {ta tb te : TE} {tr : TA} {tt : TT} {c c1 c2 : Nat} {d : D} {R R1 R2 : D → Prop}
theorem ej_d (h : EvD K C te δ d) : EvJ K C j te δ 0 (fun x => x = d) := fun O σ H p n x hn Q q => h O σ H x.at_ Q fun v H' s hd => q v H' d (But.of s) (x.purse.same s) rfl hd
theorem ej_ifB {b : Bool} (h : EvT K C tt δ b) (h1 : b = true → EvJ K C j ta δ c R) (h2 : b = false → EvJ K C j tb δ c R) : EvJ K C j (tIf tt ta tb) δ c R := fun O σ H p n x hn Q q => h O σ H x.at_ _ fun H' s => by
  have x' := x.same s
  cases b with
  | true => exact h1 rfl O σ H' p _ x' hn Q fun v H2 d s2 p2 r hd => q v H2 d ((But.of s).trans s2) p2 r hd
  | false => exact h2 rfl O σ H' p _ x' hn Q fun v H2 d s2 p2 r hd => q v H2 d ((But.of s).trans s2) p2 r hd
theorem ej_op {r : L2.R2} (ha : EvJ K C j ta δ c1 R1) (hb : EvJ K C j tb δ c2 R2) (hr : ∀ d e, R1 d → R2 e → ∃ z, R2D K C r d e z ∧ R z) : EvJ K C j (tOp r ta tb) δ (c1 + c2) R := fun O σ H p n x hn Q q =>
  ha O σ H p n x (by omega) _ fun v H1 d1 s1 p1 r1 hd1 => hb O σ H1 p _ (x.but s1 p1) (by omega) _ fun w H2 d2 s2 p2 r2 hd2 => by
    obtain ⟨z, k1, k2⟩ := hr d1 d2 r1 r2
    refine k1 O H2 v w (but_own (but_own x.at_.own s1 p1) s2 p2) (hd1.same (but_hid s2 x.own)) hd2 Q fun y H3 s3 hd3 => q y H3 z ((s1.trans s2).trans (But.of s3)) ?_ k2 hd3
    have e : n + c1 + c2 = n + (c1 + c2) := by omega
    rw [← e]
    exact p2.same s3
theorem eja_nil : EvJA K C j tNil δ 0 (fun ds => ds = []) := fun O σ H p n x hn Q q => q [] H [] (But.refl p H) x.purse rfl .nil
theorem eja_cons {Rs : List D → Prop} (ha : EvJ K C j ta δ c1 R1) (hr : EvJA K C j tr δ c2 Rs) : EvJA K C j (tCons ta tr) δ (c1 + c2) (fun ds => ∃ d es, ds = d :: es ∧ R1 d ∧ Rs es) := fun O σ H p n x hn Q q =>
  ha O σ H p n x (by omega) _ fun v H1 d1 s1 p1 r1 hd1 => hr O σ H1 p _ (x.but s1 p1) (by omega) _ fun vs H2 d2 s2 p2 r2 hd2 =>
    q _ H2 (d1 :: d2) (s1.trans s2) (by rw [← Nat.add_assoc]; exact p2) ⟨d1, d2, rfl, r1, r2⟩ (.cons (hd1.same (but_hid s2 x.own)) hd2)
/-- a call by data whose arguments draw -/
theorem ej_callA {pre : List D → Prop} {f : List D → D} {m : Nat} {Rs : List D → Prop} {E : XK} (h : EvJA K C j tr δ c Rs) (hp : ∀ ds, Rs ds → ds.length = m ∧ pre ds) : EvJ K C j (tCall (SpD K C pre f m) [] E tr) δ c (fun z => ∃ ds, Rs ds ∧ z = f ds) := fun O σ H p n x hn Q q => h O σ H p n x hn _ fun vs H1 ds s1 p1 r1 hd => by
  show SpD K C pre f m (vs ++ []) H1 Q E
  rw [List.append_nil]
  have o1 := but_own x.at_.own s1 p1
  obtain ⟨l, hpre⟩ := hp ds r1
  exact ⟨by rw [hd.length, l], O, ds, o1, hd, hpre, fun w H2 s2 d2 => q w H2 (f ds) (s1.trans (But.of s2)) (p1.same s2) ⟨ds, r1, rfl⟩ d2⟩
end
end Zm


set_option Elab.async false
set_option linter.all false
set_option maxRecDepth 100000
set_option maxHeartbeats 4000000
set_option autoImplicit false
namespace Zm
open PySem PySem.Spec L2
/-! ### dicts whose keys are tuples of ints -/
def mergeT (kvs more : List (List Key × V)) : List (List Key × V) := more.foldl (fun acc kv => putK acc kv.1 kv.2) kvs
theorem mergeT_len : ∀ (more kvs : List (List Key × V)), (mergeT kvs more).length ≤ kvs.length + more.length
  | [], kvs => Nat.le_refl _
  | m :: more, kvs => by
    have h := mergeT_len more (putK kvs m.1 m.2)
    have e : (putK kvs m.1 m.2).length ≤ kvs.length + 1 := by
      unfold putK
      split
      · rw [List.length_map]
        exact Nat.le_succ _
      · rw [List.length_append]
        exact Nat.le_refl _
    show (mergeT (putK kvs m.1 m.2) more).length ≤ _
    rw [List.length_cons]
    omega
theorem kt_merge {H : Hp} : ∀ {more : List (List Key × V)} {rs : List (List Key × Addr × Value)} {kvs : List (List Key × V)} {xs : List (List Key × Addr × Value)}, KT H more rs → KT H kvs xs → KT H (mergeT kvs more) (storedAllH xs rs)
  | _, _, _, _, .nil, h => h
  | _, _, _, _, .cons (a := p) (b := q) r t, h => by
    obtain ⟨r1, r2, r3⟩ := r
    show KT H (mergeT (putK _ p.1 p.2) _) (storedAllH (storedH _ q.1 q.2.1 q.2.2) _)
    rw [← r1]
    exact kt_merge t (h.put p.1 r2 r3)
section
variable {X : Cx}
theorem pairsT_of {pins : List (Addr × Obj)} {σ : L2.St} {H : Hp} {s : Shared} (I : Inv X pins σ H s) : ∀ {ps : List Addr} {kvs : List (List Key × V)}, Paired (fun p kv => ∃ b, SqT X.K H p [.ref b, kv.2] ∧ H b = some (.tup (kv.1.map kV))) ps kvs →
    ∃ prs : List (List Key × Addr × Value), KT H kvs prs ∧ prs.length = ps.length ∧ ∀ (j : Nat) (q : List Key × Addr × Value), prs[j]? = some q → ∃ T, ps[j]? = some T ∧ PyProof.Rows.IsTup s.heap T #[.ref q.2.1, q.2.2] ∧ (tupleKind (mixKind X.prog X.w)).is s.heap q.1 q.2.1
  | _, _, .nil => ⟨[], .nil, rfl, fun j q e => by simp at e⟩
  | _, _, .cons (a := p) (b := kv) h t => by
    obtain ⟨prs, r, hl, hp⟩ := pairsT_of I t
    obtain ⟨b, h1, h2⟩ := h
    obtain ⟨its, rv, ht, _⟩ := I.tuple h1
    obtain ⟨u, y, ei, ru, ry⟩ := vals2 rv
    subst ei
    obtain rfl : u = Value.ref b := ru
    refine ⟨(kv.1, b, y) :: prs, .cons ⟨rfl, h2, ry⟩ r, by rw [List.length_cons, List.length_cons, hl], fun j q e => ?_⟩
    cases j with
    | zero =>
      have e' : (kv.1, b, y) = q := Option.some.inj e
      subst e'
      exact ⟨p, rfl, ht, key_of I.hok h2⟩
    | succ j =>
      obtain ⟨T, e1, e2, e3⟩ := hp j q (by simpa using e)
      exact ⟨T, by simpa using e1, e2, e3⟩
def rDictPT (K : PySem.W.Frag) : List V → Hp → VK → Prop := fun xs H Q => ∃ (a : Addr) (ps : List Addr) (kvs : List (List Key × V)), xs = [.ref a] ∧ SqL K H a (ps.map V.ref) ∧ Paired (fun p kv => ∃ b, SqT K H p [.ref b, kv.2] ∧ H b = some (.tup (kv.1.map kV))) ps kvs ∧
    ∀ p, H p = none → Q (.ref p) (upd H p (.dT (mergeT [] kvs)))
theorem call_dictPT (hcalm : X.calm = true) (hu : X.A.units + 2 < cLine) : CallR X (.type "dict") (rDictPT X.K) := by
  intro pins s σ H xs us Q I r q
  obtain ⟨a, ps, kvs, ex, hq, hp, q⟩ := q
  subst ex
  obtain ⟨u, eu, rx⟩ := vals1 r
  subst eu
  cases rx
  obtain ⟨its, rv, pl, hz⟩ := I.list hq
  have ei := refs_at rv
  subst ei
  rw [List.length_map] at hz
  obtain ⟨prs, rel, hl, hpr⟩ := pairsT_of I hp
  obtain ⟨o, n, ho, hc, hd, hdat⟩ := pl
  have hPI : PairItems s.heap (ps.map Value.ref).toArray (fun j => ps.getD j 0) (prs.map fun q => (Value.ref q.2.1, q.2.2)) := by
    refine ⟨by simp [hl], fun j k v e => ?_⟩
    rw [List.getElem?_map] at e
    obtain ⟨q', e1, e2⟩ := Option.map_eq_some_iff.mp e
    obtain ⟨T, h1, h2, h3⟩ := hpr j q' e1
    cases e2
    have eT : ps.getD j 0 = T := by rw [List.getD_eq_getElem?_getD, h1]; rfl
    refine ⟨by simp [h1], .inl ?_⟩
    show s.heap.IsTuple (ps.getD j 0) _
    rw [eT]
    exact h2
  refine call_dict_pairsH (knd := tupleKind (mixKind X.prog X.w)) (ps := prs) (wr := []) (PairArg.list a (ps.map Value.ref).toArray (fun j => ps.getD j 0) (prs.map fun q => (Value.ref q.2.1, q.2.2))) (I.ok.hd hcalm) (tupleKind_room_in1 (show X.A.in1.units + 1 < cLine from ?_)) ⟨⟨o, n, ho, hc, hd, hdat⟩, hPI⟩ ⟨by rw [List.length_map], fun i key v e => ?_⟩ ?_ (by rw [List.length_map, hl]; exact hz) fun h' tk hd' k => ?_
  · show X.A.in1.units + 1 < cLine
    exact hu
  · unfold PairRel at e
    rw [List.getElem?_map] at e
    obtain ⟨q', e1, e2⟩ := Option.map_eq_some_iff.mp e
    cases e2
    exact ⟨q'.1, q'.2.1, e1, rfl⟩
  · intro h' hk x hx
    obtain ⟨j, hj⟩ := List.getElem?_of_mem hx
    obtain ⟨T, h1, h2, h3⟩ := hpr j x hj
    refine tupleKind_stays.stays (fun b ob vs nn e1 e2 => ?_) h3
    exact hk b ob (Nat.ne_of_lt (Heap.lt_size e1)) (by simp) e1
  · have hm : (s.heap.objs.size == sysModules) = false := beq_eq_false_iff_ne.mpr (Nat.ne_of_gt I.big)
    have hlen : (mergeT [] kvs).length ≤ sizeLine := by
      refine Nat.le_trans (mergeT_len kvs []) ?_
      rw [List.length_nil, Nat.zero_add, Paired.length rel, hl]
      exact hz
    obtain ⟨oo, es, ep, g1, g2, g3, g4, g5, g6⟩ := hd'
    refine ⟨.ref s.heap.objs.size, upd H s.heap.objs.size (.dT (mergeT [] kvs)), I.laid (t' := tk) (fun b u e => k b u (by simp) e) (Nat.le_refl _) (show ObjOk X.prog X.w _ _ _ (.dT (mergeT [] kvs)) from ⟨hlen, hm, storedAllH [] prs, ?_, oo, es, ep, g1, g2, g3, g4, g6⟩), rfl, q _ (I.hok.fresh (Nat.le_refl _))⟩
    exact (kt_merge rel .nil).keeps fun b ys e => by
      rw [upd_ne (fun z => by rw [z, I.hok.fresh (Nat.le_refl _)] at e; cases e)]
      exact e
end
end Zm


set_option Elab.async false
set_option linter.all false
set_option maxRecDepth 100000
set_option maxHeartbeats 4000000
set_option autoImplicit false
namespace Zm
open PySem PySem.Spec L2
/-! ### max and min of the values of a dict whose keys are tuples -/
theorem kt_at {H : Hp} {kvs : List (List Key × V)} {xs : List (List Key × Addr × Value)} (r : KT H kvs xs) : ∀ {i : Nat} {x : List Key × Addr × Value}, xs[i]? = some x → ∃ y, kvs[i]? = some y ∧ RelV y.2 x.2.2 := by
  induction r with
  | nil =>
    intro i x e
    simp at e
  | cons r t ih =>
    intro i x e
    cases i with
    | zero =>
      have e' := Option.some.inj e
      rw [← e']
      exact ⟨_, rfl, r.2.2⟩
    | succ i =>
      obtain ⟨y, h1, h2⟩ := ih (i := i) (x := x) (by simpa using e)
      exact ⟨y, by simpa using h1, h2⟩
section
variable {X : Cx} {o : Expr} {p pos apos mpos : Pos} {td : TE}

/-- max(o.values()), the keys tuples, the values ints, one at least -/
def tmaxValsT (td : TE) : TE := fun σ H Q => td σ H fun x H1 => ∃ a kvs is, x = V.ref a ∧ H1 a = some (.dT kvs) ∧ kvs.map (·.2) = is.map V.int ∧ is ≠ [] ∧ ∀ m, m ∈ is → (∀ j ∈ is, j ≤ m) → Q (.int m) H1
theorem pe_maxValsT (hc : X.calm = true) (hg : Gl X "max") (hm : X.mg "max" = none) (hd : PE X o td) (hbase : attributeBase o "values" X.env (eval o X.env) = eval o X.env := by rfl) (hline : (apos.endLine == mpos.line) = true := by rfl)
    (hse : starEach [Expr.Call (.Attribute o "values" apos) [] [] mpos] X.env = [(false, eval (Expr.Call (.Attribute o "values" apos) [] [] mpos) X.env)] := by rfl) :
    PE X (.Call (.Name "max" p) [.Call (.Attribute o "values" apos) [] [] mpos] [] pos) (tmaxValsT td) := by
  refine ⟨fun pins s σ H Q I h => ?_⟩
  refine wpAny_Call_Name_kw (ld_blt I hg hm (u := .builtin "max") (by first | rfl | decide +kernel) ?_ (by first | decide +kernel | decide) (by first | decide +kernel | decide))
  rw [hse]
  refine PySem.callWith_builtin1 (wpAny_Call_method0_late hbase hline (thn (hd.run pins s σ H _ I h) fun v s1 ⟨x, H1, I1, r1, a, kvs, is, ex, ha, hv, hne, q⟩ => ?_))
  subst ex
  obtain rfl : v = Value.ref a := r1
  obtain ⟨_, hsys, xs, rel, dof⟩ := dt_of I1.hok ha
  obtain ⟨ob, es, ep, ho, ex, hdat, hes, hisk, hnd⟩ := dof
  have raw : s1.heap.DictRaw a es ep := ⟨ob, ho, ex, hdat⟩
  refine ⟨"dict", "dict.values", F.plainAttrs_dict, F.slot_dict_values, F.type_dict_values, ⟨ob, ho, ex.1⟩, fun b e => ?_, Calls.callWith_builtin rfl (PySem.evalArgs_none ?_)⟩
  · cases e
    exact ⟨ob, ho, ex.2.1⟩
  refine call_meetsIn F.slot_dict_values ⟨ob, ho, ex.1⟩ F.entry_dict_values (F.args_dict_values_1 _) (meets_dict_values_raw a hsys) ⟨⟨es, ep, raw⟩, ?_⟩
  have k1 : ∀ b u, s1.heap.get? b = some u → (s1.heap.push { cls := .type "dict_values", data := .fields #[.ref a] }).get? b = some u := fun b u e => Heap.get?_push_of_some _ e
  have lx : xs.length = kvs.length := (Paired.length rel).symm
  have li : kvs.length = is.length := by
    have e1 := congrArg List.length hv
    rwa [List.length_map, List.length_map] at e1
  have le : es.size = xs.length := by
    have e1 := congrArg List.length hes
    rwa [List.length_map, Array.length_toList] at e1
  have hlen : 0 < es.size := by
    rw [le, lx, li]
    exact List.length_pos_iff.mpr hne
  have hval : ∀ (i : Nat) (e : DictEntry), es[i]? = some e → ∃ t, e.val = Value.int (is.getD i 0) t := fun i e he => by
    have e1 : es.toList[i]? = some e := by simpa using he
    rw [hes, List.getElem?_map] at e1
    obtain ⟨x, hx, e2⟩ := Option.map_eq_some_iff.mp e1
    obtain ⟨y, h1, h2⟩ := kt_at rel hx
    have e3 : (kvs.map (·.2))[i]? = some y.2 := by rw [List.getElem?_map, h1] <;> rfl
    rw [hv, List.getElem?_map] at e3
    obtain ⟨j, hj, e4⟩ := Option.map_eq_some_iff.mp e3
    rw [← e4] at h2
    obtain ⟨t, e5⟩ := h2
    refine ⟨t, ?_⟩
    rw [← e2]
    show x.2.2 = _
    rw [e5, List.getD_eq_getElem?_getD, hj] <;> rfl
  refine call_max_walk (wpAny_pyIter_values_raw (v := s1.heap.objs.size) (d := a) ⟨_, Heap.get?_push_size _ rfl, rfl, rfl⟩ (raw.push _) ?_)
  have hlt : a < s1.heap.objs.size := Heap.lt_size ho
  have hsz : (s1.heap.push { cls := .type "dict_values", data := .fields #[.ref a] }).objs.size = s1.heap.objs.size + 1 := Heap.size_push _ _
  refine ⟨(s1.heap.push { cls := .type "dict_values", data := .fields #[.ref a] }).objs.size, [(s1.heap.push { cls := .type "dict_values", data := .fields #[.ref a] }).objs.size, a], [(s1.heap.push { cls := .type "dict_values", data := .fields #[.ref a] }).objs.size], es.size, fun i v => ∃ t, v = .int (is.getD i 0) t, _, _, rfl, DSub.walksVal (a := a) (A := X.A.in1) (I.ok.hd hc) (by rw [hsz]; exact Nat.ne_of_lt (Nat.lt_succ_of_lt hlt)) hdat hval,
    ⟨Heap.get?_push_size _ rfl, Heap.get?_push_of_some _ (k1 _ _ ho)⟩, fun b hb => ?_, hlen, CmpOf.ints_gt (fun i => is.getD i 0) (fun i v h => h), fun v h' tk hP hk => ?_⟩
  · show b < ((s1.heap.push _).push _).objs.size
    rw [Heap.size_push, Heap.size_push]
    rw [hsz] at hb
    rcases List.mem_cons.mp hb with e | hb
    · rw [e]
      exact Nat.lt_succ_self _
    · have e : b = a := List.mem_singleton.mp hb
      rw [e]
      exact Nat.lt_succ_of_lt (Nat.lt_succ_of_lt hlt)
  · obtain ⟨t, rfl⟩ := hP
    obtain ⟨b1, b2⟩ := argBest_gt (fun i => is.getD i 0) (es.size - 1)
    have hn : es.size = is.length := by omega
    refine ⟨.int _, H1, I1.kept (t' := tk) fun b u e => hk b u (fun hmem => ?_) (Heap.get?_push_of_some _ (k1 b u e)), ⟨t, rfl⟩, q _ ?_ fun j hj => ?_⟩
    · have e1 : b = (s1.heap.push { cls := .type "dict_values", data := .fields #[.ref a] }).objs.size := List.mem_singleton.mp hmem
      have e2 := Heap.lt_size e
      rw [hsz] at e1
      rw [e1] at e2
      exact absurd e2 (Nat.not_lt.mpr (Nat.le_succ _))
    · have hb : argBest (fun i j => decide (is.getD i 0 > is.getD j 0)) (es.size - 1) < is.length := by omega
      rw [List.getD_eq_getElem?_getD, List.getElem?_eq_getElem hb]
      exact List.getElem_mem hb
    · obtain ⟨i, hi, e⟩ := List.mem_iff_getElem.mp hj
      have e2 : is.getD i 0 = j := by rw [List.getD_eq_getElem?_getD, List.getElem?_eq_getElem hi, ← e] <;> rfl
      rw [← e2]
      exact b2 i (by omega)

/-- min(o.values()), the keys tuples, the values ints, one at least -/
def tminValsT (td : TE) : TE := fun σ H Q => td σ H fun x H1 => ∃ a kvs is, x = V.ref a ∧ H1 a = some (.dT kvs) ∧ kvs.map (·.2) = is.map V.int ∧ is ≠ [] ∧ ∀ m, m ∈ is → (∀ j ∈ is, m ≤ j) → Q (.int m) H1
theorem pe_minValsT (hc : X.calm = true) (hg : Gl X "min") (hm : X.mg "min" = none) (hd : PE X o td) (hbase : attributeBase o "values" X.env (eval o X.env) = eval o X.env := by rfl) (hline : (apos.endLine == mpos.line) = true := by rfl)
    (hse : starEach [Expr.Call (.Attribute o "values" apos) [] [] mpos] X.env = [(false, eval (Expr.Call (.Attribute o "values" apos) [] [] mpos) X.env)] := by rfl) :
    PE X (.Call (.Name "min" p) [.Call (.Attribute o "values" apos) [] [] mpos] [] pos) (tminValsT td) := by
  refine ⟨fun pins s σ H Q I h => ?_⟩
  refine wpAny_Call_Name_kw (ld_blt I hg hm (u := .builtin "min") (by first | rfl | decide +kernel) ?_ (by first | decide +kernel | decide) (by first | decide +kernel | decide))
  rw [hse]
  refine PySem.callWith_builtin1 (wpAny_Call_method0_late hbase hline (thn (hd.run pins s σ H _ I h) fun v s1 ⟨x, H1, I1, r1, a, kvs, is, ex, ha, hv, hne, q⟩ => ?_))
  subst ex
  obtain rfl : v = Value.ref a := r1
  obtain ⟨_, hsys, xs, rel, dof⟩ := dt_of I1.hok ha
  obtain ⟨ob, es, ep, ho, ex, hdat, hes, hisk, hnd⟩ := dof
  have raw : s1.heap.DictRaw a es ep := ⟨ob, ho, ex, hdat⟩
  refine ⟨"dict", "dict.values", F.plainAttrs_dict, F.slot_dict_values, F.type_dict_values, ⟨ob, ho, ex.1⟩, fun b e => ?_, Calls.callWith_builtin rfl (PySem.evalArgs_none ?_)⟩
  · cases e
    exact ⟨ob, ho, ex.2.1⟩
  refine call_meetsIn F.slot_dict_values ⟨ob, ho, ex.1⟩ F.entry_dict_values (F.args_dict_values_1 _) (meets_dict_values_raw a hsys) ⟨⟨es, ep, raw⟩, ?_⟩
  have k1 : ∀ b u, s1.heap.get? b = some u → (s1.heap.push { cls := .type "dict_values", data := .fields #[.ref a] }).get? b = some u := fun b u e => Heap.get?_push_of_some _ e
  have lx : xs.length = kvs.length := (Paired.length rel).symm
  have li : kvs.length = is.length := by
    have e1 := congrArg List.length hv
    rwa [List.length_map, List.length_map] at e1
  have le : es.size = xs.length := by
    have e1 := congrArg List.length hes
    rwa [List.length_map, Array.length_toList] at e1
  have hlen : 0 < es.size := by
    rw [le, lx, li]
    exact List.length_pos_iff.mpr hne
  have hval : ∀ (i : Nat) (e : DictEntry), es[i]? = some e → ∃ t, e.val = Value.int (is.getD i 0) t := fun i e he => by
    have e1 : es.toList[i]? = some e := by simpa using he
    rw [hes, List.getElem?_map] at e1
    obtain ⟨x, hx, e2⟩ := Option.map_eq_some_iff.mp e1
    obtain ⟨y, h1, h2⟩ := kt_at rel hx
    have e3 : (kvs.map (·.2))[i]? = some y.2 := by rw [List.getElem?_map, h1] <;> rfl
    rw [hv, List.getElem?_map] at e3
    obtain ⟨j, hj, e4⟩ := Option.map_eq_some_iff.mp e3
    rw [← e4] at h2
    obtain ⟨t, e5⟩ := h2
    refine ⟨t, ?_⟩
    rw [← e2]
    show x.2.2 = _
    rw [e5, List.getD_eq_getElem?_getD, hj] <;> rfl
  refine call_min_walk (wpAny_pyIter_values_raw (v := s1.heap.objs.size) (d := a) ⟨_, Heap.get?_push_size _ rfl, rfl, rfl⟩ (raw.push _) ?_)
  have hlt : a < s1.heap.objs.size := Heap.lt_size ho
  have hsz : (s1.heap.push { cls := .type "dict_values", data := .fields #[.ref a] }).objs.size = s1.heap.objs.size + 1 := Heap.size_push _ _
  refine ⟨(s1.heap.push { cls := .type "dict_values", data := .fields #[.ref a] }).objs.size, [(s1.heap.push { cls := .type "dict_values", data := .fields #[.ref a] }).objs.size, a], [(s1.heap.push { cls := .type "dict_values", data := .fields #[.ref a] }).objs.size], es.size, fun i v => ∃ t, v = .int (is.getD i 0) t, _, _, rfl, DSub.walksVal (a := a) (A := X.A.in1) (I.ok.hd hc) (by rw [hsz]; exact Nat.ne_of_lt (Nat.lt_succ_of_lt hlt)) hdat hval,
    ⟨Heap.get?_push_size _ rfl, Heap.get?_push_of_some _ (k1 _ _ ho)⟩, fun b hb => ?_, hlen, CmpOf.ints_lt (fun i => is.getD i 0) (fun i v h => h), fun v h' tk hP hk => ?_⟩
  · show b < ((s1.heap.push _).push _).objs.size
    rw [Heap.size_push, Heap.size_push]
    rw [hsz] at hb
    rcases List.mem_cons.mp hb with e | hb
    · rw [e]
      exact Nat.lt_succ_self _
    · have e : b = a := List.mem_singleton.mp hb
      rw [e]
      exact Nat.lt_succ_of_lt (Nat.lt_succ_of_lt hlt)
  · obtain ⟨t, rfl⟩ := hP
    obtain ⟨b1, b2⟩ := argBest_lt (fun i => is.getD i 0) (es.size - 1)
    have hn : es.size = is.length := by omega
    refine ⟨.int _, H1, I1.kept (t' := tk) fun b u e => hk b u (fun hmem => ?_) (Heap.get?_push_of_some _ (k1 b u e)), ⟨t, rfl⟩, q _ ?_ fun j hj => ?_⟩
    · have e1 : b = (s1.heap.push { cls := .type "dict_values", data := .fields #[.ref a] }).objs.size := List.mem_singleton.mp hmem
      have e2 := Heap.lt_size e
      rw [hsz] at e1
      rw [e1] at e2
      exact absurd e2 (Nat.not_lt.mpr (Nat.le_succ _))
    · have hb : argBest (fun i j => decide (is.getD i 0 < is.getD j 0)) (es.size - 1) < is.length := by omega
      rw [List.getD_eq_getElem?_getD, List.getElem?_eq_getElem hb]
      exact List.getElem_mem hb
    · obtain ⟨i, hi, e⟩ := List.mem_iff_getElem.mp hj
      have e2 : is.getD i 0 = j := by rw [List.getD_eq_getElem?_getD, List.getElem?_eq_getElem hi, ← e] <;> rfl
      rw [← e2]
      exact b2 i (by omega)
end
end Zm


set_option Elab.async false
set_option linter.all false
set_option maxRecDepth 100000
set_option maxHeartbeats 4000000
set_option autoImplicit false
namespace Zm
open PySem PySem.Spec L2
/-! ### dicts with tuple keys, by data -/
section
variable {K : PySem.W.Frag} {C : Addr} {H : Hp} {d : D} {k : List Int}
theorem datT_nil {xs : List (List Key × V)} : DatT K C H [] xs ↔ xs = [] := by
  unfold DatT
  exact Iff.rfl
theorem datT_cons {kvs : List (List Int × D)} {xs : List (List Key × V)} : DatT K C H ((k, d) :: kvs) xs ↔ ∃ x ys, xs = (k.map Sum.inl, x) :: ys ∧ Dat K C H d x ∧ DatT K C H kvs ys := by
  conv => lhs; unfold DatT
theorem dat_dtp_iff {kvs : List (List Int × D)} {v : V} : Dat K C H (.dtp kvs) v ↔ ∃ a kws, v = .ref a ∧ H a = some (.dT kws) ∧ DatT K C H kvs kws := by
  unfold Dat
  exact Iff.rfl
theorem keyT_inj {k j : List Int} (h : k.map (Sum.inl : Int → Key) = j.map Sum.inl) : k = j := by
  induction k generalizing j with
  | nil =>
    cases j with
    | nil => rfl
    | cons b j => cases h
  | cons a k ih =>
    cases j with
    | nil => cases h
    | cons b j =>
      obtain ⟨h1, h2⟩ := List.cons.inj h
      cases h1
      rw [ih h2]
def lookT (kvs : List (List Int × D)) (k : List Int) : Option D := (kvs.find? fun kv => decide (kv.1 = k)).map (·.2)
theorem datT_look {kvs : List (List Int × D)} {kws : List (List Key × V)} (h : DatT K C H kvs kws) (e : lookT kvs k = some d) : ∃ v, valV kws (k.map Sum.inl) = some v ∧ Dat K C H d v := by
  induction kvs generalizing kws with
  | nil => cases e
  | cons p kvs ih =>
    obtain ⟨j, b⟩ := p
    obtain ⟨x, ys, rfl, h1, h2⟩ := datT_cons.mp h
    unfold lookT at e
    unfold valV
    by_cases q : j = k
    · subst q
      rw [List.find?_cons_of_pos (by simp)] at e ⊢
      have eb : b = d := by simpa using e
      subst eb
      exact ⟨x, rfl, h1⟩
    · rw [List.find?_cons_of_neg (by simpa using q)] at e
      rw [List.find?_cons_of_neg (by simpa using fun z => q (keyT_inj z))]
      exact ih h2 e
theorem DatT.keys {kvs : List (List Int × D)} {kws : List (List Key × V)} (h : DatT K C H kvs kws) : kws.map (·.1) = kvs.map fun p => p.1.map Sum.inl := by
  induction kvs generalizing kws with
  | nil => rw [datT_nil.mp h]; rfl
  | cons p kvs ih =>
    obtain ⟨j, b⟩ := p
    obtain ⟨x, ys, rfl, h1, h2⟩ := datT_cons.mp h
    rw [List.map_cons, List.map_cons, ih h2]
theorem DatT.len {kvs : List (List Int × D)} {kws : List (List Key × V)} (h : DatT K C H kvs kws) : kws.length = kvs.length := by
  have := congrArg List.length h.keys
  rwa [List.length_map, List.length_map] at this
theorem mergeT_nd : ∀ {more acc : List (List Key × V)}, ((acc ++ more).map (·.1)).Nodup → mergeT acc more = acc ++ more
  | [], acc, _ => by rw [List.append_nil]; rfl
  | m :: more, acc, h => by
    have hm : (acc.any fun kv => decide (kv.1 = m.1)) = false := by
      rw [List.any_eq_false]
      intro kv hkv z
      rw [List.map_append, List.nodup_append] at h
      exact h.2.2 kv.1 (List.mem_map.mpr ⟨kv, hkv, rfl⟩) m.1 (List.mem_cons_self ..) (of_decide_eq_true z)
    show mergeT (putK acc m.1 m.2) more = _
    have e : putK acc m.1 m.2 = acc ++ [m] := by
      unfold putK
      rw [hm, if_neg Bool.false_ne_true]
    rw [e, mergeT_nd (by rw [List.append_assoc]; exact h), List.append_assoc]
    rfl
def pairT (p : List Int × D) : D := .tup [.tup (dI p.1), p.2]
theorem keyV_ints (k : List Int) : (k.map (Sum.inl : Int → Key)).map kV = k.map V.int := by
  rw [List.map_map]
  rfl
theorem dats_pairsT {O : Addr → Bool} : ∀ {kvs : List (List Int × D)} {xs : List V}, Dats K C (hid O H) (kvs.map pairT) xs →
    ∃ (ps : List Addr) (ms : List (List Key × V)), xs = ps.map V.ref ∧ Paired (fun p kv => ∃ b, SqT K H p [.ref b, kv.2] ∧ H b = some (.tup (kv.1.map kV))) ps ms ∧ DatT K C (hid O H) kvs ms
  | [], xs, h => ⟨[], [], dats_nil.mp h, .nil, datT_nil.mpr rfl⟩
  | (k, d) :: kvs, xs, h => by
    obtain ⟨x, ys, rfl, h1, h2⟩ := dats_cons.mp h
    obtain ⟨a, zs, rfl, h3, h4⟩ := dat_tup_iff.mp h1
    obtain ⟨y1, y2, rfl, h5, h6⟩ := dats_two.mp h4
    obtain ⟨ps, ms, rfl, h7, h8⟩ := dats_pairsT h2
    obtain ⟨b, ws, rfl, g1, g2⟩ := dat_tup_iff.mp h5
    rw [dats_ints.mp g2] at g1
    refine ⟨a :: ps, (k.map Sum.inl, y2) :: ms, rfl, .cons ⟨b, sqT_of h3, ?_⟩ h7, datT_cons.mpr ⟨y2, ms, rfl, h6, h8⟩⟩
    rw [keyV_ints]
    exact hid_same _ _ g1
theorem nodup_keysT {kvs : List (List Int × D)} (h : (kvs.map (·.1)).Nodup) : (kvs.map fun p => p.1.map (Sum.inl : Int → Key)).Nodup := by
  have e : (kvs.map fun p => p.1.map (Sum.inl : Int → Key)) = (kvs.map (·.1)).map fun k => k.map Sum.inl := by rw [List.map_map]; rfl
  rw [e]
  exact List.pairwise_map.mpr (h.imp fun ne e => ne (keyT_inj e))
/-- dict of a list of pairs (tuple of ints, thing), the keys different -/
theorem rn_dictPT {kvs : List (List Int × D)} (nd : (kvs.map (·.1)).Nodup) : RCN K C (rDictPT K) [.lst (kvs.map pairT)] (.dtp kvs) := fun O H vs o h Q q => by
  obtain ⟨x, rfl, hx⟩ := dats_one.mp h
  obtain ⟨a, xs, rfl, h1, h2⟩ := dat_lst_iff.mp hx
  obtain ⟨ps, ms, rfl, h3, h4⟩ := dats_pairsT h2
  refine ⟨a, ps, ms, rfl, sqL_of h1, h3, fun p hp => q p _ (same_new hp) hp ?_⟩
  have e : mergeT [] ms = ms := mergeT_nd (acc := []) (by rw [List.nil_append, h4.keys]; exact nodup_keysT nd)
  rw [e]
  exact dat_dtp_iff.mpr ⟨p, ms, rfl, hid_new o hp, DatT.same (same_hid (same_new hp)) _ _ h4⟩
end
section
variable {K : PySem.W.Frag} {C : Addr} {δ : Dl} {te ti : TE} {d : D} {k : List Int} {kvs : List (List Int × D)}
/-- d[k] -/
theorem ev_dget (h : EvD K C te δ (.dtp kvs)) (hi : EvD K C ti δ (.tup (dI k))) (e : lookT kvs k = some d) : EvD K C (tDGet te ti) δ d := fun O σ H n Q q => h O σ H n _ fun v H1 s1 d1 => hi O σ H1 (n.same s1) _ fun w H2 s2 d2 => by
  obtain ⟨a, kws, rfl, h1, h2⟩ := dat_dtp_iff.mp (d1.same (same_hid (O := O) s2))
  obtain ⟨b, ws, rfl, g1, g2⟩ := dat_tup_iff.mp d2
  rw [dats_ints.mp g2] at g1
  obtain ⟨u, e1, e2⟩ := datT_look h2 e
  exact ⟨a, u, rfl, by rw [← e1]; exact DGet.t (hid_same _ _ h1) (by rw [keyV_ints]; exact hid_same _ _ g1), q u H2 (s1.trans s2) e2⟩
theorem datT_vals {H : Hp} : ∀ {kvs : List (List Int × D)} {kws : List (List Key × V)} {is : List Int}, DatT K C H kvs kws → kvs.map (·.2) = dI is → kws.map (·.2) = is.map V.int
  | [], kws, is, h, e => by
    rw [datT_nil.mp h]
    cases is with
    | nil => rfl
    | cons i is => cases e
  | (k, d) :: kvs, kws, is, h, e => by
    obtain ⟨x, ys, rfl, h1, h2⟩ := datT_cons.mp h
    cases is with
    | nil => cases e
    | cons i is =>
      obtain ⟨e1, e2⟩ := List.cons.inj e
      have e1' : d = .int i := e1
      subst e1'
      rw [List.map_cons, List.map_cons, dat_int.mp h1, datT_vals h2 e2]
/-- max(d.values()) -/
theorem ev_maxT {is : List Int} {m : Int} (h : EvD K C te δ (.dtp kvs)) (e : kvs.map (·.2) = dI is) (h1 : m ∈ is) (h2 : ∀ j ∈ is, j ≤ m) : EvD K C (tmaxValsT te) δ (.int m) := fun O σ H n Q q => h O σ H n _ fun v H1 s1 d1 => by
  obtain ⟨a, kws, rfl, g1, g2⟩ := dat_dtp_iff.mp d1
  refine ⟨a, kws, is, rfl, hid_same _ _ g1, datT_vals g2 e, fun z => (by rw [z] at h1; cases h1), fun m' k1 k2 => ?_⟩
  have em : m' = m := Int.le_antisymm (h2 m' k1) (k2 m h1)
  rw [em]
  exact q _ H1 s1 (dat_int.mpr rfl)
theorem ev_minT {is : List Int} {m : Int} (h : EvD K C te δ (.dtp kvs)) (e : kvs.map (·.2) = dI is) (h1 : m ∈ is) (h2 : ∀ j ∈ is, m ≤ j) : EvD K C (tminValsT te) δ (.int m) := fun O σ H n Q q => h O σ H n _ fun v H1 s1 d1 => by
  obtain ⟨a, kws, rfl, g1, g2⟩ := dat_dtp_iff.mp d1
  refine ⟨a, kws, is, rfl, hid_same _ _ g1, datT_vals g2 e, fun z => (by rw [z] at h1; cases h1), fun m' k1 k2 => ?_⟩
  have em : m' = m := Int.le_antisymm (k2 m h1) (h2 m' k1)
  rw [em]
  exact q _ H1 s1 (dat_int.mpr rfl)
end
section
variable {X : Cx} {e : Expr} {es : List Expr} {t : TA} {p pos apos mpos : Pos} {o i : Expr} {td ty : TE} {k : Nat}
theorem c_dictPT {K : PySem.W.Frag} (b : BFree X.mg) (hr : Room k X.A) (ha : PA X (e :: es) t) (hg : Gl X "dict" := by rfl) (hc : X.calm = true := by rfl) (hK : X.K = K := by rfl)
    (he : starEach (e :: es) X.env = (false, eval e X.env) :: starEach es X.env := by rfl) (hpl : (backTo pos (starEach es X.env)).any (·.1) = false := by rfl) :
    PE X (.Call (.Name "dict" p) (e :: es) [] pos) (tCB (rDictPT K) t) := by
  subst hK
  exact pe_callTy (call_dictPT hc (by have := hr.units; omega)) hg (b _ (by decide)) (by decide +kernel) ha (he := he) (hpl := hpl)
theorem e_dget (hr : Room k X.A) (ho : PE X o td) (hi : PE X i ty) (hs : NoSl i := by exact fun _ _ => rfl) : PE X (.Subscript o i pos) (tDGet td ty) := pe_dget (by have := hr.units; omega) ho hi hs
end
end Zm


set_option Elab.async false
set_option linter.all false
set_option maxRecDepth 100000
set_option maxHeartbeats 4000000
set_option autoImplicit false
namespace Zm
open PySem PySem.Spec L2
theorem le0 : LeD [] [] := ⟨rfl, fun i d e => by simp at e⟩
theorem leN {δ' δ : Dl} {x : Option D} (h : LeD δ' δ) : LeD (none :: δ') (x :: δ) := ⟨by rw [List.length_cons, List.length_cons, h.1], fun i d e => by
  cases i with
  | zero => simp at e
  | succ i => simpa using h.2 i d (by simpa using e)⟩
theorem leS {δ' δ : Dl} {d : D} (h : LeD δ' δ) : LeD (some d :: δ') (some d :: δ) := ⟨by rw [List.length_cons, List.length_cons, h.1], fun i e q => by
  cases i with
  | zero => simpa using q
  | succ i => simpa using h.2 i e (by simpa using q)⟩
/-! ### text that goes on and draws, of text that does not draw; lists in a told tuple -/
section
variable {K : PySem.W.Frag} {C : Addr} {j c c1 c2 : Nat} {δ δ' δ2 : Dl} {te : TE} {ts ts' : TS} {R : D → Prop}
theorem ej_draw {E : XK} {m : Int} (h : EvD K C te δ (.int m)) (h0 : 0 < m) (h1 : m < 1000000) : EvJ K C j (tCall spDraw [] E (tCons (tVar j) (tCons te tNil))) δ 1 (fun d => ∃ i, d = .int i ∧ 0 ≤ i ∧ i < m) := fun O σ H p n x hn Q q =>
  ⟨_, x.slot, h O σ H x.at_ _ fun v H1 s1 d1 => by
    rw [dat_int.mp d1]
    exact ⟨p, n, m, rfl, x.purse.same s1, by omega, h0, h1, fun i H' i0 i1 b pu => q _ H' (.int i) ((But.of s1).trans b) pu ⟨i, rfl, i0, i1⟩ (dat_int.mpr rfl)⟩⟩
theorem env_raw {H : Hp} {σ : L2.St} {p : Addr} (h : EnvR K C H σ δ) (hs : σ[j]? = some (some (.ref p))) : EnvR K C H σ (δ.set j (some (.raw (.ref p)))) := ⟨by rw [List.length_set]; exact h.1, fun i d e => by
  by_cases q : j = i
  · subst q
    rw [List.getElem?_set] at e
    split at e
    · split at e
      · have e1 : D.raw (.ref p) = d := by simpa using e
        subst e1
        exact ⟨_, hs, dat_raw.mpr rfl⟩
      · cases e
    · exact absurd rfl (by assumption)
  · rw [List.getElem?_set_ne q] at e
    exact h.2 i d e⟩
theorem sj_of (hj : δ'[j]? = some none) (h : ∀ p, StX K C ts (δ.set j (some (.raw (.ref p)))) (δ'.set j (some (.raw (.ref p))))) : StJ K C j ts δ δ' 0 := fun O σ H p n x hn Z q => by
  refine h p O σ H ⟨x.at_.own, env_raw x.at_.env x.slot⟩ Z fun σ' H' s n' => q σ' H' (But.of s) ⟨?_, x.own, x.purse.same s, ?_⟩
  · refine n'.weak ⟨by rw [List.length_set], fun i d e => ?_⟩
    by_cases k : j = i
    · subst k
      rw [hj] at e
      cases e
    · rw [List.getElem?_set_ne k]
      exact e
  · obtain ⟨v, hv, dv⟩ := n'.env.2 j (.raw (.ref p)) (by rw [List.getElem?_set_self (List.getElem?_eq_some_iff.mp hj).1])
    rw [dat_raw.mp dv] at hv
    exact hv
theorem sp_ofJ (h : StJ K C 0 ts δ δ' c1) (g : StP K C ts' δ' c2 R) : StP K C (tSeq ts ts') δ (c1 + c2) R := fun O σ H p n x hn Z q => h O σ H p n ⟨x.at_, x.own, x.purse, x.slot⟩ (by omega) { Z with nx := ts' Z } fun σ' H' s y => g O σ' H' p _ ⟨y.at_, y.own, y.purse, y.slot⟩ (by omega) Z fun v H2 d s2 p2 r hd => q v H2 d (s.trans s2) (by rw [← Nat.add_assoc]; exact p2) r hd
theorem sp_ofR {d : D} (h : StR K C ts δ d) (hd : R d) : StP K C ts δ 0 R := fun O σ H p n x hn Z q => h O σ H x.at_ Z fun v H' s d' => q v H' d (But.of s) (x.purse.same s) hd d'
end
section
variable {K : PySem.W.Frag} {C : Addr} {E : EndP} {ts : TS} {δ : Dl} {i j n : Nat} {te : TE} {d e : D} {ds es : List D}
theorem sw_lastS {W : WP} (h : StW K C E (tSeq ts tNext) δ i W) : StW K C E ts δ i W := h
theorem atI_0 {α : Type} (x : α) (xs : List α) : atI (x :: xs) 0 = some x := by
  unfold atI ixN
  rw [if_pos (by decide), if_pos (by rw [List.length_cons]; omega)]
  rfl
/-- a new tuple of new things -/
def WTup (n : Nat) (ds : List D) : WP := fun O H0 H v => ∃ a xs, v = .ref a ∧ H a = some (.tup xs) ∧ Wilds n ds O H0 H xs
theorem WTup.of (b : BndDs n ds) {O : Addr → Bool} {H0 H : Hp} {v : V} (old : Old O H0 H) (h : Dat K C (hid (dom H0) H) (.tup ds) v) : WTup n ds O H0 H v := by
  obtain ⟨a, xs, rfl, h1, h2⟩ := dat_tup_iff.mp h
  exact ⟨a, xs, rfl, hid_same _ _ h1, Wilds.of old b h2⟩
/-- x[j].append(e), x a tuple -/
theorem sw_appT {l : Int} (hn : n < 100000) (hl : l = (j : Int)) (hj : ds[j]? = some (.lst es)) (h : EvD K C te δ e) (g : StW K C E ts δ i (WTup (n + 1) ds)) :
    StW K C E (tSeq (tDrop (tBM K "list" rAppend (tOp (rIxT K) (tVar i) (tC (.int l))) (tCons te tNil))) ts) δ i (WTup n ds) := fun O0 H0 O σ H so o s n1 hv Z q => by
  obtain ⟨v, hv, a, xs, rfl, k3, k5⟩ := hv
  obtain ⟨x, e1, e2⟩ := k5.get hj
  unfold Wild at e2
  obtain ⟨b, ys, rfl, m1, m2, m3, m4, m5⟩ := e2
  have ix : atI xs l = some (.ref b) := by
    subst hl
    unfold atI ixN
    rw [if_pos (Int.natCast_nonneg j)]
    have : (j : Int) < (xs.length : Int) := by
      have := (List.getElem?_eq_some_iff.mp e1).1
      omega
    rw [if_pos this, Option.bind_some, Int.toNat_natCast]
    exact e1
  refine ⟨.ref a, hv, a, xs, l, .ref b, rfl, rfl, SqT.of k3, ix, .inl ⟨rfl, ys, (.inl (.inl m3))⟩, h O σ H n1 _ fun w H1 s1 d1 => ⟨b, ys, w, rfl, rfl, s1 _ _ m3, Nat.lt_of_le_of_lt m4 (Nat.lt_of_lt_of_le hn (by decide)), ?_⟩⟩
  have ne : a ≠ b := fun z => by
    subst z
    rw [k3] at m3
    cases m3
  exact g O0 H0 O σ _ so o (same_mut (s.trans s1) m2) ((n1.same s1).grow m1) ⟨.ref a, hv, a, xs, rfl, by rw [upd_ne ne]; exact s1 _ _ k3, Wilds.app (s1 _ _ m3) (Wilds.same s1 k5)⟩ Z q
end
section
variable {K : PySem.W.Frag} {C : Addr} {d : D} {ds : List D}
/-! a thing in a list of things -/
theorem toPys_map : ∀ (ds : List D), toPys ds = ds.map toPy
  | [] => by
    unfold toPys
    rfl
  | d :: ds => by
    rw [toPys, toPys_map ds]
    rfl
theorem r2_inD (h1 : shp d = true) (h2 : shp (.lst ds) = true) : R2D K C (rInD K) d (.lst ds) (.bl (ds.any fun z => eqD z d)) := fun O H x y o hx hy Q q => by
  obtain ⟨a1, a2⟩ := Bool.and_eq_true_iff.mp h1
  obtain ⟨b1, b2⟩ := Bool.and_eq_true_iff.mp h2
  have dy := dp_of (.lst ds) y b1 hy
  unfold toPy at dy b2
  refine ⟨toPy d, toPys ds, dp_of d x a1 hx, dy, a2, b2, ?_⟩
  rw [toPys_map, List.any_map]
  exact q _ H (Same.refl H) (dat_bl.mpr rfl)
theorem r2_notInD (h1 : shp d = true) (h2 : shp (.lst ds) = true) : R2D K C (rNotInD K) d (.lst ds) (.bl (!(ds.any fun z => eqD z d))) := fun O H x y o hx hy Q q => by
  obtain ⟨a1, a2⟩ := Bool.and_eq_true_iff.mp h1
  obtain ⟨b1, b2⟩ := Bool.and_eq_true_iff.mp h2
  have dy := dp_of (.lst ds) y b1 hy
  unfold toPy at dy b2
  refine ⟨toPy d, toPys ds, dp_of d x a1 hx, dy, a2, b2, ?_⟩
  rw [toPys_map, List.any_map]
  exact q _ H (Same.refl H) (dat_bl.mpr rfl)
theorem any_row {a : List Int} {rows : List (List Int)} : ((rows.map fun r => D.lst (dI r)).any fun z => eqD z (.lst (dI a))) = decide (a ∈ rows) := by
  rw [List.any_map, Bool.eq_iff_iff, List.any_eq_true, decide_eq_true_eq]
  constructor
  · rintro ⟨r, hr, e⟩
    have e2 : eqD (.lst (dI r)) (.lst (dI a)) = true := e
    rw [eqD_row] at e2
    rw [← of_decide_eq_true e2]
    exact hr
  · intro h
    exact ⟨a, h, by show eqD (.lst (dI a)) (.lst (dI a)) = true; rw [eqD_row]; simp⟩
theorem r2_inRows {a : List Int} {rows : List (List Int)} : R2D K C (rInD K) (.lst (dI a)) (rowsL rows) (.bl (decide (a ∈ rows))) := by
  rw [← any_row]
  exact r2_inD shp_row shp_rowsL
theorem r2_notInRows {a : List Int} {rows : List (List Int)} : R2D K C (rNotInD K) (.lst (dI a)) (rowsL rows) (.bl (!decide (a ∈ rows))) := by
  rw [← any_row]
  exact r2_notInD shp_row shp_rowsL
end
section
variable {X : Cx} {k : Nat}
theorem o_inD {K : PySem.W.Frag} (hr : Room k X.A) (hK : X.K = K := by rfl) : OpR X (compareOp .In) (rInD K) := by
  subst hK
  exact op_inD (by have := hr.un; omega)
theorem o_notInD {K : PySem.W.Frag} (hr : Room k X.A) (hK : X.K = K := by rfl) : OpR X (compareOp .NotIn) (rNotInD K) := by
  subst hK
  exact op_notInD (by have := hr.un; omega)
end
end Zm


set_option Elab.async false
set_option linter.all false
set_option maxRecDepth 100000
set_option maxHeartbeats 4000000
set_option autoImplicit false
namespace Zm
open PySem PySem.Spec L2
/-! ### comprehensions over a dict whose keys are tuples, which is locked meanwhile -/
mutual
/-- no dict with tuple keys in it -/
def noDT : D → Bool
  | .lst ds => noDTs ds
  | .tup ds => noDTs ds
  | .dic kvs => noDTk kvs
  | .dtp _ => false
  | .non => true
  | .bl _ => true
  | .int _ => true
  | .str _ => true
  | .rcp _ _ => true
  | .raw _ => true
def noDTs : List D → Bool
  | [] => true
  | d :: ds => noDT d && noDTs ds
def noDTk : List (Key × D) → Bool
  | [] => true
  | (_, d) :: ds => noDT d && noDTk ds
end
def only (a : Addr) : Addr → Bool := fun b => decide (b = a)
section
variable {K : PySem.W.Frag} {C : Addr} {H : Hp} {a : Addr} {kws : List (List Key × V)}
theorem only_at {b : Addr} {o : HO} (ha : H a = none ∨ H a = some (.dT kws)) (hb : H b = some o) (ne : o ≠ .dT kws) : hid (only a) H b = some o := by
  unfold hid only
  rw [if_neg (fun z => ?_)]
  · exact hb
  · have e := of_decide_eq_true z
    subst e
    rcases ha with ha | ha
    · rw [ha] at hb
      cases hb
    · rw [ha] at hb
      exact ne (Option.some.inj hb).symm
theorem rows_only (ha : H a = none ∨ H a = some (.dT kws)) : ∀ {rs : List (List Int)} {xs : List V}, RowsT K H rs xs → RowsT K (hid (only a) H) rs xs
  | [], _, h => h
  | _ :: rs, _, h => by
    obtain ⟨b, ys, h1, h2, h3⟩ := h
    exact ⟨b, ys, h1, only_at ha h2 (fun z => by cases z), rows_only ha h3⟩
mutual
theorem Dat.only (ha : H a = none ∨ H a = some (.dT kws)) : ∀ (d : D) (v : V), noDT d = true → Dat K C H d v → Dat K C (hid (only a) H) d v
  | .non, _, _, h => h
  | .bl _, _, _, h => h
  | .int _, _, _, h => h
  | .str _, _, _, h => h
  | .raw _, _, _, h => h
  | .lst ds, v, n, h => by
    unfold Dat at h ⊢
    unfold noDT at n
    obtain ⟨b, xs, h1, h2, h3⟩ := h
    exact ⟨b, xs, h1, only_at ha h2 (fun z => by cases z), Dats.only ha ds xs n h3⟩
  | .tup ds, v, n, h => by
    unfold Dat at h ⊢
    unfold noDT at n
    obtain ⟨b, xs, h1, h2, h3⟩ := h
    exact ⟨b, xs, h1, only_at ha h2 (fun z => by cases z), Dats.only ha ds xs n h3⟩
  | .dic ds, v, n, h => by
    unfold Dat at h ⊢
    unfold noDT at n
    obtain ⟨b, xs, h1, h2, h3⟩ := h
    exact ⟨b, xs, h1, only_at ha h2 (fun z => by cases z), DatK.only ha ds xs n h3⟩
  | .dtp ds, v, n, h => by
    unfold noDT at n
    cases n
  | .rcp m rows, v, n, h => by
    unfold Dat at h ⊢
    obtain ⟨b, dx, t, xs, h1, h2, h3, h4⟩ := h
    exact ⟨b, dx, t, xs, h1, only_at ha h2 (fun z => by cases z), only_at ha h3 (fun z => by cases z), rows_only ha h4⟩
theorem Dats.only (ha : H a = none ∨ H a = some (.dT kws)) : ∀ (d : List D) (v : List V), noDTs d = true → Dats K C H d v → Dats K C (hid (only a) H) d v
  | [], _, _, h => h
  | d :: ds, v, n, h => by
    unfold Dats at h ⊢
    unfold noDTs at n
    obtain ⟨n1, n2⟩ := Bool.and_eq_true_iff.mp n
    obtain ⟨x, ys, h1, h2, h3⟩ := h
    exact ⟨x, ys, h1, Dat.only ha d x n1 h2, Dats.only ha ds ys n2 h3⟩
theorem DatK.only (ha : H a = none ∨ H a = some (.dT kws)) : ∀ (d : List (Key × D)) (v : List (Key × V)), noDTk d = true → DatK K C H d v → DatK K C (hid (only a) H) d v
  | [], _, _, h => h
  | (k, d) :: ds, v, n, h => by
    unfold DatK at h ⊢
    unfold noDTk at n
    obtain ⟨n1, n2⟩ := Bool.and_eq_true_iff.mp n
    obtain ⟨x, ys, h1, h2, h3⟩ := h
    exact ⟨x, ys, h1, Dat.only ha d x n1 h2, DatK.only ha ds ys n2 h3⟩
end
theorem noDT_ints (ns : List Int) : noDTs (dI ns) = true := by
  induction ns with
  | nil => rfl
  | cons n ns ih =>
    show noDTs (D.int n :: dI ns) = true
    unfold noDTs
    rw [ih]
    rfl
theorem noDT_all {α : Type} {f : α → D} (h : ∀ x, noDT (f x) = true) (xs : List α) : noDTs (xs.map f) = true := by
  induction xs with
  | nil => rfl
  | cons x xs ih =>
    rw [List.map_cons]
    unfold noDTs
    rw [h, ih]
    rfl
theorem noDT_row (r : List Int) : noDT (.lst (dI r)) = true := by
  unfold noDT
  exact noDT_ints r
theorem noDT_rowsL (rows : List (List Int)) : noDT (rowsL rows) = true := by
  unfold rowsL noDT
  exact noDT_all noDT_row rows
end
/-- a dict from tuples of ints to ints -/
def dtI (kvs : List (List Int × Int)) : D := .dtp (kvs.map fun p => (p.1, D.int p.2))
def kwI (kvs : List (List Int × Int)) : List (List Key × V) := kvs.map fun p => (p.1.map Sum.inl, V.int p.2)
def getI (kvs : List (List Int × Int)) (k : List Int) : Option Int := (kvs.find? fun p => decide (p.1 = k)).map (·.2)
section
variable {K : PySem.W.Frag} {C : Addr} {δ δ' : Dl} {te ta tb : TE} {tt : TT} {i k : Nat} {kvs : List (List Int × Int)} {d e z : D} {b : Bool}
theorem datT_ints {H : Hp} : ∀ {kvs : List (List Int × Int)} {kws : List (List Key × V)}, DatT K C H (kvs.map fun p => (p.1, D.int p.2)) kws ↔ kws = kwI kvs
  | [], kws => datT_nil
  | (k, n) :: kvs, kws => by
    rw [List.map_cons, datT_cons]
    constructor
    · rintro ⟨x, ys, rfl, h1, h2⟩
      rw [dat_int.mp h1, datT_ints.mp h2]
      rfl
    · intro h
      exact ⟨_, _, h, dat_int.mpr rfl, datT_ints.mpr rfl⟩
theorem val_kwI {k : List Int} : ∀ {kvs : List (List Int × Int)} {n : Int}, getI kvs k = some n → valV (kwI kvs) (k.map Sum.inl) = some (.int n)
  | [], n, e => by cases e
  | (j, m) :: kvs, n, e => by
    unfold getI at e
    unfold valV kwI
    rw [List.map_cons]
    by_cases q : j = k
    · rw [List.find?_cons_of_pos (by simpa using q)] at e
      rw [List.find?_cons_of_pos (by simpa using congrArg (List.map (Sum.inl : Int → Key)) q)]
      have e2 : m = n := by simpa using e
      rw [e2]
      rfl
    · rw [List.find?_cons_of_neg (by simpa using q)] at e
      rw [List.find?_cons_of_neg (by simpa using fun z => q (keyT_inj z))]
      exact val_kwI (kvs := kvs) e
/-- beside a locked dict in slot i -/
def EvZ (K : PySem.W.Frag) (C : Addr) (i : Nat) (kvs : List (List Int × Int)) (te : TE) (δ : Dl) (d : D) : Prop := ∀ O σ H a od, At K C O H σ δ → σ[i]? = some (some (.ref a)) → H a = some (.frz od (.dT (kwI kvs))) → ∀ Q : VK, (∀ v H', Same H H' → Dat K C (hid O H') d v → Q v H') → te σ H Q
def EvTZ (K : PySem.W.Frag) (C : Addr) (i : Nat) (kvs : List (List Int × Int)) (tt : TT) (δ : Dl) (b : Bool) : Prop := ∀ O σ H a od, At K C O H σ δ → σ[i]? = some (some (.ref a)) → H a = some (.frz od (.dT (kwI kvs))) → ∀ Q : Bool → Hp → Prop, (∀ H', Same H H' → Q b H') → tt σ H Q
theorem ez_of (h : EvD K C te δ d) : EvZ K C i kvs te δ d := fun O σ H a od n _ _ Q q => h O σ H n Q q
theorem ezt_of (h : EvT K C tt δ b) : EvTZ K C i kvs tt δ b := fun O σ H a od n _ _ Q q => h O σ H n Q q
theorem ezt_test (h : EvZ K C i kvs te δ (.bl b)) : EvTZ K C i kvs (tTest te) δ b := fun O σ H a od n h1 h2 Q q => h O σ H a od n h1 h2 _ fun v H' s hd => ⟨b, dat_bl.mp hd, q H' s⟩
theorem ez_op {r : L2.R2} (ha : EvZ K C i kvs ta δ d) (hb : EvZ K C i kvs tb δ e) (hr : R2D K C r d e z) : EvZ K C i kvs (tOp r ta tb) δ z := fun O σ H a od n h1 h2 Q q =>
  ha O σ H a od n h1 h2 _ fun v H1 s1 d1 => hb O σ H1 a od (n.same s1) h1 (s1 _ _ h2) _ fun w H2 s2 d2 => hr O H2 v w (n.same (s1.trans s2)).own (d1.same (same_hid s2)) d2 Q fun p H3 s3 d3 => q p H3 ((s1.trans s2).trans s3) d3
theorem ez_get {key : List Int} {n : Int} (hi : EvD K C ta δ (.tup (dI key))) (e : getI kvs key = some n) : EvZ K C i kvs (tDGet (tVar i) ta) δ (.int n) := fun O σ H a od nn h1 h2 Q q => ⟨.ref a, h1, hi O σ H nn _ fun w H2 s2 d2 => by
  obtain ⟨b, ws, rfl, g1, g2⟩ := dat_tup_iff.mp d2
  rw [dats_ints.mp g2] at g1
  exact ⟨a, .int n, rfl, .inr ⟨kwI kvs, key.map Sum.inl, b, .inr ⟨od, s2 _ _ h2⟩, rfl, by rw [keyV_ints]; exact hid_same _ _ g1, (val_kwI e).symm⟩, q _ H2 s2 (dat_int.mpr rfl)⟩⟩
def LeZ (δ' δ : Dl) : Prop := δ'.length = δ.length ∧ ∀ (i : Nat) (d : D), δ'[i]? = some (some d) → δ[i]? = some (some d) ∧ noDT d = true
theorem leZ_nil : LeZ [] [] := ⟨rfl, fun i d e => by simp at e⟩
theorem leZ_none {x : Option D} (h : LeZ δ' δ) : LeZ (none :: δ') (x :: δ) := ⟨by rw [List.length_cons, List.length_cons, h.1], fun i d e => by
  cases i with
  | zero => simp at e
  | succ i => simpa using h.2 i d (by simpa using e)⟩
theorem leZ_some {d : D} (n : noDT d = true) (h : LeZ δ' δ) : LeZ (some d :: δ') (some d :: δ) := ⟨by rw [List.length_cons, List.length_cons, h.1], fun i e q => by
  cases i with
  | zero =>
    have e1 : d = e := by simpa using q
    subst e1
    exact ⟨rfl, n⟩
  | succ i => simpa using h.2 i e (by simpa using q)⟩
theorem only_add {O : Addr → Bool} {H : Hp} {a : Addr} : hid (only a) (hid O H) = hid (addO O a) H := by
  funext b
  unfold hid only addO
  by_cases h1 : b = a
  · simp [h1]
  · by_cases h2 : O b = true
    · simp [h1, h2]
    · simp [h1, h2]
/-- [te for key in d if tt] -/
theorem en_lcKeysD {p : List Int → Bool} {f : List Int → D} (hi : δ[i]? = some (some (dtI kvs))) (hik : i ≠ k) (le : LeZ δ' δ) (hk : k < δ.length) (hl : kvs.length ≤ 100000)
    (hT : ∀ kv ∈ kvs, EvTZ K C i kvs tt (δ'.set k (some (.tup (dI kv.1)))) (p kv.1)) (hE : ∀ kv ∈ kvs, p kv.1 = true → EvZ K C i kvs te (δ'.set k (some (.tup (dI kv.1)))) (f kv.1)) :
    EvN K C (tLockE (tLc (iKeys (tVar i)) (gName k) tt te [k])) δ (.lst ((kvs.filter fun kv => p kv.1).map fun kv => f kv.1)) := fun O σ H n Q q => by
  obtain ⟨v, hv, dv⟩ := n.env.2 i _ hi
  obtain ⟨a, kws, rfl, ha0, hkw⟩ := dat_dtp_iff.mp dv
  rw [datT_ints.mp hkw] at ha0
  have ha := hid_same _ _ ha0
  have kl : (kwI kvs).length = kvs.length := List.length_map _
  refine ⟨a, .dT (kwI kvs), ha, trivial, fun od => ?_⟩
  refine ⟨.ref a, hv, a, od, rfl, .inr ⟨kwI kvs, upd_same, fun D hD => ?_⟩⟩
  have aD : a ≠ D := ne_of_none upd_same hD
  have hDn : H D = none := by rw [upd_ne (Ne.symm aD)] at hD; exact hD
  have env0 : EnvR K C (hid (addO O a) H) σ δ' := ⟨n.env.1.trans le.1.symm, fun j d e => by
    obtain ⟨h1, h2⟩ := le.2 j d e
    obtain ⟨w, k1, k2⟩ := n.env.2 j d h1
    refine ⟨w, k1, ?_⟩
    have := Dat.only (a := a) (kws := kwI kvs) (.inr ha0) d w h2 k2
    rwa [only_add] at this⟩
  have hiO : ∀ {c : Addr}, addO (addO O a) D c = true ↔ O c = true ∨ c = a ∨ c = D := fun {c} => by
    unfold addO
    rw [Bool.or_eq_true, Bool.or_eq_true, decide_eq_true_eq, decide_eq_true_eq, or_assoc]
  refine ⟨fun j m H2 => m = kvs.length - j ∧ j ≤ kvs.length ∧ Same (upd H a (.frz od (.dT (kwI kvs)))) H2 ∧ ∃ acc, H2 D = some (.lst acc) ∧ Dats K C (hid (addO (addO O a) D) H2) (((kvs.take j).filter fun kv => p kv.1).map fun kv => f kv.1) acc, ⟨kvs.length, by omega, Nat.zero_le _, same_new hD, [], upd_same, by rw [List.take_zero]; exact .nil⟩, ?_⟩
  rintro j m H2 ⟨rfl, hj, s2, acc, hacc, dacc⟩
  have fa2 := s2 _ _ (upd_same (H := H) (a := a) (o := .frz od (.dT (kwI kvs))))
  by_cases hlt : j < kvs.length
  · have hkv : kvs[j]? = some kvs[j] := List.getElem?_eq_getElem hlt
    have hmem : kvs[j] ∈ kvs := List.getElem_mem hlt
    refine .inr ⟨⟨fa2, by rw [kl]; exact hlt⟩, fun H3 => j + 1 ≤ kvs.length ∧ Same (upd H a (.frz od (.dT (kwI kvs)))) H3 ∧ ∃ acc, H3 D = some (.lst acc) ∧ Dats K C (hid (addO (addO O a) D) H3) (((kvs.take (j + 1)).filter fun kv => p kv.1).map fun kv => f kv.1) acc, fun H' hN => ⟨_, by omega, rfl, hN⟩, ?_⟩
    rintro x H3 ⟨rfl, ky, w, qq, e1, rfl, hq⟩
    have e2 : (kwI kvs)[j]? = some (kvs[j].1.map Sum.inl, V.int kvs[j].2) := by
      unfold kwI
      rw [List.getElem?_map, hkv]
      rfl
    rw [e2] at e1
    have ek : ky = kvs[j].1.map Sum.inl := (congrArg Prod.fst (Option.some.inj e1)).symm
    rw [ek, keyV_ints] at hq
    have qa : qq ≠ a := fun z => by
      rw [z, fa2] at hq
      cases hq
    have qD : qq ≠ D := fun z => by
      rw [z, hacc] at hq
      cases hq
    have qO : ¬ O qq = true := fun z => by
      have := n.own qq z
      cases r : H qq with
      | none => exact this r
      | some u =>
        have e3 := s2 qq u (by rw [upd_ne qa]; exact r)
        rw [hq] at e3
        have nt := n.own.nt qq u z r
        rw [← Option.some.inj e3] at nt
        exact nt
    have ht : kvs.take (j + 1) = kvs.take j ++ [kvs[j]] := List.take_succ_eq_append_getElem hlt
    have sv : Same (hid (addO O a) H) (hid (addO (addO O a) D) H3) := fun c u e => by
      unfold hid at e ⊢
      split at e
      · cases e
      · rename_i z
        have ca : c ≠ a := fun y => z (by unfold addO; simp [y])
        have cO : ¬ O c = true := fun y => z (by unfold addO; rw [y]; rfl)
        have cD : c ≠ D := fun y => by rw [y, hDn] at e; cases e
        rw [if_neg (fun y => (hiO.mp y).elim cO fun y => y.elim ca cD)]
        exact s2 c u (by rw [upd_ne ca]; exact e)
    have o2 : OIn (addO (addO O a) D) H3 := by
      refine ⟨fun c hc => ?_, fun c u hc hu => ?_⟩
      · rcases hiO.mp hc with h | h | h
        · by_cases ca : c = a
          · rw [ca, fa2]
            exact fun z => by cases z
          · intro z
            have := n.own c h
            cases r : H c with
            | none => exact this r
            | some u =>
              have e3 := s2 c u (by rw [upd_ne ca]; exact r)
              rw [z] at e3
              cases e3
        · rw [h, fa2]
          exact fun z => by cases z
        · rw [h, hacc]
          exact fun z => by cases z
      · rcases hiO.mp hc with h | h | h
        · by_cases ca : c = a
          · rw [ca, fa2] at hu
            rw [← Option.some.inj hu]
            trivial
          · have := n.own c h
            cases r : H c with
            | none => exact absurd r this
            | some u2 =>
              have e3 := s2 c u2 (by rw [upd_ne ca]; exact r)
              rw [hu] at e3
              rw [Option.some.inj e3]
              exact n.own.nt c u2 h r
        · rw [h, fa2] at hu
          rw [← Option.some.inj hu]
          trivial
        · rw [h, hacc] at hu
          rw [← Option.some.inj hu]
          trivial
    have n3 : At K C (addO (addO O a) D) H3 ((L2.wipe σ [k]).set k (some (.ref qq))) (δ'.set k (some (.tup (dI kvs[j].1)))) := by
      refine ⟨o2, ?_⟩
      have ew : (L2.wipe σ [k]).set k (some (.ref qq)) = σ.set k (some (.ref qq)) := by
        show (σ.set k none).set k (some (.ref qq)) = _
        rw [List.set_set]
      rw [ew]
      refine (env0.same sv).set k (dat_tup_iff.mpr ⟨qq, _, rfl, ?_, dats_ints.mpr rfl⟩)
      unfold hid
      rw [if_neg (fun y => (hiO.mp y).elim qO fun y => y.elim qa qD)]
      exact hq
    have slot : ((L2.wipe σ [k]).set k (some (.ref qq)))[i]? = some (some (.ref a)) := by
      show ((σ.set k none).set k (some (.ref qq)))[i]? = _
      rw [List.set_set, List.getElem?_set_ne (Ne.symm hik)]
      exact hv
    refine ⟨?_, ?_⟩
    · show ((σ.set k none).set k (some (.ref qq))).set k none = σ.set k none
      rw [List.set_set, List.set_set]
    · refine hT _ hmem _ _ _ a od n3 slot fa2 _ fun H5 s5 => ?_
      cases hp : p kvs[j].1 with
      | false =>
        refine iteF ⟨hlt, s2.trans s5, acc, s5 _ _ hacc, ?_⟩
        rw [ht, List.filter_append, List.filter_cons, hp, if_neg Bool.false_ne_true, List.filter_nil, List.append_nil]
        exact dacc.same (same_hid s5)
      | true =>
        refine iteT (hE _ hmem hp _ _ _ a od (n3.same s5) slot (s5 _ _ fa2) _ fun y H6 s6 d6 => ?_)
        have l1 : acc.length ≤ kvs.length := by
          rw [dacc.length, List.length_map]
          exact Nat.le_trans (List.length_filter_le _ _) (by rw [List.length_take]; omega)
        refine ⟨acc, s6 _ _ (s5 _ _ hacc), Nat.lt_of_le_of_lt (Nat.le_trans l1 hl) (by decide), hlt, same_mut ((s2.trans s5).trans s6) hD, _, upd_same, ?_⟩
        rw [add_upd, ht, List.filter_append, List.filter_cons, hp, if_pos rfl, List.filter_nil, List.map_append]
        exact (dacc.same (same_hid (s5.trans s6))).append (.one d6)
  · have e : j = kvs.length := by omega
    subst e
    rw [List.take_length] at dacc
    refine .inl ⟨⟨fa2, by rw [kl]; exact Nat.le_refl _⟩, fa2, ?_⟩
    refine q D _ (fun b u hb => ?_) hDn ?_
    · by_cases e : b = a
      · subst e
        rw [upd_same, ← ha]
        exact hb
      · rw [upd_ne e]
        exact s2 b u (by rw [upd_ne e]; exact hb)
    · refine dat_lst_iff.mpr ⟨D, acc, rfl, ?_, dacc.same fun b u hb => ?_⟩
      · unfold hid
        rw [if_neg (fun z => n.own D z hDn), upd_ne (Ne.symm aD)]
        exact hacc
      · unfold hid at hb ⊢
        by_cases hO : addO (addO O a) D b = true
        · rw [if_pos hO] at hb
          cases hb
        · rw [if_neg hO] at hb
          have h1 : ¬ O b = true := fun z => hO (hiO.mpr (.inl z))
          have h2 : b ≠ a := fun z => hO (hiO.mpr (.inr (.inl z)))
          rw [if_neg h1, upd_ne h2]
          exact hb
/-- .., the elements ints -/
theorem en_lcKeys {p : List Int → Bool} {f : List Int → Int} (hi : δ[i]? = some (some (dtI kvs))) (hik : i ≠ k) (le : LeZ δ' δ) (hk : k < δ.length) (hl : kvs.length ≤ 100000)
    (hT : ∀ kv ∈ kvs, EvTZ K C i kvs tt (δ'.set k (some (.tup (dI kv.1)))) (p kv.1)) (hE : ∀ kv ∈ kvs, p kv.1 = true → EvZ K C i kvs te (δ'.set k (some (.tup (dI kv.1)))) (.int (f kv.1))) :
    EvN K C (tLockE (tLc (iKeys (tVar i)) (gName k) tt te [k])) δ (.lst (dI ((kvs.filter fun kv => p kv.1).map fun kv => f kv.1))) := by
  have := en_lcKeysD (f := fun l => .int (f l)) hi hik le hk hl hT hE
  unfold dI
  rw [List.map_map]
  exact this
end
end Zm


set_option Elab.async false
set_option linter.all false
set_option maxRecDepth 100000
set_option maxHeartbeats 4000000
set_option autoImplicit false
namespace Zm
open PySem PySem.Spec L2
/-! ### an own list or dict in slot i whose places are set while it is read -/
def rem (O : Addr → Bool) (a : Addr) : Addr → Bool := fun b => O b && !decide (b = a)
theorem rem_le {O : Addr → Bool} {a : Addr} {H : Hp} : Same (hid O H) (hid (rem O a) H) := hid_sub fun b e => by
  unfold rem at e
  exact (Bool.and_eq_true_iff.mp e).1
theorem rem_self {O : Addr → Bool} {a : Addr} : rem O a a = false := by
  unfold rem
  simp
structure AtO (K : PySem.W.Frag) (C : Addr) (i : Nat) (O : Addr → Bool) (H : Hp) (σ : L2.St) (δ : Dl) (a : Addr) (d : D) : Prop where
  at_ : At K C O H σ δ
  own : O a = true
  slot : σ[i]? = some (some (.ref a))
  dat : Dat K C (hid (rem O a) H) d (.ref a)
section
variable (K : PySem.W.Frag) (C : Addr) (i : Nat)
def StO (ts : TS) (δ : Dl) (d : D) (δ' : Dl) (d' : D) : Prop := ∀ O σ H a, AtO K C i O H σ δ a d → ∀ Z : Ends, (∀ σ' H', But a H H' → AtO K C i O H' σ' δ' a d' → Z.nx σ' H') → ts Z σ H
end
section
variable {K : PySem.W.Frag} {C : Addr} {i j k r : Nat} {O : Addr → Bool} {H H' : Hp} {σ : L2.St} {δ δ' δ2 : Dl} {a : Addr} {d d' d2 e : D} {te ti : TE} {tt : TT} {ts ts' : TS} {b : Bool}
theorem AtO.vis (x : AtO K C i O H σ δ a d) (hi : i < δ.length) : At K C (rem O a) H σ (δ.set i (some d)) := ⟨⟨fun b e => x.at_.own b (Bool.and_eq_true_iff.mp e).1, fun b u e => x.at_.own.nt b u (Bool.and_eq_true_iff.mp e).1⟩, by
  have h : EnvR K C (hid (rem O a) H) σ δ := x.at_.env.same rem_le
  refine ⟨by rw [List.length_set]; exact h.1, fun l e q => ?_⟩
  by_cases z : i = l
  · subst z
    rw [List.getElem?_set_self hi] at q
    have e1 : d = e := by simpa using q
    subst e1
    exact ⟨_, x.slot, x.dat⟩
  · rw [List.getElem?_set_ne z] at q
    exact h.2 l e q⟩
theorem AtO.same (x : AtO K C i O H σ δ a d) (s : Same H H') : AtO K C i O H' σ δ a d := ⟨x.at_.same s, x.own, x.slot, x.dat.same (same_hid s)⟩
theorem so_seq (h : StO K C i ts δ d δ' d') (g : StO K C i ts' δ' d' δ2 d2) : StO K C i (tSeq ts ts') δ d δ2 d2 := fun O σ H a x Z q => h O σ H a x { Z with nx := ts' Z } fun σ1 H1 s1 x1 => g O σ1 H1 a x1 Z fun σ2 H2 s2 x2 => q σ2 H2 (s1.trans s2) x2
theorem so_next : StO K C i tNext δ d δ d := fun O σ H a x Z q => q σ H (But.refl a H) x
theorem so_weak (h : StO K C i ts δ d δ2 d') (l : LeD δ' δ2) : StO K C i ts δ d δ' d' := fun O σ H a x Z q => h O σ H a x Z fun σ' H' s y => q σ' H' s ⟨y.at_.weak l, y.own, y.slot, y.dat⟩
theorem so_pre (h : StO K C i ts δ' d δ2 d') (l : LeD δ' δ) : StO K C i ts δ d δ2 d' := fun O σ H a x Z q => h O σ H a ⟨x.at_.weak l, x.own, x.slot, x.dat⟩ Z q
/-- x = te, a scalar -/
theorem so_set (hj : j ≠ i) (hi : i < δ.length) (h : EvD K C te (δ.set i (some d)) e) (se : sca e = true) : StO K C i (tAsg te (gName j)) δ d (δ.set j (some e)) d := fun O σ H a x Z q => h _ σ H (x.vis hi) _ fun v H1 s1 d1 => by
  have y := x.same s1
  exact q _ H1 (But.of s1) ⟨⟨y.at_.own, y.at_.env.set j (sca_dat se d1)⟩, y.own, by rw [List.getElem?_set_ne hj]; exact y.slot, y.dat⟩
/-- .. a wholly new thing -/
theorem so_setF (hj : j ≠ i) (hi : i < δ.length) (h : EvF K C te (δ.set i (some d)) e) : StO K C i (tAsg te (gName j)) δ d (δ.set j (some e)) d := fun O σ H a x Z q => h _ σ H (x.vis hi) _ fun v H1 s1 d1 => by
  have y := x.same s1
  exact q _ H1 (But.of s1) ⟨⟨y.at_.own, y.at_.env.set j (d1.same (dom_own x.at_.own))⟩, y.own, by rw [List.getElem?_set_ne hj]; exact y.slot, y.dat⟩
/-- .. that does not look at it -/
theorem so_setD (hj : j ≠ i) (h : EvD K C te δ e) : StO K C i (tAsg te (gName j)) δ d (δ.set j (some e)) d := fun O σ H a x Z q => h O σ H x.at_ _ fun v H1 s1 d1 => by
  have y := x.same s1
  exact q _ H1 (But.of s1) ⟨⟨y.at_.own, y.at_.env.set j d1⟩, y.own, by rw [List.getElem?_set_ne hj]; exact y.slot, y.dat⟩
theorem so_if (hi : i < δ.length) (h : EvT K C tt (δ.set i (some d)) b) (h1 : b = true → StO K C i ts δ d δ' d') (h2 : b = false → StO K C i ts' δ d δ' d') : StO K C i (tIfS tt ts ts') δ d δ' d' := fun O σ H a x Z q => h _ σ H (x.vis hi) _ fun H1 s1 => by
  have y := x.same s1
  cases b with
  | true => exact h1 rfl O σ H1 a y Z fun σ' H' s' y' => q σ' H' ((But.of s1).trans s') y'
  | false => exact h2 rfl O σ H1 a y Z fun σ' H' s' y' => q σ' H' ((But.of s1).trans s') y'
theorem but_hid' (s : But a H H') (h : O a = true) : Same (hid O H) (hid O H') := but_hid s h
/-- a loop over what is not it; ds n: what it is ahead of turn n -/
theorem so_for {α : Type} {as : List α} {g0 : α → D} {ds : Nat → D} {δs : Nat → Dl} {wi : TI} {tb : TS} (hr : r ≠ i) (hI : EvI K C wi δ (as.map g0)) (h0 : LeD (δs 0) δ)
    (hB : ∀ n x, as[n]? = some x → StO K C i tb ((δs n).set r (some (g0 x))) (ds n) (δs (n + 1)) (ds (n + 1))) : StO K C i (tFor wi (gName r) tb) δ (ds 0) (δs as.length) (ds as.length) := fun O σ H a x Z q => hI O σ H x.at_ _ fun J H1 s1 w => by
  have x1 := x.same s1
  have wl : (as.map g0).length = as.length := List.length_map _
  refine ⟨fun n m σ2 H2 => m = as.length - n ∧ n ≤ as.length ∧ But a H1 H2 ∧ AtO K C i O H2 σ2 (δs n) a (ds n), ⟨as.length, by omega, Nat.zero_le _, But.refl a H1, ⟨x1.at_.weak h0, x1.own, x1.slot, x1.dat⟩⟩, ?_⟩
  rintro n m σ2 H2 ⟨rfl, hn, s2, x2⟩
  by_cases hlt : n < as.length
  · have hia : as[n]? = some as[n] := by simp [hlt]
    refine .inr ⟨w.go _ n H2 (but_hid s2 x.own) x2.at_.own (by rw [wl]; exact hlt), fun σ3 H3 => n + 1 ≤ as.length ∧ But a H1 H3 ∧ AtO K C i O H3 σ3 (δs (n + 1)) a (ds (n + 1)), fun σ3 H3 hN => ⟨_, by omega, rfl, hN⟩, fun y H3 hy => ?_⟩
    obtain ⟨s3, d3⟩ := w.yld _ n H2 y H3 (g0 as[n]) (but_hid s2 x.own) x2.at_.own (by rw [List.getElem?_map, hia]; rfl) hy
    have x3 := x2.same s3
    refine hB n _ hia O (σ2.set r (some y)) H3 a ⟨⟨x3.at_.own, x3.at_.env.set r d3⟩, x3.own, by rw [List.getElem?_set_ne hr]; exact x3.slot, x3.dat⟩ _ fun σ4 H4 s4 x4 => ?_
    exact ⟨hlt, (s2.trans (But.of s3)).trans s4, x4⟩
  · have e : n = as.length := by omega
    subst e
    exact .inl ⟨by rw [← wl]; exact w.stop _ H2 (but_hid s2 x.own) x2.at_.own, q σ2 H2 ((But.of s1).trans s2) x2⟩
theorem Dats.setS {v : V} : ∀ {ds : List D} {xs : List V}, Dats K C H ds xs → ∀ (n : Nat), Dat K C H e v → Dats K C H (ds.set n e) (xs.set n v)
  | [], xs, h, n, _ => by
    rw [dats_nil.mp h]
    exact .nil
  | d :: ds, xs, h, n, he => by
    obtain ⟨x, ys, rfl, h1, h2⟩ := dats_cons.mp h
    cases n with
    | zero => exact .cons he h2
    | succ n => exact .cons h1 (Dats.setS h2 n he)
theorem so_forE {α : Type} {as : List α} {g0 : α → D} {ds : Nat → D} {δs : Nat → Dl} {wi : TI} {tb : TS} (e0 : ds 0 = d) (eN : ds as.length = d') (l : LeD δ' (δs as.length)) (hr : r ≠ i) (hI : EvI K C wi δ (as.map g0)) (h0 : LeD (δs 0) δ)
    (hB : ∀ n x, as[n]? = some x → StO K C i tb ((δs n).set r (some (g0 x))) (ds n) (δs (n + 1)) (ds (n + 1))) : StO K C i (tFor wi (gName r) tb) δ d δ' d' := by
  subst e0 eN
  exact so_weak (so_for hr hI h0 hB) l
/-- x[te1] = te2, x a list of scalars -/
theorem so_put {ds : List D} {n : Nat} (hi : i < δ.length) (hs : ∀ z ∈ ds, sca z = true) (hl : ds.length ≤ 100000) (hn : n < ds.length) (hv : EvD K C te (δ.set i (some (.lst ds))) e) (se : sca e = true) (hk : EvD K C ti (δ.set i (some (.lst ds))) (.int (n : Int))) :
    StO K C i (tAsg te (gSub (tVar i) ti L2.rSetL)) δ (.lst ds) δ (.lst (ds.set n e)) := fun O σ H a x Z q => hv _ σ H (x.vis hi) _ fun v H1 s1 d1 => by
  have x1 := x.same s1
  refine ⟨.ref a, x1.slot, hk _ σ H1 (x1.vis hi) _ fun w H2 s2 d2 => ?_⟩
  have x2 := x1.same s2
  obtain ⟨a', xs, e1, h1, h2⟩ := dat_lst_iff.mp x2.dat
  cases e1
  have hx := hid_same _ _ h1
  refine ⟨a, xs, (n : Int), n, rfl, dat_int.mp d2, hx, ?_, ?_⟩
  · unfold ixN
    rw [h2.length, if_pos (by omega), if_pos (by omega), Int.toNat_natCast]
  · have eh : hid O (upd H2 a (.lst (xs.set n v))) = hid O H2 := hid_upd x.own
    refine q σ _ ((But.of (s1.trans s2)).trans fun c u ne hc => by rw [upd_ne ne]; exact hc) ⟨⟨x2.at_.own.upd trivial, by rw [eh]; exact x2.at_.env⟩, x.own, x.slot, ?_⟩
    · refine dat_lst_iff.mpr ⟨a, xs.set n v, rfl, ?_, ?_⟩
      · unfold hid
        rw [rem_self, if_neg Bool.false_ne_true, upd_same]
      · exact (sca_dats hs h2).setS n (sca_dat se (d1.same (same_hid s2)))
/-- what stands at an address of its own -/
def RefD (K : PySem.W.Frag) (C : Addr) (d : D) : Prop := ∀ (H : Hp) (v : V), Dat K C H d v → ∃ a o, v = .ref a ∧ H a = some o ∧ NoT o
theorem ref_lst {ds : List D} : RefD K C (.lst ds) := fun H v h => by
  obtain ⟨a, xs, e, h1, _⟩ := dat_lst_iff.mp h
  exact ⟨a, _, e, h1, trivial⟩
theorem ref_dtp {ds : List (List Int × D)} : RefD K C (.dtp ds) := fun H v h => by
  obtain ⟨a, xs, e, h1, _⟩ := dat_dtp_iff.mp h
  exact ⟨a, _, e, h1, trivial⟩
/-- a new thing of one's own, and what is done with it -/
theorem sx_own (hd : RefD K C d) (hi : i < δ.length) (h : EvN K C te δ d) (g : StO K C i ts (δ.set i none) d δ' d') (hj : i < δ'.length) : StX K C (tSeq (tAsg te (gName i)) ts) δ (δ'.set i (some d')) := fun O σ H n Z q => h O σ H n _ fun p H1 s1 hp d1 => by
  have pO : ¬ O p = true := fun z => n.own p z hp
  have eR : rem (addO O p) p = O := by
    funext b
    unfold rem addO
    by_cases hb : b = p
    · subst hb
      rw [Bool.not_eq_true] at pO
      rw [pO]
      simp
    · simp [hb]
  obtain ⟨p', o, e1, hp0, no⟩ := hd _ _ d1
  cases e1
  have hp1 := hid_same _ _ hp0
  have x1 : AtO K C i (addO O p) H1 (σ.set i (some (.ref p))) (δ.set i none) p d := ⟨⟨(n.own.same s1).add ⟨_, hp1, no⟩, (n.env.same ((add_fresh hp).trans (same_hid s1))).unset (some (.ref p)) i⟩, by unfold addO; simp, List.getElem?_set_self (by rw [n.env.1]; exact hi), by rw [eR]; exact d1⟩
  refine g _ _ _ p x1 Z fun σ' H' s' x' => ?_
  refine q σ' H' (fun b u hb => ?_) ?_
  · have ne : b ≠ p := fun z => by rw [z, hp] at hb; cases hb
    exact s' b u ne (s1 b u hb)
  · have v := x'.vis hj
    rw [eR] at v
    exact v
theorem sr_as2 {a b c : TS} {d : D} (h : StR K C (tSeq (tSeq a b) c) δ d) : StR K C (tSeq a (tSeq b c)) δ d := h
theorem sx_as2 {a b c : TS} (h : StX K C (tSeq (tSeq a b) c) δ δ') : StX K C (tSeq a (tSeq b c)) δ δ' := h
theorem sf_as2 {a b c : TS} {d : D} (h : StF K C (tSeq (tSeq a b) c) δ d) : StF K C (tSeq a (tSeq b c)) δ d := h
/-- x.append(te) -/
theorem so_app {ds : List D} (hi : i < δ.length) (hs : ∀ z ∈ ds, sca z = true) (hl : ds.length < 100000) (hv : EvD K C te (δ.set i (some (.lst ds))) e) (se : sca e = true) :
    StO K C i (tDrop (tBM K "list" rAppend (tVar i) (tCons te tNil))) δ (.lst ds) δ (.lst (ds ++ [e])) := fun O σ H a x Z q => by
  obtain ⟨a0, xs0, e0, h0, _⟩ := dat_lst_iff.mp x.dat
  cases e0
  refine ⟨.ref a, x.slot, .inl ⟨rfl, xs0, .inl (.inl (hid_same _ _ h0))⟩, hv _ σ H (x.vis hi) _ fun v H1 s1 d1 => ?_⟩
  have x1 := x.same s1
  obtain ⟨a', xs, e1, h1, h2⟩ := dat_lst_iff.mp x1.dat
  cases e1
  have hx := hid_same _ _ h1
  refine ⟨a, xs, v, rfl, rfl, hx, by rw [h2.length]; exact Nat.lt_of_lt_of_le hl (by decide), ?_⟩
  have eh : hid O (upd H1 a (.lst (xs ++ [v]))) = hid O H1 := hid_upd x.own
  refine q σ _ ((But.of s1).trans fun c u ne hc => by rw [upd_ne ne]; exact hc) ⟨⟨x1.at_.own.upd trivial, by rw [eh]; exact x1.at_.env⟩, x.own, x.slot, ?_⟩
  · refine dat_lst_iff.mpr ⟨a, xs ++ [v], rfl, ?_, (sca_dats hs h2).append (.one (sca_dat se d1))⟩
    unfold hid
    rw [rem_self, if_neg Bool.false_ne_true, upd_same]
/-- while .., N turns -/
theorem so_while {N : Nat} {ds : Nat → D} {δs : Nat → Dl} {tb : TS} (hi : ∀ n, i < (δs n).length) (h0 : LeD (δs 0) δ) (hT : ∀ n, n ≤ N → EvT K C tt ((δs n).set i (some (ds n))) (decide (n < N))) (hB : ∀ n, n < N → StO K C i tb (δs n) (ds n) (δs (n + 1)) (ds (n + 1))) :
    StO K C i (tWhile tt tb) δ (ds 0) (δs N) (ds N) := fun O σ H a x Z q => by
  refine ⟨fun m σ2 H2 => ∃ n, m = N - n ∧ n ≤ N ∧ But a H H2 ∧ AtO K C i O H2 σ2 (δs n) a (ds n), ⟨N, 0, by omega, Nat.zero_le _, But.refl a H, ⟨x.at_.weak h0, x.own, x.slot, x.dat⟩⟩, ?_⟩
  rintro m σ2 H2 ⟨n, rfl, hn, s2, x2⟩
  refine hT n hn _ σ2 H2 (x2.vis (hi n)) _ fun H3 s3 => ?_
  have x3 := x2.same s3
  by_cases h : n < N
  · rw [decide_eq_true h, if_pos rfl]
    refine ⟨fun σ' H' => n + 1 ≤ N ∧ But a H H' ∧ AtO K C i O H' σ' (δs (n + 1)) a (ds (n + 1)), fun σ' H' hN => ⟨N - (n + 1), by omega, n + 1, rfl, hN.1, hN.2⟩, ?_⟩
    exact hB n h O σ2 H3 a x3 _ fun σ4 H4 s4 x4 => ⟨h, (s2.trans (But.of s3)).trans s4, x4⟩
  · have e : n = N := by omega
    subst e
    rw [decide_eq_false h, if_neg Bool.false_ne_true]
    exact q σ2 H3 (s2.trans (But.of s3)) x3
theorem so_whileE {N : Nat} {ds : Nat → D} {δs : Nat → Dl} {tb : TS} (e0 : ds 0 = d) (eN : ds N = d') (l : LeD δ' (δs N)) (hi : ∀ n, i < (δs n).length) (h0 : LeD (δs 0) δ) (hT : ∀ n, n ≤ N → EvT K C tt ((δs n).set i (some (ds n))) (decide (n < N))) (hB : ∀ n, n < N → StO K C i tb (δs n) (ds n) (δs (n + 1)) (ds (n + 1))) :
    StO K C i (tWhile tt tb) δ d δ' d' := by
  subst e0 eN
  exact so_weak (so_while hi h0 hT hB) l
theorem sf_as4 {a b c e r : TS} {z : D} (h : StF K C (tSeq a (tSeq (tSeq b (tSeq c e)) r)) δ z) : StF K C (tSeq a (tSeq b (tSeq c (tSeq e r)))) δ z := h
/-- ends by a break -/
def StOB (K : PySem.W.Frag) (C : Addr) (i : Nat) (ts : TS) (δ : Dl) (d : D) (δ' : Dl) (d' : D) : Prop := ∀ O σ H a, AtO K C i O H σ δ a d → ∀ Z : Ends, (∀ σ' H', But a H H' → AtO K C i O H' σ' δ' a d' → Z.bk σ' H') → ts Z σ H
theorem sob_seq (h : StO K C i ts δ d δ' d') (g : StOB K C i ts' δ' d' δ2 d2) : StOB K C i (tSeq ts ts') δ d δ2 d2 := fun O σ H a x Z q => h O σ H a x { Z with nx := ts' Z } fun σ1 H1 s1 x1 => g O σ1 H1 a x1 Z fun σ2 H2 s2 x2 => q σ2 H2 (s1.trans s2) x2
theorem sob_if (hi : i < δ.length) (h : EvT K C tt (δ.set i (some d)) true) : StOB K C i (tSeq (tIfS tt tBreak ts) ts') δ d δ d := fun O σ H a x Z q => h _ σ H (x.vis hi) _ fun H1 s1 => by
  rw [if_pos rfl]
  exact q σ H1 (But.of s1) (x.same s1)
/-- a loop that breaks at turn k -/
theorem so_forB {α : Type} {as : List α} {g0 : α → D} {ds : Nat → D} {δs : Nat → Dl} {δe : Dl} {de : D} {wi : TI} {tb : TS} (kk : Nat) {x0 : α} (hr : r ≠ i) (hI : EvI K C wi δ (as.map g0)) (h0 : LeD (δs 0) δ) (hk : as[kk]? = some x0)
    (hB : ∀ n x, n < kk → as[n]? = some x → StO K C i tb ((δs n).set r (some (g0 x))) (ds n) (δs (n + 1)) (ds (n + 1))) (hE : StOB K C i tb ((δs kk).set r (some (g0 x0))) (ds kk) δe de) : StO K C i (tFor wi (gName r) tb) δ (ds 0) δe de := fun O σ H a x Z q => hI O σ H x.at_ _ fun J H1 s1 w => by
  have x1 := x.same s1
  have hkl := (List.getElem?_eq_some_iff.mp hk).1
  have wl : (as.map g0).length = as.length := List.length_map _
  refine ⟨fun n m σ2 H2 => m = as.length - n ∧ n ≤ kk ∧ But a H1 H2 ∧ AtO K C i O H2 σ2 (δs n) a (ds n), ⟨as.length, by omega, Nat.zero_le _, But.refl a H1, ⟨x1.at_.weak h0, x1.own, x1.slot, x1.dat⟩⟩, ?_⟩
  rintro n m σ2 H2 ⟨rfl, hn, s2, x2⟩
  have hlt : n < as.length := by omega
  have hia : as[n]? = some as[n] := by simp [hlt]
  refine .inr ⟨w.go _ n H2 (but_hid s2 x.own) x2.at_.own (by rw [wl]; exact hlt), fun σ3 H3 => n + 1 ≤ kk ∧ But a H1 H3 ∧ AtO K C i O H3 σ3 (δs (n + 1)) a (ds (n + 1)), fun σ3 H3 hN => ⟨_, by omega, rfl, hN⟩, fun y H3 hy => ?_⟩
  obtain ⟨s3, d3⟩ := w.yld _ n H2 y H3 (g0 as[n]) (but_hid s2 x.own) x2.at_.own (by rw [List.getElem?_map, hia]; rfl) hy
  have x3 := x2.same s3
  have x4 : AtO K C i O H3 (σ2.set r (some y)) ((δs n).set r (some (g0 as[n]))) a (ds n) := ⟨⟨x3.at_.own, x3.at_.env.set r d3⟩, x3.own, by rw [List.getElem?_set_ne hr]; exact x3.slot, x3.dat⟩
  by_cases h : n < kk
  · exact hB n _ h hia O _ H3 a x4 _ fun σ4 H4 s4 x5 => ⟨h, (s2.trans (But.of s3)).trans s4, x5⟩
  · have e : n = kk := by omega
    subst e
    have e2 : as[n] = x0 := Option.some.inj (hia.symm.trans hk)
    rw [e2] at x4
    exact hE O _ H3 a x4 _ fun σ4 H4 s4 x5 => q σ4 H4 ((But.of s1).trans ((s2.trans (But.of s3)).trans s4)) x5
/-- a wholly new list of ints is made and returned -/
theorem sf_own {d0 : D} {ns : List Int} (hd : RefD K C d0) (hi : i < δ.length) (h : EvN K C te δ d0) (g : StO K C i ts (δ.set i none) d0 δ' (.lst (dI ns))) : StF K C (tSeq (tAsg te (gName i)) (tSeq ts (tRet (tVar i)))) δ (.lst (dI ns)) := fun O σ H n Z q => h O σ H n _ fun p H1 s1 hp d1 => by
  obtain ⟨p', o, e1, hp0, no⟩ := hd _ _ d1
  cases e1
  have hp1 := hid_same _ _ hp0
  have eR : rem (addO O p) p = O := by
    funext b
    unfold rem addO
    by_cases hb : b = p
    · subst hb
      have pO : ¬ O b = true := fun z => n.own b z hp
      rw [Bool.not_eq_true] at pO
      rw [pO]
      simp
    · simp [hb]
  have x1 : AtO K C i (addO O p) H1 (σ.set i (some (.ref p))) (δ.set i none) p d0 := ⟨⟨(n.own.same s1).add ⟨_, hp1, no⟩, (n.env.same ((add_fresh hp).trans (same_hid s1))).unset (some (.ref p)) i⟩, by unfold addO; simp, List.getElem?_set_self (by rw [n.env.1]; exact hi), by rw [eR]; exact d1⟩
  refine g _ _ _ p x1 _ fun σ' H' s' x' => ?_
  refine ⟨.ref p, x'.slot, ?_⟩
  have sm : Same H H' := fun b u hb => s' b u (fun z => by rw [z, hp] at hb; cases hb) (s1 b u hb)
  obtain ⟨a', xs, e1, h1, h2⟩ := dat_lst_iff.mp x'.dat
  cases e1
  refine q _ H' sm (dat_lst_iff.mpr ⟨p, xs, rfl, ?_, dats_ints.mpr (dats_ints.mp h2)⟩)
  unfold hid dom
  rw [hp]
  exact hid_same _ _ h1
/-! reversed(range(n)) -/
def revD (n : Nat) : List D := (List.range n).reverse.map fun (k : Nat) => D.int (k : Int)
theorem ei_revRg {ta : TE} {n : Nat} (h : EvD K C ta δ (.int (n : Int))) (hn : n ≤ 100000) : EvI K C (iRevR (tRg1 ta)) δ (revD n) := fun O σ H nn R q => h O σ H nn _ fun v H1 s1 d1 => by
  have hl : (revD n).length = n := by unfold revD; rw [List.length_map, List.length_reverse, List.length_range]
  have e0 : ((n : Int) - 0).toNat = n := by omega
  refine ⟨(n : Int), dat_int.mp d1, by omega, by omega, by omega, by omega, q _ _ s1 ?_⟩
  rw [e0]
  refine ⟨fun O' j H2 s o hj => (by rw [hl] at hj; exact hj), fun O' j H2 x H3 d s o hj y => ?_, fun O' H2 s o => (by rw [hl]; exact Nat.le_refl _)⟩
  obtain ⟨e1, e2⟩ := y
  subst e1 e2
  refine ⟨Same.refl _, ?_⟩
  have hj' : j < n := by rw [← hl]; exact (List.getElem?_eq_some_iff.mp hj).1
  unfold revD at hj
  rw [List.getElem?_map, List.getElem?_reverse (by rw [List.length_range]; exact hj'), List.length_range, List.getElem?_range (by omega)] at hj
  have e3 : D.int ((n - 1 - j : Nat) : Int) = d := by simpa using hj
  subst e3
  exact dat_int.mpr (by congr 1; omega)
/-- [x] * n -/
theorem r2_rep {n : Nat} (hn : n ≤ 100000) (se : sca e = true) : R2N K C rRep (.lst [e]) (.int (n : Int)) (.lst (List.replicate n e)) := fun O H x y o hx hy Q q => by
  obtain ⟨a, xs, rfl, h1, h2⟩ := dat_lst_iff.mp hx
  obtain ⟨x0, rfl, h3⟩ := dats_one.mp h2
  refine ⟨a, (n : Int), [x0], rfl, dat_int.mp hy, hid_same _ _ h1, by omega, by omega, by rw [Int.toNat_natCast, List.length_singleton, Nat.one_mul]; exact Nat.le_trans hn (by decide), fun p hp => ?_⟩
  refine q p _ (same_new hp) hp (new_lst o hp ?_)
  rw [Int.toNat_natCast]
  have : ∀ n, Dats K C (hid O H) (List.replicate n e) (List.replicate n [x0]).flatten := by
    intro n
    induction n with
    | zero => exact .nil
    | succ n ih =>
      rw [List.replicate_succ, List.replicate_succ, List.flatten_cons]
      exact .cons h3 ih
  exact this n
end
section
variable {X : Cx} {tg a : Expr} {ta : TE} {p pos p2 pos2 : Pos}
theorem i_revRg (b : BFree X.mg) (ha : PE X a ta) (hg : Gl X "reversed" := by rfl) (hg2 : Gl X "range" := by rfl) (na : starEach [a] X.env = (false, eval a X.env) :: starEach [] X.env := by rfl)
    (hs : starEach [.Call (.Name "range" p2) [a] [] pos2] X.env = (false, eval (.Call (.Name "range" p2) [a] [] pos2) X.env) :: starEach [] X.env := by rfl) :
    PI X tg (.Call (.Name "reversed" p) [.Call (.Name "range" p2) [a] [] pos2] [] pos) (iRevR (tRg1 ta)) := pi_revR hg (b _ (by decide)) (prg_1 hg2 (b _ (by decide)) ha na) hs
end
end Zm


set_option Elab.async false
set_option linter.all false
set_option maxRecDepth 100000
set_option maxHeartbeats 4000000
set_option autoImplicit false
namespace Zm
open PySem PySem.Spec L2
/-! ### one's own list in slot i, to which whatever things are appended that do not look at it -/
structure AtL (K : PySem.W.Frag) (C : Addr) (i : Nat) (O : Addr → Bool) (H : Hp) (σ : L2.St) (δ : Dl) (a : Addr) (ds : List D) : Prop where
  at_ : At K C O H σ δ
  own : O a = true
  slot : σ[i]? = some (some (.ref a))
  here : ∃ xs, H a = some (.lst xs) ∧ Dats K C (hid O H) ds xs
section
variable (K : PySem.W.Frag) (C : Addr) (i : Nat)
def StL (ts : TS) (δ : Dl) (ds : List D) (δ' : Dl) (ds' : List D) : Prop := ∀ O σ H a, AtL K C i O H σ δ a ds → ∀ Z : Ends, (∀ σ' H', But a H H' → AtL K C i O H' σ' δ' a ds' → Z.nx σ' H') → ts Z σ H
/-- setting a target leaves slot i as it is -/
def EvGi (g : TG) (δ : Dl) (d : D) (δ' : Dl) : Prop := ∀ O σ H v, At K C O H σ δ → Dat K C (hid O H) d v → ∀ Q : L2.St → Hp → Prop, (∀ σ', σ'[i]? = σ[i]? → At K C O H σ' δ' → Q σ' H) → g v σ H Q
end
section
variable {K : PySem.W.Frag} {C : Addr} {i j r r2 : Nat} {O : Addr → Bool} {H H' : Hp} {σ : L2.St} {δ δ' δ2 : Dl} {a : Addr} {ds ds' ds2 : List D} {d e : D} {te : TE} {tt : TT} {ts ts' : TS} {b : Bool}
theorem AtL.same (x : AtL K C i O H σ δ a ds) (s : Same H H') : AtL K C i O H' σ δ a ds := ⟨x.at_.same s, x.own, x.slot, let ⟨xs, h1, h2⟩ := x.here; ⟨xs, s _ _ h1, h2.same (same_hid s)⟩⟩
theorem egi_name (h : r ≠ i) : EvGi K C i (gName r) δ d (δ.set r (some d)) := fun O σ H v n hd Q q => q _ (List.getElem?_set_ne h) ⟨n.own, n.env.set r hd⟩
theorem egi_two (h : r ≠ i) (h2 : r2 ≠ i) : EvGi K C i (gTup K 2 (gCons (gName r) (gCons (gName r2) gNil))) δ (.tup [d, e]) ((δ.set r (some d)).set r2 (some e)) := fun O σ H v n hd Q q => by
  obtain ⟨t, xs, rfl, h1, h3⟩ := dat_tup_iff.mp hd
  obtain ⟨x, y, rfl, h4, h5⟩ := dats_two.mp h3
  exact ⟨t, [x, y], rfl, sqT_of h1, rfl, x, [y], rfl, y, [], rfl, rfl, q _ (by rw [List.getElem?_set_ne h2, List.getElem?_set_ne h]) ⟨n.own, (n.env.set r h4).set r2 h5⟩⟩
theorem sl_seq (h : StL K C i ts δ ds δ' ds') (g : StL K C i ts' δ' ds' δ2 ds2) : StL K C i (tSeq ts ts') δ ds δ2 ds2 := fun O σ H a x Z q => h O σ H a x { Z with nx := ts' Z } fun σ1 H1 s1 x1 => g O σ1 H1 a x1 Z fun σ2 H2 s2 x2 => q σ2 H2 (s1.trans s2) x2
theorem sl_next : StL K C i tNext δ ds δ ds := fun O σ H a x Z q => q σ H (But.refl a H) x
theorem sl_weak (h : StL K C i ts δ ds δ2 ds') (l : LeD δ' δ2) : StL K C i ts δ ds δ' ds' := fun O σ H a x Z q => h O σ H a x Z fun σ' H' s y => q σ' H' s ⟨y.at_.weak l, y.own, y.slot, y.here⟩
theorem sl_set (hj : j ≠ i) (h : EvD K C te δ e) : StL K C i (tAsg te (gName j)) δ ds (δ.set j (some e)) ds := fun O σ H a x Z q => h O σ H x.at_ _ fun v H1 s1 d1 => by
  have y := x.same s1
  exact q _ H1 (But.of s1) ⟨⟨y.at_.own, y.at_.env.set j d1⟩, y.own, by rw [List.getElem?_set_ne hj]; exact y.slot, y.here⟩
theorem sl_if (h : EvT K C tt δ b) (h1 : b = true → StL K C i ts δ ds δ' ds') (h2 : b = false → StL K C i ts' δ ds δ' ds') : StL K C i (tIfS tt ts ts') δ ds δ' ds' := fun O σ H a x Z q => h O σ H x.at_ _ fun H1 s1 => by
  have y := x.same s1
  cases b with
  | true => exact h1 rfl O σ H1 a y Z fun σ' H' s' y' => q σ' H' ((But.of s1).trans s') y'
  | false => exact h2 rfl O σ H1 a y Z fun σ' H' s' y' => q σ' H' ((But.of s1).trans s') y'
/-- x.append(te) -/
theorem sl_app (hl : ds.length < 100000) (hv : EvD K C te δ e) : StL K C i (tDrop (tBM K "list" rAppend (tVar i) (tCons te tNil))) δ ds δ (ds ++ [e]) := fun O σ H a x Z q => by
  obtain ⟨xs0, h0, _⟩ := x.here
  refine ⟨.ref a, x.slot, .inl ⟨rfl, xs0, .inl (.inl h0)⟩, hv O σ H x.at_ _ fun v H1 s1 d1 => ?_⟩
  have x1 := x.same s1
  obtain ⟨xs, h1, h2⟩ := x1.here
  refine ⟨a, xs, v, rfl, rfl, h1, by rw [h2.length]; exact Nat.lt_of_lt_of_le hl (by decide), ?_⟩
  have eh : hid O (upd H1 a (.lst (xs ++ [v]))) = hid O H1 := hid_upd x.own
  exact q σ _ ((But.of s1).trans fun c u ne hc => by rw [upd_ne ne]; exact hc) ⟨⟨x1.at_.own.upd trivial, by rw [eh]; exact x1.at_.env⟩, x.own, x.slot, xs ++ [v], upd_same, by rw [eh]; exact h2.append (.one d1)⟩
theorem sl_for {α : Type} {as : List α} {g0 : α → D} {dn : Nat → List D} {δs : Nat → Dl} {wi : TI} {g : TG} {tb : TS} (e0 : dn 0 = ds) (eN : dn as.length = ds') (l : LeD δ' (δs as.length)) (hI : EvI K C wi δ (as.map g0)) (h0 : LeD (δs 0) δ)
    (hB : ∀ n x, as[n]? = some x → ∃ δ1, EvGi K C i g (δs n) (g0 x) δ1 ∧ StL K C i tb δ1 (dn n) (δs (n + 1)) (dn (n + 1))) : StL K C i (tFor wi g tb) δ ds δ' ds' := by
  subst e0 eN
  refine sl_weak (fun O σ H a x Z q => hI O σ H x.at_ _ fun J H1 s1 w => ?_) l
  have x1 := x.same s1
  have wl : (as.map g0).length = as.length := List.length_map _
  refine ⟨fun n m σ2 H2 => m = as.length - n ∧ n ≤ as.length ∧ But a H1 H2 ∧ AtL K C i O H2 σ2 (δs n) a (dn n), ⟨as.length, by omega, Nat.zero_le _, But.refl a H1, ⟨x1.at_.weak h0, x1.own, x1.slot, x1.here⟩⟩, ?_⟩
  rintro n m σ2 H2 ⟨rfl, hn, s2, x2⟩
  by_cases hlt : n < as.length
  · have hia : as[n]? = some as[n] := by simp [hlt]
    refine .inr ⟨w.go _ n H2 (but_hid s2 x.own) x2.at_.own (by rw [wl]; exact hlt), fun σ3 H3 => n + 1 ≤ as.length ∧ But a H1 H3 ∧ AtL K C i O H3 σ3 (δs (n + 1)) a (dn (n + 1)), fun σ3 H3 hN => ⟨_, by omega, rfl, hN⟩, fun y H3 hy => ?_⟩
    obtain ⟨s3, d3⟩ := w.yld _ n H2 y H3 (g0 as[n]) (but_hid s2 x.own) x2.at_.own (by rw [List.getElem?_map, hia]; rfl) hy
    have x3 := x2.same s3
    obtain ⟨δ1, hg, hb⟩ := hB n _ hia
    refine hg O σ2 H3 y x3.at_ d3 _ fun σ4 sl at4 => ?_
    exact hb O σ4 H3 a ⟨at4, x3.own, by rw [sl]; exact x3.slot, x3.here⟩ _ fun σ5 H5 s5 x5 => ⟨hlt, (s2.trans (But.of s3)).trans s5, x5⟩
  · have e : n = as.length := by omega
    subst e
    exact .inl ⟨by rw [← wl]; exact w.stop _ H2 (but_hid s2 x.own) x2.at_.own, q σ2 H2 ((But.of s1).trans s2) x2⟩
/-- x = [], what is done with it -/
theorem sx_ownN (hi : i < δ.length) (h : EvN K C te δ (.lst [])) (g : StL K C i ts (δ.set i none) [] δ' ds') (hj : i < δ'.length) : StX K C (tSeq (tAsg te (gName i)) ts) δ (δ'.set i (some (.lst ds'))) := fun O σ H n Z q => h O σ H n _ fun p H1 s1 hp d1 => by
  have pO : ¬ O p = true := fun z => n.own p z hp
  have eR : rem (addO O p) p = O := by
    funext b
    unfold rem addO
    by_cases hb : b = p
    · subst hb
      rw [Bool.not_eq_true] at pO
      rw [pO]
      simp
    · simp [hb]
  obtain ⟨p', xs, e1, hp0, hx0⟩ := dat_lst_iff.mp d1
  cases e1
  have hp1 := hid_same _ _ hp0
  have x1 : AtL K C i (addO O p) H1 (σ.set i (some (.ref p))) (δ.set i none) p [] := ⟨⟨(n.own.same s1).add ⟨_, hp1, trivial⟩, (n.env.same ((add_fresh hp).trans (same_hid s1))).unset (some (.ref p)) i⟩, by unfold addO; simp, List.getElem?_set_self (by rw [n.env.1]; exact hi), [], by rw [dats_nil.mp hx0] at hp1; exact hp1, dats_nil.mpr rfl⟩
  refine g _ _ _ p x1 Z fun σ' H' s' x' => ?_
  obtain ⟨ys, h1, h2⟩ := x'.here
  have x2 : AtO K C i (addO O p) H' σ' δ' p (.lst ds') := ⟨x'.at_, x'.own, x'.slot, dat_lst_iff.mpr ⟨p, ys, rfl, by unfold hid; rw [rem_self, if_neg Bool.false_ne_true]; exact h1, h2.same rem_le⟩⟩
  refine q σ' H' (fun b u hb => ?_) ?_
  · have ne : b ≠ p := fun z => by rw [z, hp] at hb; cases hb
    exact s' b u ne (s1 b u hb)
  · have v := x2.vis hj
    rw [eR] at v
    exact v
theorem sx_ownL (hi : i < δ.length) (g : StL K C i ts (δ.set i none) [] δ' ds') (hj : i < δ'.length) : StX K C (tSeq (tAsg (tLst tNil) (gName i)) ts) δ (δ'.set i (some (.lst ds'))) := sx_ownN hi (en_lst ea_nil (by show 0 ≤ 100000; decide)) g hj
end
end Zm


set_option Elab.async false
set_option linter.all false
set_option maxRecDepth 100000
set_option maxHeartbeats 4000000
set_option autoImplicit false
namespace Zm
open PySem PySem.Spec L2
/-! ### `is not True`; a loop over the first ones of a drawn list -/
def tNotT (ta : TE) : TE := fun σ H Q => ta σ H fun x H1 => ∃ b, x = .bl b ∧ Q (.bl (!b)) H1
theorem pc_notT {X : Cx} {a : Expr} {ta : TE} {j : Nat} {pos' : Pos} (ha : PE X a ta) : PC X .IsNot a (.Constant (.bool true) j pos') (tNotT ta) := by
  refine ⟨fun pins s σ H Q I h => ?_⟩
  refine thn (ha.run pins s σ H _ I h) fun v s1 ⟨x, H1, I1, r1, b, e, q1⟩ => ?_
  subst e
  cases r1
  refine PyProof.Rows.Constant_bool (wpAny_isNot_plain (by cases b <;> rfl) ⟨.bl (!b), H1, I1, ?_, q1⟩)
  cases b <;> rfl
section
variable {K : PySem.W.Frag} {C : Addr} {δ : Dl} {ta : TE} {b : Bool}
theorem ev_notT (h : EvD K C ta δ (.bl b)) : EvD K C (tNotT ta) δ (.bl (!b)) := fun O σ H n Q q => h O σ H n _ fun v H1 s1 d1 => ⟨b, dat_bl.mp d1, q _ H1 s1 (dat_bl.mpr rfl)⟩
end
section
variable {K : PySem.W.Frag} {C : Addr} {j r c c1 : Nat} {δ δ' : Dl} {te : TE} {to th : TO} {wi : TI} {tb : TS} {P : List D → Prop} {lo hi : Option Int}
def EvIJ (K : PySem.W.Frag) (C : Addr) (j : Nat) (ti : TI) (δ : Dl) (c : Nat) (P : List D → Prop) : Prop := ∀ O σ H p n, AtJ K C j O H σ δ p n → n + c ≤ 1000000 → ∀ R : It → Hp → Prop, (∀ J H' ds, But p H H' → PurseIs (n + c) H' p → P ds → WalkD K C O H' J ds → R J H') → ti σ H R
theorem eij_list (h : EvJ K C j te δ c (fun d => ∃ ds, d = .lst ds ∧ P ds)) : EvIJ K C j (iList K te) δ c P := fun O σ H p n x hn R q => h O σ H p n x hn _ fun v H1 d b1 pu r d1 => by
  obtain ⟨ds, rfl, hp⟩ := r
  obtain ⟨a, xs, rfl, h1, h2⟩ := dat_lst_iff.mp d1
  have key : ∀ O' H', Same (hid O H1) (hid O' H') → SqL K H' a xs ∧ Dats K C (hid O' H') ds xs := fun O' H' s => ⟨sqL_of (s _ _ h1), h2.same s⟩
  refine ⟨a, rfl, ⟨xs, sqL_of h1⟩, q _ _ ds b1 pu hp ⟨fun O' i H' s o hi => ?_, fun O' i H' x H2 d s o hi y => ?_, fun O' H' s o => ?_⟩⟩
  · exact ⟨xs, xs[i]'(by rw [h2.length]; exact hi), (key O' H' s).1, by simp [h2.length, hi]⟩
  · obtain ⟨e, y⟩ := y
    subst e
    obtain ⟨k1, k2⟩ := key O' _ s
    obtain ⟨w, g1, g2⟩ := k2.get hi
    have g3 := y xs k1
    rw [g1] at g3
    cases g3
    exact ⟨Same.refl _, g2⟩
  · exact ⟨xs, (key O' H' s).1, by rw [h2.length]; exact Nat.le_refl _⟩
theorem ej_sl (h : EvJ K C j te δ c (fun d => ∃ ds, d = .lst ds ∧ P ds)) (h1 : EvO K C to δ lo) (h2 : EvO K C th δ hi) : EvJ K C j (tSl (rSlL K) te to th) δ c (fun d => ∃ ds, d = .lst (cutD ds lo hi) ∧ P ds) := fun O σ H p n x hn Q q => h O σ H p n x hn _ fun v H1 d b1 pu r d1 => by
  obtain ⟨ds, rfl, hp⟩ := r
  have x1 := x.but b1 pu
  refine h1 O σ H1 x1.at_ _ fun H2 s2 => h2 O σ H2 (x1.at_.same s2) _ fun H3 s3 => ?_
  obtain ⟨a, xs, rfl, g1, g2⟩ := dat_lst_iff.mp (d1.same (same_hid (O := O) (s2.trans s3)))
  have s23 := s2.trans s3
  refine ⟨a, xs, rfl, sqL_of g1, fun T fr => ?_⟩
  have s4 := same_new (o := HO.lst (cutV xs lo hi)) fr
  refine q (.ref T) _ (.lst (cutD ds lo hi)) (b1.trans (But.of (s23.trans s4))) (pu.same (s23.trans s4)) ⟨ds, rfl, hp⟩ (new_lst (x1.at_.own.same s23) fr ?_)
  unfold cutV cutD
  rw [g2.length]
  exact (g2.drop _).take _
theorem ej_ifDraw {ta tb' tc : TE} {e : D} (h : EvJ K C j ta δ c (fun d => ∃ i, d = .int i)) (h1 : EvD K C tb' δ e) (h2 : EvD K C tc δ e) : EvJ K C j (tIf (tTest (tOp (rEqD K) ta (tC (.int 0)))) tb' tc) δ c (fun z => z = e) := fun O σ H p n x hn Q q => h O σ H p n x hn _ fun v H1 d b1 pu r d1 => by
  obtain ⟨i, rfl⟩ := r
  have x1 := x.but b1 pu
  show rEqD K v (V.int 0) H1 fun x H' => ∃ k, x = V.bl k ∧ (if k = true then tb' σ H' Q else tc σ H' Q)
  refine r2_eq (K := K) (C := C) (d := .int i) (e := .int 0) shp_int shp_int O H1 v (.int 0) x1.at_.own d1 (dat_int.mpr rfl) _ fun z H2 s2 dz => ?_
  rw [eqD_int] at dz
  refine ⟨_, dat_bl.mp dz, ?_⟩
  have x2 := x1.same s2
  have fin : ∀ v H3, Same H2 H3 → Dat K C (hid O H3) e v → Q v H3 := fun v H3 s3 d3 => q v H3 e (b1.trans (But.of (s2.trans s3))) (pu.same (s2.trans s3)) rfl d3
  by_cases hi : i = 0
  · rw [decide_eq_true hi, if_pos rfl]
    exact h1 O σ H2 x2.at_ _ fin
  · rw [decide_eq_false hi, if_neg Bool.false_ne_true]
    exact h2 O σ H2 x2.at_ _ fin
theorem sj_forI {N : Nat} {Qd : D → Prop} (hr : r ≠ j) (hI : EvIJ K C j wi δ c1 P) (hP : ∀ ds, P ds → ds.length ≤ N ∧ ∀ d ∈ ds, Qd d) (h0 : LeD δ' δ) (hB : ∀ d, Qd d → StJ K C j tb (δ'.set r (some d)) δ' c) : StJ K C j (tFor wi (gName r) tb) δ δ' (c1 + N * c) := fun O σ H p n x hn Z q => hI O σ H p n x (by omega) _ fun J H1 ds b1 pu1 hp w => by
  obtain ⟨hl, hq⟩ := hP ds hp
  have x1 := x.but b1 pu1
  refine ⟨fun k m σ2 H2 => m = ds.length - k ∧ k ≤ ds.length ∧ But p H1 H2 ∧ AtJ K C j O H2 σ2 δ' p (n + c1 + k * c), ⟨ds.length, by omega, Nat.zero_le _, But.refl p H1, by rw [Nat.zero_mul]; exact ⟨x1.at_.weak h0, x1.own, x1.purse, x1.slot⟩⟩, ?_⟩
  rintro k m σ2 H2 ⟨rfl, hk, s2, x2⟩
  have hb3 : ds.length * c ≤ N * c := Nat.mul_le_mul_right _ hl
  by_cases hlt : k < ds.length
  · have hb : (k + 1) * c ≤ ds.length * c := Nat.mul_le_mul_right _ hlt
    have hb2 : (k + 1) * c = k * c + c := Nat.succ_mul _ _
    refine .inr ⟨w.go _ k H2 (but_hid s2 x.own) x2.at_.own hlt, fun σ3 H3 => k + 1 ≤ ds.length ∧ But p H1 H3 ∧ AtJ K C j O H3 σ3 δ' p (n + c1 + (k + 1) * c), fun σ3 H3 hN => ⟨_, by omega, rfl, hN⟩, fun y H3 hy => ?_⟩
    obtain ⟨s3, d3⟩ := w.yld _ k H2 y H3 ds[k] (but_hid s2 x.own) x2.at_.own (List.getElem?_eq_getElem hlt) hy
    have x3 := x2.same s3
    refine hB ds[k] (hq _ (List.getElem_mem hlt)) O (σ2.set r (some y)) H3 p _ ⟨⟨x3.at_.own, x3.at_.env.set r d3⟩, x3.own, x3.purse, by rw [List.getElem?_set_ne hr]; exact x3.slot⟩ (by omega) _ fun σ4 H4 s4 x4 => ?_
    have e : n + c1 + k * c + c = n + c1 + (k + 1) * c := by omega
    exact ⟨hlt, (s2.trans (But.of s3)).trans s4, by rw [← e]; exact x4⟩
  · have e : k = ds.length := by omega
    subst e
    exact .inl ⟨w.stop _ H2 (but_hid s2 x.own) x2.at_.own, q σ2 H2 (b1.trans s2) ⟨x2.at_, x2.own, x2.purse.mono (by omega), x2.slot⟩⟩
end
end Zm


set_option Elab.async false
set_option linter.all false
set_option maxRecDepth 100000
set_option maxHeartbeats 4000000
set_option autoImplicit false
namespace Zm
open PySem PySem.Spec L2
/-! ### calls told by a model: what is handed in is written by enc, what is returned by out -/
section
variable (K : PySem.W.Frag) (C : Addr) {A : Type}
def SpM (pre : A → Prop) (enc : A → List D) (out : A → D) (m : Nat) : Sp := fun vs H Q _ => vs.length = m ∧ ∃ O a, OIn O H ∧ Dats K C (hid O H) (enc a) vs ∧ pre a ∧ ∀ v H', Same H H' → Dat K C (hid O H') (out a) v → Q v H'
/-- .. a new object -/
def SpMN (pre : A → Prop) (enc : A → List D) (out : A → D) (m : Nat) : Sp := fun vs H Q _ => vs.length = m ∧ ∃ O a, OIn O H ∧ Dats K C (hid O H) (enc a) vs ∧ pre a ∧ ∀ p H', Same H H' → H p = none → Dat K C (hid O H') (out a) (.ref p) → Q (.ref p) H'
end
section
variable {K : PySem.W.Frag} {C : Addr} {A : Type} {δ δ' : Dl} {tr : TA} {E : XK} {pre : A → Prop} {enc : A → List D} {out : A → D} {m : Nat}
theorem ev_callM (a : A) (ha : EvA K C tr δ (enc a)) (hn : (enc a).length = m) (hp : pre a) : EvD K C (tCall (SpM K C pre enc out m) [] E tr) δ (out a) := fun O σ H n Q q =>
  ha O σ H n _ fun vs H1 s1 d1 => by
    show SpM K C pre enc out m (vs ++ []) H1 Q E
    rw [List.append_nil]
    exact ⟨by rw [d1.length, hn], O, a, (n.same s1).own, d1, hp, fun v H2 s2 d2 => q v H2 (s1.trans s2) d2⟩
theorem en_callM (a : A) (ha : EvA K C tr δ (enc a)) (hn : (enc a).length = m) (hp : pre a) : EvN K C (tCall (SpMN K C pre enc out m) [] E tr) δ (out a) := fun O σ H n Q q =>
  ha O σ H n _ fun vs H1 s1 d1 => by
    show SpMN K C pre enc out m (vs ++ []) H1 Q E
    rw [List.append_nil]
    exact ⟨by rw [d1.length, hn], O, a, (n.same s1).own, d1, hp, fun v H2 s2 hp d2 => q v H2 (s1.trans s2) (back_none s1 hp) d2⟩
end
section
open PyProof.Rows
variable {P : Program} {w : World} {K : PySem.W.Frag} {C : Addr} {mg : Str → Option Value} {base : Heap} {x : Str} {k : Nat} {ps N : List Str} {st : Stmt} {fa : Addr} {fd : FuncData} {A : Type} {pre : A → Prop} {enc : A → List D} {out : A → D}
theorem okM (F : DefAt K mg x ps st fa fd) (S : FnScope N ps (defScope st))
    (hbody : ∀ (cdv : Value) (A' : Around) (outer : List Env) (s : Shared) (H : Hp) (E : XK), Room k (A'.deeper (envOfC x (defScope st) s.heap.objs.size fa cdv)) →
      ∃ t, PSs (cxOf CX0 P w K mg base N x (defScope st) fa cdv A' outer s H E).nox (defBody st) t ∧ ∀ a, pre a → StR K C t (startD N (enc a)) (out a)) : DefOk P w K mg base x (k + 1) ps (SpM K C pre enc out ps.length) := by
  refine F.ok S (fun vs H Q E h => h.1) (fun cdv A' outer s H vs Q E hr h => ?_)
  obtain ⟨t, h1, h2⟩ := hbody cdv A' outer s H E hr
  obtain ⟨_, O, a, o, hd, hp, hq⟩ := h
  exact ⟨t, h1, h2 a hp O _ H (at_start o hd) _ hq⟩
theorem okMN (F : DefAt K mg x ps st fa fd) (S : FnScope N ps (defScope st))
    (hbody : ∀ (cdv : Value) (A' : Around) (outer : List Env) (s : Shared) (H : Hp) (E : XK), Room k (A'.deeper (envOfC x (defScope st) s.heap.objs.size fa cdv)) →
      ∃ t, PSs (cxOf CX0 P w K mg base N x (defScope st) fa cdv A' outer s H E).nox (defBody st) t ∧ ∀ a, pre a → StN K C t (startD N (enc a)) (out a)) : DefOk P w K mg base x (k + 1) ps (SpMN K C pre enc out ps.length) := by
  refine F.ok S (fun vs H Q E h => h.1) (fun cdv A' outer s H vs Q E hr h => ?_)
  obtain ⟨t, h1, h2⟩ := hbody cdv A' outer s H E hr
  obtain ⟨_, O, a, o, hd, hp, hq⟩ := h
  exact ⟨t, h1, h2 a hp O _ H (at_start o hd) _ hq⟩
end
/-! ### contents and deeds -/
inductive Ct | no | old (b : Int) | new (b : Int)
deriving DecidableEq
inductive Dd | make (b c : Nat) | copy (s c : Nat)
deriving DecidableEq
abbrev sOld : Str := "old"
abbrev sNew : Str := "new"
abbrev sMake : Str := "make"
abbrev sCopy : Str := "copy"
abbrev sLacks : Str := "lacks"
def cD : Ct → D
  | .no => .non
  | .old b => .tup [.str sOld, .int b]
  | .new b => .tup [.str sNew, .int b]
def dD : Dd → D
  | .make b c => .tup [.str sMake, .int b, .int c]
  | .copy s c => .tup [.str sCopy, .int s, .int c]
def Dd.cell : Dd → Nat
  | .make _ c => c
  | .copy _ c => c
abbrev stD (s : List Ct) : D := .lst (s.map cD)
abbrev coD (s : List Dd) : D := .lst (s.map dD)
theorem shN_lit {n : Nat} {s : Str} (h1 : (PyData.canLay0 (.str s)) = true) (h2 : (PyData.depth (.str s)) = 0) : ShN n (.str s) := by
  refine ⟨rfl, ?_, ?_⟩
  · unfold toPy
    exact h1
  · unfold toPy
    rw [h2]
    exact Nat.zero_le _
theorem shN_old {n : Nat} : ShN n (.str sOld) := shN_lit (by decide +kernel) (by decide +kernel)
theorem shN_new {n : Nat} : ShN n (.str sNew) := shN_lit (by decide +kernel) (by decide +kernel)
theorem shN_make {n : Nat} : ShN n (.str sMake) := shN_lit (by decide +kernel) (by decide +kernel)
theorem shN_copy {n : Nat} : ShN n (.str sCopy) := shN_lit (by decide +kernel) (by decide +kernel)
theorem shN_non {n : Nat} : ShN n .non := by
  refine ⟨rfl, ?_, ?_⟩
  · unfold toPy PyData.canLay0
    rfl
  · unfold toPy PyData.depth
    exact Nat.zero_le _
theorem shN_two {n : Nat} {d e : D} (h : ShN n d) (g : ShN n e) : ShN (n + 1) (.tup [d, e]) := shN_tup fun x hx => by
  simp only [List.mem_cons, List.mem_nil_iff, or_false] at hx
  rcases hx with rfl | rfl
  · exact h
  · exact g
theorem shN_three {n : Nat} {d e f : D} (h : ShN n d) (g : ShN n e) (k : ShN n f) : ShN (n + 1) (.tup [d, e, f]) := shN_tup fun x hx => by
  simp only [List.mem_cons, List.mem_nil_iff, or_false] at hx
  rcases hx with rfl | rfl | rfl
  · exact h
  · exact g
  · exact k
theorem shN_cD (c : Ct) : ShN 1 (cD c) := by
  cases c with
  | no => exact shN_non
  | old b => exact shN_two shN_old shN_int
  | new b => exact shN_two shN_new shN_int
theorem shN_dD (c : Dd) : ShN 1 (dD c) := by
  cases c with
  | make a b => exact shN_three shN_make shN_int shN_int
  | copy a b => exact shN_three shN_copy shN_int shN_int
theorem shp_cD (c : Ct) : shp (cD c) = true := (shN_cD c).shp (by decide)
theorem shN_st (s : List Ct) : ShN 2 (stD s) := shN_lst fun d hd => by
  obtain ⟨c, _, rfl⟩ := List.mem_map.mp hd
  exact shN_cD c
theorem shp_st (s : List Ct) : shp (stD s) = true := (shN_st s).shp (by decide)
theorem shp_co (s : List Dd) : shp (coD s) = true := (shN_lst (n := 1) fun d hd => by
  obtain ⟨c, _, rfl⟩ := List.mem_map.mp hd
  exact shN_dD c).shp (by decide)
theorem eqD_str {a b : Str} : eqD (.str a) (.str b) = decide (a = b) := by
  unfold eqD toPy PyData.eqv
  rw [Bool.eq_iff_iff]
  simp
theorem eqD_cons {d e : D} {ds es : List D} : PyData.eqvAll (toPys (d :: ds)) (toPys (e :: es)) = (eqD d e && PyData.eqvAll (toPys ds) (toPys es)) := by
  rw [toPys, toPys, PyData.eqvAll]
  rfl
theorem eqD_nil : PyData.eqvAll (toPys []) (toPys []) = true := by
  rw [toPys, PyData.eqvAll]
theorem eqD_tup2 {s t : Str} {i j : Int} : eqD (.tup [.str s, .int i]) (.tup [.str t, .int j]) = (decide (s = t) && decide (i = j)) := by
  rw [eqD_tup, eqD_cons, eqD_cons, eqD_nil, eqD_str, eqD_int, Bool.and_true]
theorem eqD_cD (a b : Ct) : eqD (cD a) (cD b) = decide (a = b) := by
  have on : ¬ sOld = sNew := by decide +kernel
  have no : ¬ sNew = sOld := by decide +kernel
  cases a with
  | no =>
    cases b with
    | no => exact eqD_refl shp_non
    | old b => rfl
    | new b => rfl
  | old a =>
    cases b with
    | no => rfl
    | old b =>
      show eqD (.tup [.str sOld, .int a]) (.tup [.str sOld, .int b]) = _
      rw [eqD_tup2, decide_eq_true rfl, Bool.true_and]
      simp
    | new b =>
      show eqD (.tup [.str sOld, .int a]) (.tup [.str sNew, .int b]) = _
      rw [eqD_tup2, decide_eq_false on, Bool.false_and]
      simp
  | new a =>
    cases b with
    | no => rfl
    | new b =>
      show eqD (.tup [.str sNew, .int a]) (.tup [.str sNew, .int b]) = _
      rw [eqD_tup2, decide_eq_true rfl, Bool.true_and]
      simp
    | old b =>
      show eqD (.tup [.str sNew, .int a]) (.tup [.str sOld, .int b]) = _
      rw [eqD_tup2, decide_eq_false no, Bool.false_and]
      simp
theorem eqD_st (a b : List Ct) : eqD (stD a) (stD b) = decide (a = b) := eqD_lst.trans (eqs_map eqD_cD a b)
theorem any_ct (c : Ct) (s : List Ct) : ((s.map cD).any fun z => eqD z (cD c)) = decide (c ∈ s) := by
  rw [List.any_map, Bool.eq_iff_iff, List.any_eq_true, decide_eq_true_eq]
  constructor
  · rintro ⟨r, hr, e⟩
    have e2 : eqD (cD r) (cD c) = true := e
    rw [eqD_cD] at e2
    rw [← of_decide_eq_true e2]
    exact hr
  · intro h
    exact ⟨c, h, by show eqD (cD c) (cD c) = true; rw [eqD_cD]; simp⟩
section
variable {K : PySem.W.Frag} {C : Addr} {δ δ' : Dl} {te : TE} {i j l : Nat} {a b c d e : D}
theorem r2_inC (c : Ct) (s : List Ct) : R2D K C (rInD K) (cD c) (stD s) (.bl (decide (c ∈ s))) := by
  rw [← any_ct]
  exact r2_inD (shp_cD c) (shp_st s)
theorem r2_notInC (c : Ct) (s : List Ct) : R2D K C (rNotInD K) (cD c) (stD s) (.bl (!decide (c ∈ s))) := by
  rw [← any_ct]
  exact r2_notInD (shp_cD c) (shp_st s)
theorem dats_three {H : Hp} {vs : List V} : Dats K C H [a, b, c] vs ↔ ∃ x y z, vs = [x, y, z] ∧ Dat K C H a x ∧ Dat K C H b y ∧ Dat K C H c z := by
  constructor
  · intro h
    obtain ⟨x, ys, rfl, h1, h2⟩ := dats_cons.mp h
    obtain ⟨y, z, rfl, h3, h4⟩ := dats_two.mp h2
    exact ⟨x, y, z, rfl, h1, h3, h4⟩
  · rintro ⟨x, y, z, rfl, h1, h3, h4⟩
    exact .cons h1 (dats_two.mpr ⟨y, z, rfl, h3, h4⟩)
/-- x, y, z = te -/
theorem sx_unp3 (h : EvD K C te δ (.tup [a, b, c])) : StX K C (tAsg te (gTup K 3 (gCons (gName i) (gCons (gName j) (gCons (gName l) gNil))))) δ (((δ.set i (some a)).set j (some b)).set l (some c)) := fun O σ H n Z q => h O σ H n _ fun v H1 s1 d1 => by
  obtain ⟨t, xs, rfl, h1, h2⟩ := dat_tup_iff.mp d1
  obtain ⟨x, y, z, rfl, h3, h4, h5⟩ := dats_three.mp h2
  have n1 := n.same s1
  exact ⟨t, [x, y, z], rfl, sqT_of h1, rfl, x, [y, z], rfl, y, [z], rfl, z, [], rfl, rfl, q _ _ s1 ⟨n1.own, ((n1.env.set i h3).set j h4).set l h5⟩⟩
/-! is None, the truth of a list -/
theorem ev_isNN (h : EvD K C te δ .non) : EvD K C (tIsN te) δ (.bl true) := fun O σ H n Q q => h O σ H n _ fun v H1 s1 d1 => by
  rw [dat_non.mp d1]
  exact q _ H1 s1 (dat_bl.mpr rfl)
theorem ev_isNT {ds : List D} (h : EvD K C te δ (.tup ds)) : EvD K C (tIsN te) δ (.bl false) := fun O σ H n Q q => h O σ H n _ fun v H1 s1 d1 => by
  obtain ⟨t, xs, rfl, _⟩ := dat_tup_iff.mp d1
  exact q _ H1 s1 (dat_bl.mpr rfl)
theorem ev_isNC {c : Ct} (h : EvD K C te δ (cD c)) : EvD K C (tIsN te) δ (.bl (decide (c = .no))) := by
  cases c with
  | no => exact ev_isNN h
  | old b => exact ev_isNT h
  | new b => exact ev_isNT h
theorem ev_notNN (h : EvD K C te δ .non) : EvD K C (tNotN te) δ (.bl false) := fun O σ H n Q q => h O σ H n _ fun v H1 s1 d1 => by
  rw [dat_non.mp d1]
  exact q _ H1 s1 (dat_bl.mpr rfl)
theorem ev_notNT {ds : List D} (h : EvD K C te δ (.tup ds)) : EvD K C (tNotN te) δ (.bl true) := fun O σ H n Q q => h O σ H n _ fun v H1 s1 d1 => by
  obtain ⟨t, xs, rfl, _⟩ := dat_tup_iff.mp d1
  exact q _ H1 s1 (dat_bl.mpr rfl)
theorem ev_notNC {c : Ct} (h : EvD K C te δ (cD c)) : EvD K C (tNotN te) δ (.bl (!decide (c = .no))) := by
  cases c with
  | no => exact ev_notNN h
  | old b => exact ev_notNT h
  | new b => exact ev_notNT h
theorem et_truL {ds : List D} (h : EvD K C te δ (.lst ds)) : EvT K C (fun σ H Q => te σ H fun x H' => ∃ k, TruV K x H' k ∧ Q k H') δ (!ds.isEmpty) := fun O σ H n Q q => h O σ H n _ fun v H1 s1 d1 => by
  obtain ⟨p, xs, rfl, h1, h2⟩ := dat_lst_iff.mp d1
  refine ⟨!ds.isEmpty, .inl ⟨xs, sqL_of h1, ?_⟩, q H1 s1⟩
  have := h2.length
  cases ds with
  | nil =>
    rw [List.eq_nil_of_length_eq_zero this]
    rfl
  | cons d ds =>
    cases xs with
    | nil => cases this
    | cons x xs => rfl
/-- the contents of a state, at a cell -/
theorem st_at {s : List Ct} {k : Nat} (h : k < s.length) : atI (s.map cD) (k : Int) = some (cD s[k]) := by
  unfold atI ixN
  rw [List.length_map, if_pos (by omega), if_pos (by omega), Option.bind_some, Int.toNat_natCast, List.getElem?_map, List.getElem?_eq_getElem h]
  rfl
theorem cut_from {α : Type} {xs : List α} {s : Nat} (h : s ≤ xs.length) : cutD xs (some (s : Int)) none = xs.drop s := by
  unfold cutD HT.sIx
  have h1 : ¬ ((s : Int) < 0) := by omega
  show (xs.drop (if (s : Int) < 0 then _ else min (s : Int).toNat xs.length)).take (xs.length - (if (s : Int) < 0 then _ else min (s : Int).toNat xs.length)) = _
  rw [if_neg h1, Int.toNat_natCast, Nat.min_eq_left h]
  exact List.take_of_length_le (by rw [List.length_drop]; exact Nat.le_refl _)
theorem cut_upto {α : Type} {xs : List α} {s : Nat} (h : s ≤ xs.length) : cutD xs none (some (s : Int)) = xs.take s := by
  unfold cutD HT.sIx
  have h1 : ¬ ((s : Int) < 0) := by omega
  show (xs.drop 0).take ((if (s : Int) < 0 then _ else min (s : Int).toNat xs.length) - 0) = _
  rw [if_neg h1, List.drop_zero, Nat.sub_zero, Int.toNat_natCast, Nat.min_eq_left h]
theorem set_cut {α : Type} {xs : List α} {k : Nat} {y : α} (h : k < xs.length) : xs.take k ++ [y] ++ xs.drop (k + 1) = xs.set k y := by
  rw [List.append_assoc, List.set_eq_take_append_cons_drop, if_pos h]
  rfl
end
/-! ### what the document says of states and deeds -/
def begunM (m cells : Nat) : List Ct := (List.range m).map (fun (k : Nat) => Ct.old (k : Int)) ++ List.replicate (cells - m) .no
def rowM (rows : List (List Int)) (b : Nat) : List Int := rows.getD b []
/-- what is wrong with a deed -/
def wrongs (rows : List (List Int)) (s : List Ct) : Dd → List D
  | .make b c => ((rowM rows b).filter fun o => !decide (Ct.old o ∈ s.take c ++ s.drop (c + 1))).map fun o => .tup [.str sLacks, .int o]
  | .copy a c => (if s.getD a .no = .no then [.tup [.str "nothing"]] else []) ++ (if a = c then [.tup [.str "same"]] else [])
def behindM (s : List Ct) : Dd → List Ct
  | .make b c => s.set c (.new (b : Int))
  | .copy a c => s.set c (s.getD a .no)
def looseM (rows : List (List Int)) (s : List Ct) : Dd → List Ct
  | .make b c => if ∀ o ∈ rowM rows b, Ct.old o ∈ s then s.set c (.new (b : Int)) else s.set c .no
  | .copy a c => s.set c (s.getD a .no)
def cutM (s : List Ct) (d : Dd) : List Ct := s.set d.cell .no
/-- a deed of a device of so many new blocks and cells -/
def DdOk (n cells : Nat) : Dd → Prop
  | .make b c => b < n ∧ c < cells
  | .copy a c => a < cells ∧ c < cells
theorem behindM_len {s : List Ct} {d : Dd} : (behindM s d).length = s.length := by
  cases d <;> exact List.length_set
theorem looseM_len {rows : List (List Int)} {s : List Ct} {d : Dd} : (looseM rows s d).length = s.length := by
  cases d with
  | make b c =>
    show (if ∀ o ∈ rowM rows b, Ct.old o ∈ s then s.set c (.new (b : Int)) else s.set c .no).length = _
    by_cases h : ∀ o ∈ rowM rows b, Ct.old o ∈ s
    · rw [if_pos h]
      exact List.length_set
    · rw [if_neg h]
      exact List.length_set
  | copy a c => exact List.length_set
theorem cutM_len {s : List Ct} {d : Dd} : (cutM s d).length = s.length := List.length_set
theorem begunM_len {m cells : Nat} (h : m ≤ cells) : (begunM m cells).length = cells := by
  unfold begunM
  rw [List.length_append, List.length_map, List.length_range, List.length_replicate]
  omega
end Zm


set_option Elab.async false
set_option linter.all false
set_option maxRecDepth 100000
set_option maxHeartbeats 4000000
set_option autoImplicit false
namespace Zm
open PySem PySem.Spec L2
local macro_rules | `(tactic| walk_at "le") => `(tactic| first | exact le0 | (refine leS ?_; walk_at "le") | (refine leN ?_; walk_at "le"))
/-- a deed on so many cells -/
def DdIn (cells : Nat) : Dd → Prop
  | .make _ c => c < cells
  | .copy a c => a < cells ∧ c < cells
theorem DdIn.cell {n : Nat} {d : Dd} (h : DdIn n d) : d.cell < n := by
  cases d with
  | make b c => exact h
  | copy a c => exact h.2
abbrev sp_but_for (K : PySem.W.Frag) (C : Addr) : Sp := SpM K C (fun a : List Ct × Nat => a.2 < a.1.length ∧ a.1.length ≤ 60) (fun a => [stD a.1, .int a.2]) (fun a => stD (a.1.take a.2 ++ a.1.drop (a.2 + 1))) 2
abbrev sp_written (K : PySem.W.Frag) (C : Addr) : Sp := SpMN K C (fun a : List Ct × Nat × Ct => a.2.1 < a.1.length ∧ a.1.length ≤ 60) (fun a => [stD a.1, .int a.2.1, cD a.2.2]) (fun a => stD (a.1.set a.2.1 a.2.2)) 3
abbrev sp_behindS (K : PySem.W.Frag) (C : Addr) : Sp := SpMN K C (fun a : List Ct × Dd => DdIn a.1.length a.2 ∧ a.1.length ≤ 60) (fun a => [stD a.1, dD a.2]) (fun a => stD (behindM a.1 a.2)) 2
abbrev sp_cutS (K : PySem.W.Frag) (C : Addr) : Sp := SpMN K C (fun a : List Ct × Dd => DdIn a.1.length a.2 ∧ a.1.length ≤ 60) (fun a => [stD a.1, dD a.2]) (fun a => stD (cutM a.1 a.2)) 2
structure DvOk (m : Int) (rows : List (List Int)) (s : List Ct) (d : Dd) : Prop where
  val : ValidR m rows
  m8 : m ≤ 60
  ok : DdOk rows.length s.length d
  len : s.length ≤ 60
theorem DdOk.in {n cells : Nat} {d : Dd} (h : DdOk n cells d) : DdIn cells d := by
  cases d with
  | make b c => exact h.2
  | copy a c => exact h
abbrev sp_anyS (K : PySem.W.Frag) (C : Addr) : Sp := SpMN K C (fun a : Int × List (List Int) × List Ct × Dd => DvOk a.1 a.2.1 a.2.2.1 a.2.2.2) (fun a => [.rcp a.1 a.2.1, stD a.2.2.1, dD a.2.2.2]) (fun a => stD (looseM a.2.1 a.2.2.1 a.2.2.2)) 3
abbrev sp_wrongs (K : PySem.W.Frag) (C : Addr) : Sp := SpM K C (fun a : Int × List (List Int) × List Ct × Dd => DvOk a.1 a.2.1 a.2.2.1 a.2.2.2) (fun a => [.rcp a.1 a.2.1, stD a.2.2.1, dD a.2.2.2]) (fun a => .lst (wrongs a.2.1 a.2.2.1 a.2.2.2)) 3
theorem st_cat {a b : List Ct} : D.lst (a.map cD ++ b.map cD) = stD (a ++ b) := by rw [← List.map_append]
theorem st_cut_to {s : List Ct} {c : Nat} (h : c ≤ s.length) : cutD (s.map cD) none (some (c : Int)) = (s.take c).map cD := by
  rw [cut_upto (by rw [List.length_map]; exact h), List.map_take]
theorem st_cut_from {s : List Ct} {c : Nat} (h : c ≤ s.length) : cutD (s.map cD) (some (c : Int)) none = (s.drop c).map cD := by
  rw [cut_from (by rw [List.length_map]; exact h), List.map_drop]
theorem row_get {rows : List (List Int)} {b : Nat} (h : b < rows.length) : rowM rows b = rows[b] := by
  unfold rowM
  rw [List.getD_eq_getElem?_getD, List.getElem?_eq_getElem h]
  rfl
theorem all_any {α : Type} {p : α → Bool} {l : List α} : ((l.map fun x => !p x).any id) = !(l.all p) := by
  rw [List.any_map, List.not_all_eq_any_not]
  rfl
section
variable {P : Program} {w : World} {K : PySem.W.Frag} {mg : Str → Option Value} {base : Heap} {f C : Addr} {fd : FuncData}
theorem sc_but_for : FnScope ["state", "cell"] ["state", "cell"] (defScope (top 25)) := ⟨rfl, rfl, rfl, by decide +kernel, rfl, by decide +kernel, by decide +kernel⟩
theorem ok_but_for (F : DefAt K mg "but_for" ["state", "cell"] (top 25) f fd) : DefOk P w K mg base "but_for" 1 ["state", "cell"] (sp_but_for K C) := by
  refine okM F sc_but_for fun cdv A outer s H E hr => ⟨_, (pss_one (ps_ret (pe_op op_cat (pe_slice (x_sl (K := K)) (pv 0) po_none (po_some (pv 1))) (pe_slice (x_sl (K := K)) (pv 0) (po_some (pe_op op_add (pv 1) pe_int)) po_none)))), ?_⟩
  rintro ⟨s, c⟩ ⟨hc, hl⟩
  have hc : c < s.length := hc
  have hl : s.length ≤ 60 := hl
  show StR K C _ (startD ["state", "cell"] [stD s, .int c]) (stD (s.take c ++ s.drop (c + 1)))
  refine sr_ret (ev_is (ev_op (ev_is (z := stD (s.take c)) (en_sl (ev_var rfl) eo_none (eo_some (ev_var rfl))).toD (congrArg D.lst (st_cut_to (by omega)))) (ev_is (z := stD (s.drop (c + 1))) (en_sl (ev_var rfl) (eo_some (ev_is (z := .int ((c + 1 : Nat) : Int)) (ev_op (ev_var rfl) ev_int r2_Ii) (congrArg D.int (by omega)))) eo_none).toD (congrArg D.lst (st_cut_from (by omega)))) (R2N.toD (r2_cat ?_))) st_cat)
  rw [List.length_map, List.length_map, List.length_take, List.length_drop]
  omega
theorem sc_written : FnScope ["state", "cell", "content"] ["state", "cell", "content"] (defScope (top 29)) := ⟨rfl, rfl, rfl, by decide +kernel, rfl, by decide +kernel, by decide +kernel⟩
theorem ok_written (F : DefAt K mg "_written" ["state", "cell", "content"] (top 29) f fd) : DefOk P w K mg base "_written" 1 ["state", "cell", "content"] (sp_written K C) := by
  refine okMN F sc_written fun cdv A outer s H E hr => ⟨_, (pss_one (ps_ret (pe_op op_cat (pe_op op_cat (pe_slice (x_sl (K := K)) (pv 0) po_none (po_some (pv 1))) (pe_lst (pa_cons (pv 2) pa_nil))) (pe_slice (x_sl (K := K)) (pv 0) (po_some (pe_op op_add (pv 1) pe_int)) po_none)))), ?_⟩
  rintro ⟨s, c, x⟩ ⟨hc, hl⟩
  have hc' : c < s.length := hc
  have hl' : s.length ≤ 60 := hl
  show StN K C _ (startD ["state", "cell", "content"] [stD s, .int c, cD x]) (stD (s.set c x))
  refine sn_ret (en_is (en_op (ev_is (z := stD (s.take c ++ [x])) (ev_op (ev_is (z := stD (s.take c)) (en_sl (ev_var rfl) eo_none (eo_some (ev_var rfl))).toD (congrArg D.lst (st_cut_to (by omega)))) (ev_is (z := stD [x]) (en_lst (ea_cons (ev_var rfl) ea_nil) (by show 1 ≤ 100000; decide)).toD rfl) (R2N.toD (r2_cat ?l1))) st_cat) (ev_is (z := stD (s.drop (c + 1))) (en_sl (ev_var rfl) (eo_some (ev_is (z := .int ((c + 1 : Nat) : Int)) (ev_op (ev_var rfl) ev_int r2_Ii) (congrArg D.int (by omega)))) eo_none).toD (congrArg D.lst (st_cut_from (by omega)))) (r2_cat ?l2)) ?eq)
  case l1 =>
    rw [List.length_map, List.length_map, List.length_take]
    show min c s.length + 1 ≤ 100000
    omega
  case l2 =>
    rw [List.length_map, List.length_map, List.length_append, List.length_take, List.length_drop]
    show min c s.length + 1 + _ ≤ 100000
    omega
  case eq =>
    rw [st_cat, set_cut hc']
theorem sc_state_behind : FnScope ["state", "deed", "word", "source", "cell"] ["state", "deed"] (defScope (top 26)) := ⟨rfl, rfl, rfl, by decide +kernel, rfl, by decide +kernel, by decide +kernel⟩
-- slots: state=0 deed=1 word=2 source=3 cell=4
theorem ok_state_behind (B : BFree mg) (D_written : DefOk P w K mg base "_written" 1 ["state", "cell", "content"] (sp_written K C)) (F : DefAt K mg "state_behind" ["state", "deed"] (top 26) f fd) : DefOk P w K mg base "state_behind" 2 ["state", "deed"] (sp_behindS K C) := by
  refine okMN F sc_state_behind fun cdv A outer s H E hr => ⟨_, (pss_cons (ps_asg (pv 1) (g_tup (K := K) (n := 3) (pgs_cons (pg_name (i := 2) sc_state_behind.nd rfl (.inl rfl)) (pgs_cons (pg_name (i := 3) sc_state_behind.nd rfl (.inl rfl)) (pgs_cons (pg_name (i := 4) sc_state_behind.nd rfl (.inl rfl)) pgs_nil))))) (pss_one (ps_ret (pe_def D_written (hr.mono (by first | decide | omega)) (pa_cons (pv 0) (pa_cons (pv 4) (pa_cons (pe_ifExp (pt_cmpR (o_eq (K := K) (by exact hr.units)) (pv 2) pe_str (nomark _)) (pe_tup (pa_cons pe_str (pa_cons (pv 3) pa_nil))) (pe_ix (x_list (K := K)) (pv 0) (pv 3) (fun _ _ => rfl))) pa_nil))))))), ?_⟩
  rintro ⟨s, d⟩ ⟨hd, hl⟩
  have mc : ¬ sCopy = sMake := by decide +kernel
  cases d with
  | make b c =>
    refine sn_seq (sx_unp3 (a := .str sMake) (b := .int b) (c := .int c) (ev_var rfl)) ?_
    exact sn_ret (en_callM (pre := fun a : List Ct × Nat × Ct => a.2.1 < a.1.length ∧ a.1.length ≤ 60) (enc := fun a => [stD a.1, .int a.2.1, cD a.2.2]) (out := fun a => stD (a.1.set a.2.1 a.2.2)) (s, c, Ct.new (b : Int)) (ea_cons (ev_var rfl) (ea_cons (ev_var rfl) (ea_cons (ev_if (b := true) (et_is (et_test (ev_op (ev_var rfl) ev_str (r2_eq (shN_make.shp (n := 0) (by decide)) (shN_make.shp (n := 0) (by decide))))) (by rw [eqD_str]; exact decide_eq_true rfl)) (fun _ => (en_tup (ea_cons ev_str (ea_cons (ev_var rfl) ea_nil)) (by show 2 ≤ 100000; decide)).toD) (fun h => by cases h)) ea_nil))) rfl ⟨hd, hl⟩)
  | copy a c =>
    refine sn_seq (sx_unp3 (a := .str sCopy) (b := .int a) (c := .int c) (ev_var rfl)) ?_
    have ha : a < s.length := hd.1
    have e1 : s.getD a .no = s[a] := by rw [List.getD_eq_getElem?_getD, List.getElem?_eq_getElem ha]; rfl
    refine sn_ret (en_is (en_callM (pre := fun a : List Ct × Nat × Ct => a.2.1 < a.1.length ∧ a.1.length ≤ 60) (enc := fun a => [stD a.1, .int a.2.1, cD a.2.2]) (out := fun a => stD (a.1.set a.2.1 a.2.2)) (s, c, s.getD a .no) (ea_cons (ev_var rfl) (ea_cons (ev_var rfl) (ea_cons (ev_if (b := false) (et_is (et_test (ev_op (ev_var rfl) ev_str (r2_eq (shN_copy.shp (n := 0) (by decide)) (shN_make.shp (n := 0) (by decide))))) (by rw [eqD_str]; exact decide_eq_false mc)) (fun h => by cases h) (fun _ => ev_op (ev_var rfl) (ev_var rfl) (r2_ixL (by rw [e1]; exact st_at ha)))) ea_nil))) rfl ⟨hd.2, hl⟩) rfl)
theorem sc_state_cut : FnScope ["state", "deed"] ["state", "deed"] (defScope (top 27)) := ⟨rfl, rfl, rfl, by decide +kernel, rfl, by decide +kernel, by decide +kernel⟩
theorem ok_state_cut (D_written : DefOk P w K mg base "_written" 1 ["state", "cell", "content"] (sp_written K C)) (F : DefAt K mg "state_cut" ["state", "deed"] (top 27) f fd) : DefOk P w K mg base "state_cut" 2 ["state", "deed"] (sp_cutS K C) := by
  refine okMN F sc_state_cut fun cdv A outer s H E hr => ⟨_, (pss_one (ps_ret (pe_def D_written (hr.mono (by first | decide | omega)) (pa_cons (pv 0) (pa_cons (pe_ix (x_tup (K := K)) (pv 1) pe_int (fun _ _ => rfl)) (pa_cons pe_non pa_nil)))))), ?_⟩
  rintro ⟨s, d⟩ ⟨hd, hl⟩
  exact sn_ret (en_callM (pre := fun a : List Ct × Nat × Ct => a.2.1 < a.1.length ∧ a.1.length ≤ 60) (enc := fun a => [stD a.1, .int a.2.1, cD a.2.2]) (out := fun a => stD (a.1.set a.2.1 a.2.2)) (s, d.cell, Ct.no) (ea_cons (ev_var rfl) (ea_cons (by
    cases d with
    | make b c => exact ev_op (ev_var (d := .tup [.str sMake, .int b, .int c]) rfl) ev_int (r2_ixT rfl)
    | copy b c => exact ev_op (ev_var (d := .tup [.str sCopy, .int b, .int c]) rfl) ev_int (r2_ixT rfl)) (ea_cons ev_non ea_nil))) rfl ⟨hd.cell, hl⟩)
end
end Zm


set_option Elab.async false
set_option linter.all false
set_option maxRecDepth 100000
set_option maxHeartbeats 4000000
set_option autoImplicit false
namespace Zm
open PySem PySem.Spec L2
/-! ### a slot that holds a new thing, set anew again and again, and told at the end -/
def NewAt (i : Nat) (H0 : Hp) (σ : L2.St) : Prop := ∃ p, σ[i]? = some (some (.ref p)) ∧ H0 p = none
def StV (K : PySem.W.Frag) (C : Addr) (i : Nat) (ts : TS) (δ δ' : Dl) : Prop := ∀ H0 O σ H, Same H0 H → At K C O H σ δ → NewAt i H0 σ → ∀ Z : Ends, (∀ σ' H', Same H H' → At K C O H' σ' δ' → NewAt i H0 σ' → Z.nx σ' H') → ts Z σ H
section
variable {K : PySem.W.Frag} {C : Addr} {i j r : Nat} {δ δ' δ2 : Dl} {te : TE} {tt : TT} {ts ts' : TS} {d d0 e : D} {b : Bool}
theorem sv_set (hi : i < δ.length) (h : EvN K C te δ d) : StV K C i (tAsg te (gName i)) δ (δ.set i (some d)) := fun H0 O σ H s n x Z q => h O σ H n _ fun p H1 s1 hp d1 =>
  q _ H1 s1 ⟨(n.same s1).own, (n.same s1).env.set i d1⟩ ⟨p, List.getElem?_set_self (by rw [n.env.1]; exact hi), back_none s hp⟩
theorem sv_other (hj : j ≠ i) (h : EvD K C te δ d) : StV K C i (tAsg te (gName j)) δ (δ.set j (some d)) := fun H0 O σ H s n x Z q => h O σ H n _ fun v H1 s1 d1 =>
  q _ H1 s1 ⟨(n.same s1).own, (n.same s1).env.set j d1⟩ (let ⟨p, h1, h2⟩ := x; ⟨p, by rw [List.getElem?_set_ne hj]; exact h1, h2⟩)
theorem sv_next : StV K C i tNext δ δ := fun H0 O σ H s n x Z q => q σ H (Same.refl H) n x
theorem sv_seq (h : StV K C i ts δ δ') (g : StV K C i ts' δ' δ2) : StV K C i (tSeq ts ts') δ δ2 := fun H0 O σ H s n x Z q => h H0 O σ H s n x { Z with nx := ts' Z } fun σ1 H1 s1 n1 x1 => g H0 O σ1 H1 (s.trans s1) n1 x1 Z fun σ2 H2 s2 n2 x2 => q σ2 H2 (s1.trans s2) n2 x2
theorem sv_weak (h : StV K C i ts δ δ2) (l : LeD δ' δ2) : StV K C i ts δ δ' := fun H0 O σ H s n x Z q => h H0 O σ H s n x Z fun σ1 H1 s1 n1 x1 => q σ1 H1 s1 (n1.weak l) x1
theorem sv_if (h : EvT K C tt δ b) (h1 : b = true → StV K C i ts δ δ') (h2 : b = false → StV K C i ts' δ δ') : StV K C i (tIfS tt ts ts') δ δ' := fun H0 O σ H s n x Z q => h O σ H n _ fun H1 s1 => by
  cases b with
  | true => exact h1 rfl H0 O σ H1 (s.trans s1) (n.same s1) x Z fun σ' H' s' n' x' => q σ' H' (s1.trans s') n' x'
  | false => exact h2 rfl H0 O σ H1 (s.trans s1) (n.same s1) x Z fun σ' H' s' n' x' => q σ' H' (s1.trans s') n' x'
theorem sv_for {α : Type} {as : List α} {g0 : α → D} {δs : Nat → Dl} {wi : TI} {g : TG} {tb : TS} (l : LeD δ' (δs as.length)) (hI : EvI K C wi δ (as.map g0)) (h0 : LeD (δs 0) δ)
    (hB : ∀ n x, as[n]? = some x → ∃ δ1, EvGi K C i g (δs n) (g0 x) δ1 ∧ StV K C i tb δ1 (δs (n + 1))) : StV K C i (tFor wi g tb) δ δ' := by
  refine sv_weak (fun H0 O σ H s n x Z q => hI O σ H n _ fun J H1 s1 w => ?_) l
  have wl : (as.map g0).length = as.length := List.length_map _
  refine ⟨fun n m σ2 H2 => m = as.length - n ∧ n ≤ as.length ∧ Same H1 H2 ∧ At K C O H2 σ2 (δs n) ∧ NewAt i H0 σ2, ⟨as.length, by omega, Nat.zero_le _, Same.refl _, (n.same s1).weak h0, x⟩, ?_⟩
  rintro k m σ2 H2 ⟨rfl, hk, s2, n2, x2⟩
  by_cases hlt : k < as.length
  · have hia : as[k]? = some as[k] := by simp [hlt]
    refine .inr ⟨w.go _ k H2 (same_hid s2) n2.own (by rw [wl]; exact hlt), fun σ3 H3 => k + 1 ≤ as.length ∧ Same H1 H3 ∧ At K C O H3 σ3 (δs (k + 1)) ∧ NewAt i H0 σ3, fun σ3 H3 hN => ⟨_, by omega, rfl, hN⟩, fun y H3 hy => ?_⟩
    obtain ⟨s3, d3⟩ := w.yld _ k H2 y H3 (g0 as[k]) (same_hid s2) n2.own (by rw [List.getElem?_map, hia]; rfl) hy
    obtain ⟨δ1, hg, hb⟩ := hB k _ hia
    refine hg O σ2 H3 y (n2.same s3) d3 _ fun σ4 sl at4 => ?_
    exact hb H0 O σ4 H3 ((s.trans s1).trans (s2.trans s3)) at4 (let ⟨p, h1, h2⟩ := x2; ⟨p, by rw [sl]; exact h1, h2⟩) _ fun σ5 H5 s5 n5 x5 => ⟨hlt, (s2.trans s3).trans s5, n5, x5⟩
  · have e : k = as.length := by omega
    subst e
    exact .inl ⟨by rw [← wl]; exact w.stop _ H2 (same_hid s2) n2.own, q σ2 H2 (s1.trans s2) n2 x2⟩
/-- x = something new; ..; return x -/
theorem sn_newV (hi : i < δ.length) (h : EvN K C te δ d0) (g : StV K C i ts (δ.set i (some d0)) δ') (hd : δ'[i]? = some (some d)) : StN K C (tSeq (tAsg te (gName i)) (tSeq ts (tRet (tVar i)))) δ d := fun O σ H n Z q => h O σ H n _ fun p H1 s1 hp d1 => by
  refine g H O _ H1 s1 ⟨(n.same s1).own, (n.same s1).env.set i d1⟩ ⟨p, List.getElem?_set_self (by rw [n.env.1]; exact hi), hp⟩ _ fun σ2 H2 s2 n2 x2 => ?_
  obtain ⟨p2, h1, h2⟩ := x2
  obtain ⟨v, h3, h4⟩ := n2.env.2 i d hd
  rw [h1] at h3
  cases h3
  exact ⟨.ref p2, h1, q p2 H2 (s1.trans s2) h2 h4⟩
theorem sl_ifApp {ds : List D} (hl : ds.length < 100000) (h : EvT K C tt δ b) (hv : EvD K C te δ e) : StL K C i (tIfS tt (tDrop (tBM K "list" rAppend (tVar i) (tCons te tNil))) tNext) δ ds δ (ds ++ if b = true then [e] else []) := by
  cases b with
  | true => exact sl_if h (fun _ => sl_app hl hv) (fun h => by cases h)
  | false =>
    rw [if_neg Bool.false_ne_true, List.append_nil]
    exact sl_if h (fun h => by cases h) (fun _ => sl_next)
end
theorem sr_asC {K : PySem.W.Frag} {C : Addr} {δ : Dl} {a b c r : TS} {z : D} (h : StR K C (tSeq (tSeq a (tSeq b c)) r) δ z) : StR K C (tSeq a (tSeq b (tSeq c r))) δ z := h
/-! ### the days -/
def dayStep (rows : List (List Int)) (cuts : List Int) (s : List Ct) (q : Dd × Nat) : List Ct := looseM rows (if (q.2 : Int) ∈ cuts then cutM s q.1 else s) q.1
def dayM (rows : List (List Int)) (s : List Ct) (course : List Dd) (cuts : List Int) : List Ct := course.zipIdx.foldl (dayStep rows cuts) s
theorem dayStep_len {rows : List (List Int)} {cuts : List Int} {s : List Ct} {q : Dd × Nat} : (dayStep rows cuts s q).length = s.length := by
  unfold dayStep
  rw [looseM_len]
  split
  · exact cutM_len
  · rfl
theorem dayTo_len {rows : List (List Int)} {cuts : List Int} : ∀ {qs : List (Dd × Nat)} {s : List Ct}, (qs.foldl (dayStep rows cuts) s).length = s.length
  | [], _ => rfl
  | q :: qs, s => by
    rw [List.foldl_cons, dayTo_len, dayStep_len]
/-- right courses -/
def RightC (rows : List (List Int)) : List Ct → List Dd → Prop
  | _, [] => True
  | s, d :: ds => wrongs rows s d = [] ∧ RightC rows (behindM s d) ds
def runM (s : List Ct) (ds : List Dd) : List Ct := ds.foldl behindM s
def statesM : List Ct → List Dd → List (List Ct)
  | s, [] => [s]
  | s, d :: ds => s :: statesM (behindM s d) ds
end Zm


set_option Elab.async false
set_option linter.all false
set_option maxRecDepth 100000
set_option maxHeartbeats 4000000
set_option autoImplicit false
namespace Zm
open PySem PySem.Spec L2
local macro_rules | `(tactic| walk_at "le") => `(tactic| first | exact le0 | (refine leS ?_; walk_at "le") | (refine leN ?_; walk_at "le"))
/-- a device of a recipe: so many cells -/
structure DevOk (m : Int) (rows : List (List Int)) (cells : Nat) : Prop where
  val : ValidR m rows
  m60 : m ≤ 60
  c1 : 1 ≤ cells
  cm : m ≤ cells
  c60 : cells ≤ 60
abbrev sp_check_cells (K : PySem.W.Frag) (C : Addr) : Sp := SpM K C (fun a : Int × List (List Int) × Nat => DevOk a.1 a.2.1 a.2.2) (fun a => [.rcp a.1 a.2.1, .int a.2.2]) (fun _ => .non) 2
abbrev sp_first_state (K : PySem.W.Frag) (C : Addr) : Sp := SpMN K C (fun a : Int × List (List Int) × Nat => DevOk a.1 a.2.1 a.2.2) (fun a => [.rcp a.1 a.2.1, .int a.2.2]) (fun a => stD (begunM a.1.toNat a.2.2)) 2
abbrev sp_is_deed (K : PySem.W.Frag) (C : Addr) : Sp := SpM K C (fun a : Int × List (List Int) × Nat × Dd => DevOk a.1 a.2.1 a.2.2.1 ∧ DdOk a.2.1.length a.2.2.1 a.2.2.2) (fun a => [.rcp a.1 a.2.1, .int a.2.2.1, dD a.2.2.2]) (fun _ => .bl true) 3
structure CoOk (m : Int) (rows : List (List Int)) (cells : Nat) (co : List Dd) : Prop where
  dev : DevOk m rows cells
  all : ∀ d ∈ co, DdOk rows.length cells d
  len : co.length ≤ 60
abbrev encCo (a : Int × List (List Int) × Nat × List Dd) : List D := [.rcp a.1 a.2.1, .int a.2.2.1, coD a.2.2.2]
abbrev sp_are_deeds (K : PySem.W.Frag) (C : Addr) : Sp := SpM K C (fun a : Int × List (List Int) × Nat × List Dd => CoOk a.1 a.2.1 a.2.2.1 a.2.2.2) encCo (fun _ => .bl true) 3
abbrev sp_check_course (K : PySem.W.Frag) (C : Addr) : Sp := SpM K C (fun a : Int × List (List Int) × Nat × List Dd => CoOk a.1 a.2.1 a.2.2.1 a.2.2.2) encCo (fun _ => .non) 3
section
variable {P : Program} {w : World} {K : PySem.W.Frag} {mg : Str → Option Value} {base : Heap} {f C : Addr} {fd : FuncData}
theorem ev_needs_of {δ : Dl} {ta tb : TE} {E : XK} {m : Int} {rows : List (List Int)} {b : Nat} (ha : EvD K C ta δ (.rcp m rows)) (hb : EvD K C tb δ (.int (b : Int))) (hv : ValidR m rows) (hl : b < rows.length) : EvD K C (tCall (sp_needs_of K C) [] E (tCons ta (tCons tb tNil))) δ (.lst (dI (rowM rows b))) :=
  ev_is (EvF.toD (ef_call (ds := [.rcp m rows, .int (b : Int)]) (ea_cons ha (ea_cons hb ea_nil)) rfl ⟨m, rows, _, rfl, hv, by omega, by omega⟩)) (by
    show D.lst (dI (rows.getD (b : Int).toNat [])) = _
    rw [Int.toNat_natCast]
    rfl)
theorem row_len {m : Int} {rows : List (List Int)} {b : Nat} (hv : ValidR m rows) (hl : b < rows.length) : (rowM rows b).length ≤ 1000 := by
  rw [row_get hl]
  exact (hv.2.2.2 _ (List.getElem_mem hl)).2
theorem et_word {δ : Dl} {ta : TE} {s : Str} {b : Bool} (h : EvD K C ta δ (.str s)) (hs : ShN 0 (.str s)) (hb : decide (s = sMake) = b) : EvT K C (tB (tOp (rEqD K) ta (tC (.str sMake)))) δ b :=
  et_is (et_B (ev_op h ev_str (r2_eq (hs.shp (by decide)) ((shN_make (n := 0)).shp (by decide))))) (by rw [eqD_str]; exact hb)
theorem mc_no : decide (sCopy = sMake) = false := by decide +kernel
theorem sc_state_behind_any : FnScope ["recipe", "state", "deed", "word", "source", "_", "old"] ["recipe", "state", "deed"] (defScope (top 28)) := ⟨rfl, rfl, rfl, by decide +kernel, rfl, by decide +kernel, by decide +kernel⟩
-- slots: recipe=0 state=1 deed=2 word=3 source=4 _=5 old=6
theorem ok_state_behind_any (B : BFree mg) (D_needs_of : DefOk P w K mg base "needs_of" 3 ["recipe", "block"] (sp_needs_of K C)) (D_state_cut : DefOk P w K mg base "state_cut" 2 ["state", "deed"] (sp_cutS K C)) (D_state_behind : DefOk P w K mg base "state_behind" 2 ["state", "deed"] (sp_behindS K C)) (F : DefAt K mg "state_behind_any" ["recipe", "state", "deed"] (top 28) f fd) : DefOk P w K mg base "state_behind_any" 4 ["recipe", "state", "deed"] (sp_anyS K C) := by
  refine okMN F sc_state_behind_any fun cdv A outer s H E hr => ⟨_, (pss_cons (ps_asg (pv 2) (g_tup (K := K) (n := 3) (pgs_cons (pg_name (i := 3) sc_state_behind_any.nd rfl (.inl rfl)) (pgs_cons (pg_name (i := 4) sc_state_behind_any.nd rfl (.inl rfl)) (pgs_cons (pg_name (i := 5) sc_state_behind_any.nd rfl (.inl rfl)) pgs_nil))))) (pss_cons (ps_if (PW.pt (pw_and (pt_cmpR (o_eq (K := K) (by exact hr.units)) (pv 3) pe_str (nomark _)) (pw_and1 (pt_val (c_any (K := K) B (pa_cons (pe_lc (own := [("old", 6)]) rfl sc_state_behind_any.nd (i_list (K := K) (pe_def D_needs_of (hr.mono (by first | decide | omega)) (pa_cons (pv 0) (pa_cons (pv 4) pa_nil)))) (blkOk_by (own := [("old", 6)]) (N := ["recipe", "state", "deed", "word", "source", "_", "old"]) (sc := (defScope (top 28))) (by decide +kernel)) (fun _ _ _ _ _ => pg_name (i := 6) sc_state_behind_any.nd rfl (.inl rfl)) (fun _ _ _ _ _ => pts_nil) (fun _ _ _ _ _ => (pe_cmpR (o_notInD (K := K) hr) (pe_tup (pa_cons pe_str (pa_cons (pv 6) pa_nil))) (pv 1) (by rfl)))) pa_nil)))))) (pss_one (ps_ret (pe_def D_state_cut (hr.mono (by first | decide | omega)) (pa_cons (pv 1) (pa_cons (pv 2) pa_nil))))) pss_nil) (pss_one (ps_ret (pe_def D_state_behind (hr.mono (by first | decide | omega)) (pa_cons (pv 1) (pa_cons (pv 2) pa_nil))))))), ?_⟩
  rintro ⟨m, rows, s, d⟩ ⟨hv, m8, ok, hl⟩
  have hv : ValidR m rows := hv
  have hl : s.length ≤ 60 := hl
  show StN K C _ (startD ["recipe", "state", "deed", "word", "source", "_", "old"] [.rcp m rows, stD s, dD d]) (stD (looseM rows s d))
  cases d with
  | make b c =>
    have hb : b < rows.length := ok.1
    have hc : c < s.length := ok.2
    refine sn_seq (sx_unp3 (a := .str sMake) (b := .int b) (c := .int c) (ev_var rfl)) ?_
    refine sn_guard (b := !(rowM rows b).all fun o => decide (Ct.old o ∈ s)) (et_is (et_and (a := true) (b := !(rowM rows b).all fun o => decide (Ct.old o ∈ s)) (et_word (ev_var rfl) shN_make (decide_eq_true rfl)) (fun _ => et_B (ev_is (ev_cb (ea_cons (ev_is (z := .lst (dB ((rowM rows b).map fun o => !decide (Ct.old o ∈ s)))) (en_lc1 (as := rowM rows b) (g0 := D.int) (f := fun o => .bl (!decide (Ct.old o ∈ s))) (ei_list (ev_needs_of (ev_var rfl) (ev_var rfl) hv hb)) (fun a ha => eg_name (by decide)) (fun o ho => ev_op (en_tup (ea_cons ev_str (ea_cons (ev_var rfl) ea_nil)) (by show 2 ≤ 100000; decide)).toD (ev_var rfl) (r2_notInC (.old o) s)) (by have := row_len (rows := rows) (b := b) hv hb; omega)).toD (by unfold dB; rw [List.map_map]; rfl)) ea_nil) rc_any) (by rw [all_any])))) (Bool.true_and _)) (fun h => ?_) (fun h => ?_)
    · refine sn_ret (en_is (en_callM (pre := fun a : List Ct × Dd => DdIn a.1.length a.2 ∧ a.1.length ≤ 60) (enc := fun a => [stD a.1, dD a.2]) (out := fun a => stD (cutM a.1 a.2)) (s, .make b c) (ea_cons (ev_var rfl) (ea_cons (ev_var rfl) ea_nil)) rfl ⟨hc, hl⟩) ?_)
      congr 2
      show s.set c .no = if ∀ o ∈ rowM rows b, Ct.old o ∈ s then _ else s.set c .no
      rw [if_neg]
      intro z
      rw [Bool.not_eq_true', List.all_eq_false] at h
      obtain ⟨o, ho, hn⟩ := h
      exact hn (decide_eq_true (z o ho))
    · refine sn_ret (en_is (en_callM (pre := fun a : List Ct × Dd => DdIn a.1.length a.2 ∧ a.1.length ≤ 60) (enc := fun a => [stD a.1, dD a.2]) (out := fun a => stD (behindM a.1 a.2)) (s, .make b c) (ea_cons (ev_var rfl) (ea_cons (ev_var rfl) ea_nil)) rfl ⟨hc, hl⟩) ?_)
      congr 2
      show s.set c (.new b) = if ∀ o ∈ rowM rows b, Ct.old o ∈ s then s.set c (.new b) else _
      rw [if_pos]
      intro o ho
      rw [Bool.not_eq_false', List.all_eq_true] at h
      exact of_decide_eq_true (h o ho)
  | copy a c =>
    refine sn_seq (sx_unp3 (a := .str sCopy) (b := .int a) (c := .int c) (ev_var rfl)) ?_
    refine sn_guard (b := false) (et_is (et_and (a := false) (b := false) (et_word (ev_var rfl) shN_copy mc_no) (fun h => by cases h)) rfl) (fun h => by cases h) (fun h => ?_)
    exact sn_ret (en_callM (pre := fun a : List Ct × Dd => DdIn a.1.length a.2 ∧ a.1.length ≤ 60) (enc := fun a => [stD a.1, dD a.2]) (out := fun a => stD (behindM a.1 a.2)) (s, .copy a c) (ea_cons (ev_var rfl) (ea_cons (ev_var rfl) ea_nil)) rfl ⟨ok, hl⟩)
theorem sc_wrongs_of : FnScope ["recipe", "state", "deed", "found", "word", "source", "cell", "others", "old"] ["recipe", "state", "deed"] (defScope (top 24)) := ⟨rfl, rfl, rfl, by decide +kernel, rfl, by decide +kernel, by decide +kernel⟩
-- slots: recipe=0 state=1 deed=2 found=3 word=4 source=5 cell=6 others=7 old=8
theorem ok_wrongs_of (B : BFree mg) (D_needs_of : DefOk P w K mg base "needs_of" 3 ["recipe", "block"] (sp_needs_of K C)) (D_but_for : DefOk P w K mg base "but_for" 1 ["state", "cell"] (sp_but_for K C)) (F : DefAt K mg "wrongs_of" ["recipe", "state", "deed"] (top 24) f fd) : DefOk P w K mg base "wrongs_of" 4 ["recipe", "state", "deed"] (sp_wrongs K C) := by
  refine okM F sc_wrongs_of fun cdv A outer s H E hr => ⟨_, (pss_cons (ps_asg (pv 2) (g_tup (K := K) (n := 3) (pgs_cons (pg_name (i := 4) sc_wrongs_of.nd rfl (.inl rfl)) (pgs_cons (pg_name (i := 5) sc_wrongs_of.nd rfl (.inl rfl)) (pgs_cons (pg_name (i := 6) sc_wrongs_of.nd rfl (.inl rfl)) pgs_nil))))) (pss_cons (ps_if (pt_cmpR (o_eq (K := K) (by exact hr.units)) (pv 4) pe_str (nomark _)) (pss_cons (ps_set (i := 7) sc_wrongs_of.nd rfl (.inr rfl) (pe_def D_but_for (hr.mono (by first | decide | omega)) (pa_cons (pv 1) (pa_cons (pv 6) pa_nil)))) (pss_one (ps_ret (pe_lc (own := [("old", 8)]) rfl sc_wrongs_of.nd (i_list (K := K) (pe_def D_needs_of (hr.mono (by first | decide | omega)) (pa_cons (pv 0) (pa_cons (pv 5) pa_nil)))) (blkOk_by (own := [("old", 8)]) (N := ["recipe", "state", "deed", "found", "word", "source", "cell", "others", "old"]) (sc := (defScope (top 24))) (by decide +kernel)) (fun _ _ _ _ _ => pg_name (i := 8) sc_wrongs_of.nd rfl (.inl rfl)) (fun _ _ _ _ _ => pts_one (pt_cmpR (o_notInD (K := K) hr) (pe_tup (pa_cons pe_str (pa_cons (pv 8) pa_nil))) (pv 7) (by rfl))) (fun _ _ _ _ _ => (pe_tup (pa_cons pe_str (pa_cons (pv 8) pa_nil)))))))) pss_nil) (pss_cons (ps_set (i := 3) sc_wrongs_of.nd rfl (.inl rfl) (pe_lst pa_nil)) (pss_cons (ps_if (pt_cmp (pc_isN (pe_ix (x_list (K := K)) (pv 1) (pv 5) (fun _ _ => rfl))) rfl) (pss_one (ps_expr (pe_bm PySem.F.plainAttrs_list PySem.F.slot_list_append PySem.F.type_list_append mt_append (pv 3) (pa_cons (pe_tup (pa_cons pe_str pa_nil)) pa_nil)))) pss_nil) (pss_cons (ps_if (pt_cmpR (o_eq (K := K) (by exact hr.units)) (pv 5) (pv 6) (nomark _)) (pss_one (ps_expr (pe_bm PySem.F.plainAttrs_list PySem.F.slot_list_append PySem.F.type_list_append mt_append (pv 3) (pa_cons (pe_tup (pa_cons pe_str pa_nil)) pa_nil)))) pss_nil) (pss_one (ps_ret (pv 3)))))))), ?_⟩
  rintro ⟨m, rows, s, d⟩ ⟨hv, m8, ok, hl⟩
  have hv : ValidR m rows := hv
  have hl : s.length ≤ 60 := hl
  show StR K C _ (startD ["recipe", "state", "deed", "found", "word", "source", "cell", "others", "old"] [.rcp m rows, stD s, dD d]) (.lst (wrongs rows s d))
  cases d with
  | make b c =>
    have hb : b < rows.length := ok.1
    have hc : c < s.length := ok.2
    refine sr_seq (sx_unp3 (a := .str sMake) (b := .int b) (c := .int c) (ev_var rfl)) ?_
    refine sr_guard (b := true) (et_word (ev_var rfl) shN_make (decide_eq_true rfl)) (fun _ => ?_) (fun h => by cases h)
    refine sr_seq (sx_set (ev_callM (pre := fun a : List Ct × Nat => a.2 < a.1.length ∧ a.1.length ≤ 60) (enc := fun a => [stD a.1, .int a.2]) (out := fun a => stD (a.1.take a.2 ++ a.1.drop (a.2 + 1))) (s, c) (ea_cons (ev_var rfl) (ea_cons (ev_var rfl) ea_nil)) rfl ⟨hc, hl⟩)) ?_
    exact sr_ret (en_lc (as := rowM rows b) (g0 := D.int) (p := fun o => !decide (Ct.old o ∈ s.take c ++ s.drop (c + 1))) (f := fun o => .tup [.str sLacks, .int o]) (ei_list (ev_needs_of (ev_var rfl) (ev_var rfl) hv hb)) (fun a ha => eg_name (by decide)) (fun o ho => et_B (ev_op (en_tup (ea_cons ev_str (ea_cons (ev_var rfl) ea_nil)) (by show 2 ≤ 100000; decide)).toD (ev_var rfl) (r2_notInC (.old o) _))) (fun o ho _ => (en_tup (ea_cons ev_str (ea_cons (ev_var rfl) ea_nil)) (by show 2 ≤ 100000; decide)).toD) (by have := row_len (rows := rows) (b := b) hv hb; omega)).toD
  | copy a c =>
    have ha : a < s.length := ok.1
    have hc : c < s.length := ok.2
    have e1 : s.getD a .no = s[a] := by rw [List.getD_eq_getElem?_getD, List.getElem?_eq_getElem ha]; rfl
    refine sr_seq (sx_unp3 (a := .str sCopy) (b := .int a) (c := .int c) (ev_var rfl)) ?_
    refine sr_guard (b := false) (et_word (ev_var rfl) shN_copy mc_no) (fun h => by cases h) (fun _ => ?_)
    refine sr_asC (sr_seq (sx_ownL (by show 3 < 9; decide) (sl_seq (sl_ifApp (b := decide (s.getD a .no = .no)) (by decide) (et_is (et_B (ev_isNC (c := s.getD a .no) (ev_op (ev_var rfl) (ev_var rfl) (r2_ixL (by rw [e1]; exact st_at ha))))) rfl) (en_tup (ea_cons ev_str ea_nil) (by show 1 ≤ 100000; decide)).toD) (sl_ifApp (b := decide (a = c)) ?len (et_is (et_B (ev_op (ev_var rfl) (ev_var rfl) (r2_eq shp_int shp_int))) ?eq) (en_tup (ea_cons ev_str ea_nil) (by show 1 ≤ 100000; decide)).toD)) (by show 3 < 9; decide)) (sr_ret (ev_is (ev_var rfl) ?fin)))
    case len =>
      rw [List.nil_append]
      split <;> (show _ < 100000) <;> simp
    case eq =>
      rw [eqD_int]
      congr 1
      exact propext ⟨fun h => by omega, fun h => by rw [h]⟩
    case fin =>
      show D.lst _ = D.lst ((if s.getD a .no = .no then [D.tup [.str "nothing"]] else []) ++ (if a = c then [D.tup [.str "same"]] else []))
      rw [List.nil_append]
      simp only [decide_eq_true_eq]
theorem sc_check_cells : FnScope ["recipe", "cells"] ["recipe", "cells"] (defScope (top 15)) := ⟨rfl, rfl, rfl, by decide +kernel, rfl, by decide +kernel, by decide +kernel⟩
theorem ok_check_cells (B : BFree mg) (D_is_count : DefOk P w K mg base "is_count" 1 ["value"] (sp_is_count K C)) (D_m_many : MethOk P w K mg base C "many" 1 ["self"] (sp_many K C)) (F : DefAt K mg "check_cells" ["recipe", "cells"] (top 15) f fd) : DefOk P w K mg base "check_cells" 2 ["recipe", "cells"] (sp_check_cells K C) := by
  refine F.ok sc_check_cells (fun vs H Q E h => h.1) (fun cdv A outer s H vs Q E hr h => ?_)
  refine ⟨_, (pss_one (ps_if (PW.pt (pw_or (pt_not (pt_val (pe_def D_is_count (hr.mono (by first | decide | omega)) (pa_cons (pv 1) pa_nil)))) (pw_or1 (pt_cmpR op_lt (pv 1) (c_max2 (K := K) B (pa_cons pe_int (pa_cons (pe_me0 D_m_many (hr.mono (by first | decide | omega)) (pv 0)) pa_nil))) (nomark _))))) (pss_one ps_never) pss_nil)), ?_⟩
  obtain ⟨_, O, ⟨m, rows, cells⟩, o, hd, ⟨hv, m60, c1, cm, c60⟩, hQ⟩ := h
  have c1 : 1 ≤ cells := c1
  have cm : m ≤ (cells : Int) := cm
  refine (sx_if (b := false) (δ' := startD ["recipe", "cells"] [.rcp m rows, .int cells]) (et_is (et_or (a := false) (b := false) (et_is (et_not (et_B (ev_is (z := .bl true) (ev_call (ds := [.int cells]) (ea_cons (ev_var rfl) ea_nil) rfl ⟨_, rfl, _, rfl⟩) ?_))) rfl) (fun _ => et_is (et_B (ev_op (ev_var rfl) (ev_cb (ea_cons ev_int (ea_cons (ev_is (z := .int m) (ev_meth (ev_var rfl) ea_nil (by decide +kernel) (by decide +kernel) rfl ⟨m, rows, rfl, hv⟩) rfl) ea_nil)) rc_max2) r2_Ib)) ?_)) rfl) (fun h => by cases h) (fun _ => sx_next)) O _ H (at_start o hd) _ fun σ' H' s' n' => hQ _ H' s' (dat_non.mpr rfl)
  · show D.bl (decide (0 ≤ (cells : Int))) = .bl true
    rw [decide_eq_true (by omega)]
  · refine decide_eq_false ?_
    split <;> omega
theorem sc_first_state : FnScope ["recipe", "cells", "block"] ["recipe", "cells"] (defScope (top 32)) := ⟨rfl, rfl, rfl, by decide +kernel, rfl, by decide +kernel, by decide +kernel⟩
theorem ok_first_state (B : BFree mg) (D_check_recipe : DefOk P w K mg base "check_recipe" 1 ["recipe"] (sp_check_recipe K C)) (D_check_cells : DefOk P w K mg base "check_cells" 2 ["recipe", "cells"] (sp_check_cells K C)) (D_m_many : MethOk P w K mg base C "many" 1 ["self"] (sp_many K C)) (F : DefAt K mg "first_state" ["recipe", "cells"] (top 32) f fd) : DefOk P w K mg base "first_state" 3 ["recipe", "cells"] (sp_first_state K C) := by
  refine okMN F sc_first_state fun cdv A outer s H E hr => ⟨_, (pss_cons (ps_expr (pe_def D_check_recipe (hr.mono (by first | decide | omega)) (pa_cons (pv 0) pa_nil))) (pss_cons (ps_expr (pe_def D_check_cells (hr.mono (by first | decide | omega)) (pa_cons (pv 0) (pa_cons (pv 1) pa_nil)))) (pss_one (ps_ret (pe_op op_cat (pe_lc (own := [("block", 2)]) rfl sc_first_state.nd (i_rng1 B (pa_cons (pe_me0 D_m_many (hr.mono (by first | decide | omega)) (pv 0)) pa_nil)) (blkOk_by (own := [("block", 2)]) (N := ["recipe", "cells", "block"]) (sc := (defScope (top 32))) (by decide +kernel)) (fun _ _ _ _ _ => pg_name (i := 2) sc_first_state.nd rfl (.inl rfl)) (fun _ _ _ _ _ => pts_nil) (fun _ _ _ _ _ => (pe_tup (pa_cons pe_str (pa_cons (pv 2) pa_nil))))) (pe_op op_rep (pe_lst (pa_cons pe_non pa_nil)) (pe_op op_sub (pv 1) (pe_me0 D_m_many (hr.mono (by first | decide | omega)) (pv 0))))))))), ?_⟩
  rintro ⟨m, rows, cells⟩ ⟨hv, m60, c1, cm, c60⟩
  have cm : m ≤ (cells : Int) := cm
  have c60 : cells ≤ 60 := c60
  have m0 := hv.1
  show StN K C _ (startD ["recipe", "cells", "block"] [.rcp m rows, .int cells]) (stD (begunM m.toNat cells))
  refine sn_seq (sx_drop (ev_call (ds := [.rcp m rows]) (ea_cons (ev_var rfl) ea_nil) rfl ⟨m, rows, rfl, hv⟩)) ?_
  refine sn_seq (sx_drop (ev_callM (pre := fun a : Int × List (List Int) × Nat => DevOk a.1 a.2.1 a.2.2) (enc := fun a => [.rcp a.1 a.2.1, .int a.2.2]) (out := fun _ => .non) (m, rows, cells) (ea_cons (ev_var rfl) (ea_cons (ev_var rfl) ea_nil)) rfl ⟨hv, m60, c1, cm, c60⟩)) ?_
  refine sn_ret (en_is (en_op (en_lc1 (as := List.range m.toNat) (g0 := fun (k : Nat) => D.int (0 + (k : Int))) (f := fun k => cD (.old (k : Int))) (ei_rng1 (j := m) (ea_cons (ev_is (z := .int m) (ev_meth (ev_var rfl) ea_nil (by decide +kernel) (by decide +kernel) rfl ⟨m, rows, rfl, hv⟩) rfl) ea_nil) (by omega) (by omega)) (fun a ha => eg_name (by decide)) (fun k hk => (en_tup (ea_cons ev_str (ea_cons (ev_is (ev_var rfl) (congrArg D.int (Int.zero_add _))) ea_nil)) (by show 2 ≤ 100000; decide)).toD) (by rw [List.length_range]; omega)).toD (ev_op (en_lst (ea_cons ev_non ea_nil) (by show 1 ≤ 100000; decide)).toD (ev_is (z := .int ((cells - m.toNat : Nat) : Int)) (ev_op (ev_var rfl) (ev_is (z := .int m) (ev_meth (ev_var rfl) ea_nil (by decide +kernel) (by decide +kernel) rfl ⟨m, rows, rfl, hv⟩) rfl) r2_Ii) (congrArg D.int (by omega))) (R2N.toD (r2_rep (by omega) rfl))) (r2_cat ?_)) ?_)
  · rw [List.length_map, List.length_range, List.length_replicate]
    omega
  · unfold stD begunM
    rw [List.map_append, List.map_map, List.map_replicate]
    rfl
end
end Zm


set_option Elab.async false
set_option linter.all false
set_option maxRecDepth 100000
set_option maxHeartbeats 4000000
set_option autoImplicit false
namespace Zm
open PySem PySem.Spec L2
/-! ### looking at the items of one's own list in slot i while it grows -/
section
variable (K : PySem.W.Frag) (C : Addr) (i : Nat)
def EvL (te : TE) (δ : Dl) (ds : List D) (e : D) : Prop := ∀ O σ H a, AtL K C i O H σ δ a ds → ∀ Q : VK, (∀ v H', Same H H' → Dat K C (hid O H') e v → Q v H') → te σ H Q
def EvLA (tr : TA) (δ : Dl) (ds : List D) (es : List D) : Prop := ∀ O σ H a, AtL K C i O H σ δ a ds → ∀ Q : List V → Hp → Prop, (∀ vs H', Same H H' → Dats K C (hid O H') es vs → Q vs H') → tr σ H Q
def EvLT (tt : TT) (δ : Dl) (ds : List D) (b : Bool) : Prop := ∀ O σ H a, AtL K C i O H σ δ a ds → ∀ Q : Bool → Hp → Prop, (∀ H', Same H H' → Q b H') → tt σ H Q
end
section
variable {K : PySem.W.Frag} {C : Addr} {i j r : Nat} {δ δ' δ2 : Dl} {ds ds' ds2 es : List D} {e z : D} {te ta tb : TE} {tr : TA} {tt : TT} {ts ts' : TS} {b : Bool} {E : XK} {A : Type} {pre : A → Prop} {enc : A → List D} {out : A → D} {m : Nat}
theorem el_of (h : EvD K C te δ e) : EvL K C i te δ ds e := fun O σ H a x Q q => h O σ H x.at_ Q q
theorem el_is (h : EvL K C i te δ ds e) (q : e = z) : EvL K C i te δ ds z := q ▸ h
theorem el_ix {k : Int} (hb : EvD K C tb δ (.int k)) (h : atI ds k = some e) : EvL K C i (tOp (rIxL K) (tVar i) tb) δ ds e := fun O σ H a x Q q => by
  refine ⟨.ref a, x.slot, hb O σ H x.at_ _ fun v H1 s1 d1 => ?_⟩
  obtain ⟨xs, h1, h2⟩ := (x.same s1).here
  obtain ⟨w, h3, h4⟩ := dats_at h2 h
  exact ⟨a, xs, k, w, rfl, dat_int.mp d1, .inl (.inl h1), h3, q w H1 s1 h4⟩
theorem ela_nil : EvLA K C i tNil δ ds [] := fun O σ H a x Q q => q [] H (Same.refl H) .nil
theorem ela_cons (ha : EvL K C i ta δ ds e) (hr : EvLA K C i tr δ ds es) : EvLA K C i (tCons ta tr) δ ds (e :: es) := fun O σ H a x Q q =>
  ha O σ H a x _ fun v H1 s1 d1 => hr O σ H1 a (x.same s1) _ fun vs H2 s2 d2 => q _ _ (s1.trans s2) (.cons (d1.same (same_hid s2)) d2)
theorem el_callM (a : A) (ha : EvLA K C i tr δ ds (enc a)) (hn : (enc a).length = m) (hp : pre a) : EvL K C i (tCall (SpM K C pre enc out m) [] E tr) δ ds (out a) := fun O σ H l x Q q =>
  ha O σ H l x _ fun vs H1 s1 d1 => by
    show SpM K C pre enc out m (vs ++ []) H1 Q E
    rw [List.append_nil]
    exact ⟨by rw [d1.length, hn], O, a, x.at_.own.same s1, d1, hp, fun v H2 s2 d2 => q v H2 (s1.trans s2) d2⟩
theorem el_callMN (a : A) (ha : EvLA K C i tr δ ds (enc a)) (hn : (enc a).length = m) (hp : pre a) : EvL K C i (tCall (SpMN K C pre enc out m) [] E tr) δ ds (out a) := fun O σ H l x Q q =>
  ha O σ H l x _ fun vs H1 s1 d1 => by
    show SpMN K C pre enc out m (vs ++ []) H1 Q E
    rw [List.append_nil]
    exact ⟨by rw [d1.length, hn], O, a, x.at_.own.same s1, d1, hp, fun v H2 s2 _ d2 => q _ H2 (s1.trans s2) d2⟩
theorem elt_tru (h : EvL K C i te δ ds (.lst es)) : EvLT K C i (fun σ H Q => te σ H fun x H' => ∃ k, TruV K x H' k ∧ Q k H') δ ds (!es.isEmpty) := fun O σ H a x Q q => h O σ H a x _ fun v H1 s1 d1 => by
  obtain ⟨p, xs, rfl, h1, h2⟩ := dat_lst_iff.mp d1
  refine ⟨!es.isEmpty, .inl ⟨xs, sqL_of h1, ?_⟩, q H1 s1⟩
  have := h2.length
  cases es with
  | nil =>
    rw [List.eq_nil_of_length_eq_zero this]
    rfl
  | cons d es =>
    cases xs with
    | nil => cases this
    | cons x xs => rfl
theorem elt_is {b' : Bool} (h : EvLT K C i tt δ ds b) (q : b = b') : EvLT K C i tt δ ds b' := q ▸ h
theorem sl_ifL (h : EvLT K C i tt δ ds b) (h1 : b = true → StL K C i ts δ ds δ' ds') (h2 : b = false → StL K C i ts' δ ds δ' ds') : StL K C i (tIfS tt ts ts') δ ds δ' ds' := fun O σ H a x Z q => h O σ H a x _ fun H1 s1 => by
  have y := x.same s1
  cases b with
  | true => exact h1 rfl O σ H1 a y Z fun σ' H' s' y' => q σ' H' ((But.of s1).trans s') y'
  | false => exact h2 rfl O σ H1 a y Z fun σ' H' s' y' => q σ' H' ((But.of s1).trans s') y'
/-- x.append(te), te looks at x's items -/
theorem sl_appL (hl : ds.length < 100000) (hv : EvL K C i te δ ds e) : StL K C i (tDrop (tBM K "list" rAppend (tVar i) (tCons te tNil))) δ ds δ (ds ++ [e]) := fun O σ H a x Z q => by
  obtain ⟨xs0, h0, _⟩ := x.here
  refine ⟨.ref a, x.slot, .inl ⟨rfl, xs0, .inl (.inl h0)⟩, hv O σ H a x _ fun v H1 s1 d1 => ?_⟩
  have x1 := x.same s1
  obtain ⟨xs, h1, h2⟩ := x1.here
  refine ⟨a, xs, v, rfl, rfl, h1, by rw [h2.length]; exact Nat.lt_of_lt_of_le hl (by decide), ?_⟩
  have eh : hid O (upd H1 a (.lst (xs ++ [v]))) = hid O H1 := hid_upd x.own
  exact q σ _ ((But.of s1).trans fun c u ne hc => by rw [upd_ne ne]; exact hc) ⟨⟨x1.at_.own.upd trivial, by rw [eh]; exact x1.at_.env⟩, x.own, x.slot, xs ++ [v], upd_same, by rw [eh]; exact h2.append (.one d1)⟩
theorem sx_ownTo (hi : i < δ.length) (h : EvN K C te δ (.lst [e])) (hh : ∀ O H p xs, OIn O H → H p = some (.lst xs) → O p = false → Dats K C (hid O H) [e] xs → Dats K C (hid (addO O p) H) [e] xs) (g : StL K C i ts (δ.set i none) [e] δ' ds') (hj : i < δ'.length) : StX K C (tSeq (tAsg te (gName i)) ts) δ (δ'.set i (some (.lst ds'))) := fun O σ H n Z q => h O σ H n _ fun p H1 s1 hp d1 => by
  have pO : ¬ O p = true := fun z => n.own p z hp
  have eR : rem (addO O p) p = O := by
    funext b
    unfold rem addO
    by_cases hb : b = p
    · subst hb
      rw [Bool.not_eq_true] at pO
      rw [pO]
      simp
    · simp [hb]
  obtain ⟨p', xs, e1, hp0, hx0⟩ := dat_lst_iff.mp d1
  cases e1
  have hp1 := hid_same _ _ hp0
  have x1 : AtL K C i (addO O p) H1 (σ.set i (some (.ref p))) (δ.set i none) p [e] := ⟨⟨(n.own.same s1).add ⟨_, hp1, trivial⟩, (n.env.same ((add_fresh hp).trans (same_hid s1))).unset (some (.ref p)) i⟩, by unfold addO; simp, List.getElem?_set_self (by rw [n.env.1]; exact hi), xs, hp1, hh O H1 p xs (n.own.same s1) hp1 (Bool.eq_false_iff.mpr pO) hx0⟩
  refine g _ _ _ p x1 Z fun σ' H' s' x' => ?_
  obtain ⟨ys, h1, h2⟩ := x'.here
  have x2 : AtO K C i (addO O p) H' σ' δ' p (.lst ds') := ⟨x'.at_, x'.own, x'.slot, dat_lst_iff.mpr ⟨p, ys, rfl, by unfold hid; rw [rem_self, if_neg Bool.false_ne_true]; exact h1, h2.same rem_le⟩⟩
  refine q σ' H' (fun b u hb => ?_) ?_
  · have ne : b ≠ p := fun z => by rw [z, hp] at hb; cases hb
    exact s' b u ne (s1 b u hb)
  · have v := x2.vis hj
    rw [eR] at v
    exact v
end
theorem et_truB {K : PySem.W.Frag} {C : Addr} {δ : Dl} {te : TE} {b : Bool} (h : EvD K C te δ (.bl b)) : EvT K C (fun σ H Q => te σ H fun x H' => ∃ k, TruV K x H' k ∧ Q k H') δ b := fun O σ H n Q q => h O σ H n _ fun v H1 s1 d1 => by
  rw [dat_bl.mp d1]
  exact ⟨b, rfl, q H1 s1⟩
/-! ### data without lists does not look at lists -/
theorem dats_noL {K : PySem.W.Frag} {C : Addr} {O : Addr → Bool} {H : Hp} {p : Addr} {o : HO} (hp : H p = some o) (nt : NoT o) : ∀ {s : List Ct} {xs : List V}, Dats K C (hid O H) (s.map cD) xs → Dats K C (hid (addO O p) H) (s.map cD) xs
  | [], xs, h => h
  | c :: s, xs, h => by
    obtain ⟨x, ys, rfl, h1, h2⟩ := dats_cons.mp h
    refine .cons ?_ (dats_noL hp nt h2)
    have key : ∀ {d e : D}, (∀ H' v, Dat K C H' d v ↔ Dat K C (hid O H) d v) → (∀ H' v, Dat K C H' e v ↔ Dat K C (hid O H) e v) → Dat K C (hid O H) (.tup [d, e]) x → Dat K C (hid (addO O p) H) (.tup [d, e]) x := fun {d e} hd he g => by
      obtain ⟨t, zs, rfl, k1, k2⟩ := dat_tup_iff.mp g
      have ne : t ≠ p := fun z => by
        have := hid_same _ _ k1
        rw [z, hp] at this
        cases this
        exact nt
      refine dat_tup_iff.mpr ⟨t, zs, rfl, ?_, ?_⟩
      · unfold hid at k1 ⊢
        unfold addO
        rw [decide_eq_false ne, Bool.or_false]
        exact k1
      · obtain ⟨y, w, rfl, k3, k4⟩ := dats_two.mp k2
        exact dats_two.mpr ⟨y, w, rfl, (hd _ _).mpr k3, (he _ _).mpr k4⟩
    cases c with
    | no => exact h1
    | old b => exact key (fun _ _ => by rw [dat_str, dat_str]) (fun _ _ => by rw [dat_int, dat_int]) h1
    | new b => exact key (fun _ _ => by rw [dat_str, dat_str]) (fun _ _ => by rw [dat_int, dat_int]) h1
theorem last_at {ds : List D} {e : D} (h : ds.getLast? = some e) : atI ds (-1) = some e := by
  have hl : 0 < ds.length := by
    cases ds with
    | nil => cases h
    | cons d ds => exact Nat.succ_pos _
  unfold atI ixN
  rw [if_neg (by decide), if_pos (by omega), Option.bind_some]
  rw [List.getLast?_eq_getElem?] at h
  rw [← h]
  congr 1
  omega
theorem states_len : ∀ {s : List Ct} {co : List Dd}, (statesM s co).length = co.length + 1
  | _, [] => rfl
  | s, d :: co => by
    show (statesM (behindM s d) co).length + 1 = _
    rw [states_len]
    rfl
theorem states_snoc : ∀ {s : List Ct} {co : List Dd} {d : Dd}, statesM s (co ++ [d]) = statesM s co ++ [behindM (runM s co) d]
  | s, [], d => rfl
  | s, c :: co, d => by
    show s :: statesM (behindM s c) (co ++ [d]) = s :: (statesM (behindM s c) co ++ [behindM (runM (behindM s c) co) d])
    rw [states_snoc]
theorem states_last : ∀ {s : List Ct} {co : List Dd}, (statesM s co).getLast? = some (runM s co)
  | s, [] => rfl
  | s, c :: co => by
    show (s :: statesM (behindM s c) co).getLast? = _
    have := states_last (s := behindM s c) (co := co)
    cases q : statesM (behindM s c) co with
    | nil =>
      have l := states_len (s := behindM s c) (co := co)
      rw [q] at l
      cases l
    | cons x xs =>
      rw [q] at this
      rw [List.getLast?_cons_cons]
      exact this
theorem right_snoc {rows : List (List Int)} : ∀ {s : List Ct} {co : List Dd} {d : Dd}, RightC rows s (co ++ [d]) ↔ RightC rows s co ∧ wrongs rows (runM s co) d = []
  | s, [], d => by
    show (wrongs rows s d = [] ∧ True) ↔ True ∧ wrongs rows s d = []
    simp
  | s, c :: co, d => by
    show (wrongs rows s c = [] ∧ RightC rows (behindM s c) (co ++ [d])) ↔ (wrongs rows s c = [] ∧ RightC rows (behindM s c) co) ∧ wrongs rows (runM (behindM s c) co) d = []
    rw [right_snoc, and_assoc]
theorem runM_len {s : List Ct} : ∀ {co : List Dd}, (runM s co).length = s.length := by
  intro co
  induction co generalizing s with
  | nil => rfl
  | cons d co ih =>
    show (runM (behindM s d) co).length = _
    rw [ih, behindM_len]
theorem runM_snoc {s : List Ct} {co : List Dd} {d : Dd} : runM s (co ++ [d]) = behindM (runM s co) d := by
  unfold runM
  rw [List.foldl_append]
  rfl
theorem right_take {rows : List (List Int)} {s : List Ct} : ∀ {co : List Dd} {k : Nat}, RightC rows s co → RightC rows s (co.take k) := by
  intro co
  induction co generalizing s with
  | nil => intro k h; rw [List.take_nil]; exact h
  | cons d co ih =>
    intro k h
    cases k with
    | zero => trivial
    | succ k => exact ⟨h.1, ih h.2⟩
end Zm


set_option Elab.async false
set_option linter.all false
set_option maxRecDepth 100000
set_option maxHeartbeats 4000000
set_option autoImplicit false
namespace Zm
open PySem PySem.Spec L2
local macro_rules | `(tactic| walk_at "le") => `(tactic| first | exact le0 | (refine leS ?_; walk_at "le") | (refine leN ?_; walk_at "le"))
structure RsOk (m : Int) (rows : List (List Int)) (s : List Ct) (co : List Dd) : Prop where
  val : ValidR m rows
  m60 : m ≤ 60
  all : ∀ d ∈ co, DdOk rows.length s.length d
  right : RightC rows s co
  s60 : s.length ≤ 60
  c60 : co.length ≤ 60
abbrev statesD (s : List Ct) (co : List Dd) : D := .lst ((statesM s co).map stD)
abbrev sp_right_states (K : PySem.W.Frag) (C : Addr) : Sp := SpM K C (fun a : Int × List (List Int) × List Ct × List Dd => RsOk a.1 a.2.1 a.2.2.1 a.2.2.2) (fun a => [.rcp a.1 a.2.1, stD a.2.2.1, coD a.2.2.2]) (fun a => statesD a.2.2.1 a.2.2.2) 3
abbrev preR (a : Int × List (List Int) × Nat × List Dd) : Prop := CoOk a.1 a.2.1 a.2.2.1 a.2.2.2 ∧ RightC a.2.1 (begunM a.1.toNat a.2.2.1) a.2.2.2
abbrev sp_first_wrong (K : PySem.W.Frag) (C : Addr) : Sp := SpM K C preR encCo (fun _ => .non) 3
abbrev sp_states (K : PySem.W.Frag) (C : Addr) : Sp := SpM K C preR encCo (fun a => statesD (begunM a.1.toNat a.2.2.1) a.2.2.2) 3
def CutsOk (n : Nat) (cs : List Int) : Prop := (∀ x ∈ cs, 0 ≤ x ∧ x < n) ∧ cs.Pairwise (· ≤ ·) ∧ cs.length ≤ 1000
abbrev sp_are_cuts (K : PySem.W.Frag) (C : Addr) : Sp := SpM K C (fun a : List Dd × List Int => CutsOk a.1.length a.2) (fun a => [coD a.1, .lst (dI a.2)]) (fun _ => .bl true) 2
abbrev sp_day (K : PySem.W.Frag) (C : Addr) : Sp := SpMN K C (fun a : (Int × List (List Int) × Nat × List Dd) × List Int => CoOk a.1.1 a.1.2.1 a.1.2.2.1 a.1.2.2.2 ∧ CutsOk a.1.2.2.2.length a.2) (fun a => encCo a.1 ++ [.lst (dI a.2)]) (fun a => stD (dayM a.1.2.1 (begunM a.1.1.toNat a.1.2.2.1) a.1.2.2.2 a.2)) 4
theorem srt_up {cs : List Int} (h : cs.Pairwise (· ≤ ·)) : srt cs = cs := by
  unfold srt
  exact List.mergeSort_of_pairwise (h.imp fun {a b} q => by first | exact decide_eq_true q | (simp only [decide_eq_true_eq]; exact q))
theorem st_apart {K : PySem.W.Frag} {C : Addr} {s : List Ct} : ∀ O H p xs, OIn O H → H p = some (.lst xs) → O p = false → Dats K C (hid O H) [stD s] xs → Dats K C (hid (addO O p) H) [stD s] xs := fun O H p xs o hp hO h => by
  obtain ⟨x, rfl, hx⟩ := dats_one.mp h
  obtain ⟨q, ys, rfl, h1, h2⟩ := dat_lst_iff.mp hx
  have ne : q ≠ p := fun z => by
    subst z
    have e1 := hid_same _ _ h1
    rw [hp] at e1
    cases e1
    cases s with
    | nil => exact absurd (dats_nil.mp h2) (by simp)
    | cons c s =>
      obtain ⟨y, zs, e, h3, h4⟩ := dats_cons.mp h2
      cases e
      cases c with
      | no => cases dat_non.mp h3
      | old b =>
        obtain ⟨t, ws, e, k1, _⟩ := dat_tup_iff.mp h3
        cases e
        have := hid_same _ _ k1
        rw [hp] at this
        cases this
      | new b =>
        obtain ⟨t, ws, e, k1, _⟩ := dat_tup_iff.mp h3
        cases e
        have := hid_same _ _ k1
        rw [hp] at this
        cases this
  refine .one (dat_lst_iff.mpr ⟨q, ys, rfl, ?_, dats_noL hp trivial h2⟩)
  unfold hid at h1 ⊢
  unfold addO
  rw [decide_eq_false ne, Bool.or_false]
  exact h1
section
variable {P : Program} {w : World} {K : PySem.W.Frag} {mg : Str → Option Value} {base : Heap} {f C : Addr} {fd : FuncData}
theorem sc_is_deed : FnScope ["recipe", "cells", "value", "word", "source", "cell"] ["recipe", "cells", "value"] (defScope (top 22)) := ⟨rfl, rfl, rfl, by decide +kernel, rfl, by decide +kernel, by decide +kernel⟩
-- slots: recipe=0 cells=1 value=2 word=3 source=4 cell=5
theorem ok_is_deed (B : BFree mg) (D_is_count_below : DefOk P w K mg base "is_count_below" 2 ["value", "limit"] (sp_is_count_below K C)) (D_m_size : MethOk P w K mg base C "size" 1 ["self"] (sp_size K C)) (F : DefAt K mg "is_deed" ["recipe", "cells", "value"] (top 22) f fd) : DefOk P w K mg base "is_deed" 3 ["recipe", "cells", "value"] (sp_is_deed K C) := by
  refine okM F sc_is_deed fun cdv A outer s H E hr => ⟨_, (pss_cons (ps_if (PW.pt (pw_or (pt_not (pt_val (c_isi (K := K) B (pa_cons (pv 2) (pa_cons (n_ty (n := "tuple") B) pa_nil))))) (pw_or1 (pt_cmpR (o_ne (K := K) (by exact hr.units)) (c_len (K := K) B (pa_cons (pv 2) pa_nil)) pe_int (nomark _))))) (pss_one (ps_ret pe_bl)) pss_nil) (pss_cons (ps_asg (pv 2) (g_tup (K := K) (n := 3) (pgs_cons (pg_name (i := 3) sc_is_deed.nd rfl (.inl rfl)) (pgs_cons (pg_name (i := 4) sc_is_deed.nd rfl (.inl rfl)) (pgs_cons (pg_name (i := 5) sc_is_deed.nd rfl (.inl rfl)) pgs_nil))))) (pss_cons (ps_if (pt_not (pt_val (pe_def D_is_count_below (hr.mono (by first | decide | omega)) (pa_cons (pv 5) (pa_cons (pv 1) pa_nil))))) (pss_one (ps_ret pe_bl)) pss_nil) (pss_cons (ps_if (pt_cmpR (o_eq (K := K) (by exact hr.units)) (pv 3) pe_str (nomark _)) (pss_one (ps_ret (pe_def D_is_count_below (hr.mono (by first | decide | omega)) (pa_cons (pv 4) (pa_cons (pe_me0 D_m_size (hr.mono (by first | decide | omega)) (pv 0)) pa_nil))))) pss_nil) (pss_one (ps_ret (pe_and (pe_cmpR (o_eq (K := K) (by exact hr.units)) (pv 3) pe_str (nomark _)) (pe_one (pe_def D_is_count_below (hr.mono (by first | decide | omega)) (pa_cons (pv 4) (pa_cons (pv 1) pa_nil))))))))))), ?_⟩
  rintro ⟨m, rows, cells, d⟩ ⟨⟨hv, _, _, _, c60⟩, ok⟩
  have hv : ValidR m rows := hv
  show StR K C _ (startD ["recipe", "cells", "value", "word", "source", "cell"] [.rcp m rows, .int cells, dD d]) (.bl true)
  have cb : ∀ {δ : Dl} {i j : Nat} {E : XK} {a b : Nat}, δ[i]? = some (some (.int (a : Int))) → δ[j]? = some (some (.int (b : Int))) → a < b → EvD K C (tCall (sp_is_count_below K C) [] E (tCons (tVar i) (tCons (tVar j) tNil))) δ (.bl true) := fun {δ i j E a b} hi hj hab => ev_is (ev_call (ds := [.int a, .int b]) (ea_cons (ev_var hi) (ea_cons (ev_var hj) ea_nil)) rfl ⟨_, _, rfl, _, rfl⟩) (by
    show D.bl (decide (0 ≤ (a : Int)) && decide ((a : Int) < b)) = _
    rw [decide_eq_true (by omega), decide_eq_true (by omega)]
    rfl)
  cases d with
  | make b c =>
    refine sr_guard (b := false) (et_is (et_or (a := false) (b := false) (et_is (et_not (et_B (ev_cb (ea_cons (ev_var (d := .tup [.str sMake, .int b, .int c]) rfl) (ea_cons ev_raw ea_nil)) (rc_isi rfl (by decide))))) rfl) (fun _ => et_is (et_B (ev_op (ev_cb (ea_cons (ev_var (d := .tup [.str sMake, .int b, .int c]) rfl) ea_nil) rc_lenT) ev_int (r2_ne shp_int shp_int))) (by rw [eqD_int]; rfl))) rfl) (fun h => by cases h) (fun _ => ?_)
    refine sr_seq (sx_unp3 (a := .str sMake) (b := .int b) (c := .int c) (ev_var rfl)) ?_
    refine sr_guard (b := false) (et_is (et_not (et_B (cb rfl rfl ok.2))) rfl) (fun h => by cases h) (fun _ => ?_)
    refine sr_guard (b := true) (et_word (ev_var rfl) shN_make (decide_eq_true rfl)) (fun _ => ?_) (fun h => by cases h)
    refine sr_ret (ev_is (ev_call (ds := [.int b, .int rows.length]) (ea_cons (ev_var rfl) (ea_cons (ev_is (z := .int rows.length) (ev_meth (ev_var rfl) ea_nil (by decide +kernel) (by decide +kernel) rfl ⟨m, rows, rfl, hv⟩) rfl) ea_nil)) rfl ⟨_, _, rfl, _, rfl⟩) ?_)
    have hb : b < rows.length := ok.1
    show D.bl (decide (0 ≤ (b : Int)) && decide ((b : Int) < rows.length)) = _
    rw [decide_eq_true (by omega), decide_eq_true (by omega)]
    rfl
  | copy b c =>
    refine sr_guard (b := false) (et_is (et_or (a := false) (b := false) (et_is (et_not (et_B (ev_cb (ea_cons (ev_var (d := .tup [.str sCopy, .int b, .int c]) rfl) (ea_cons ev_raw ea_nil)) (rc_isi rfl (by decide))))) rfl) (fun _ => et_is (et_B (ev_op (ev_cb (ea_cons (ev_var (d := .tup [.str sCopy, .int b, .int c]) rfl) ea_nil) rc_lenT) ev_int (r2_ne shp_int shp_int))) (by rw [eqD_int]; rfl))) rfl) (fun h => by cases h) (fun _ => ?_)
    refine sr_seq (sx_unp3 (a := .str sCopy) (b := .int b) (c := .int c) (ev_var rfl)) ?_
    refine sr_guard (b := false) (et_is (et_not (et_B (cb rfl rfl ok.2))) rfl) (fun h => by cases h) (fun _ => ?_)
    refine sr_guard (b := false) (et_word (ev_var rfl) shN_copy mc_no) (fun h => by cases h) (fun _ => ?_)
    exact sr_ret (ev_is (ev_andV (a := true) (b := true) (ev_is (ev_op (ev_var rfl) ev_str (r2_eq ((shN_copy (n := 0)).shp (by decide)) ((shN_copy (n := 0)).shp (by decide)))) (by rw [eqD_str]; exact congrArg D.bl (decide_eq_true rfl))) (fun _ => cb rfl rfl ok.1)) rfl)
theorem sc_are_deeds : FnScope ["recipe", "cells", "value", "item"] ["recipe", "cells", "value"] (defScope (top 23)) := ⟨rfl, rfl, rfl, by decide +kernel, rfl, by decide +kernel, by decide +kernel⟩
theorem ok_are_deeds (B : BFree mg) (D_is_deed : DefOk P w K mg base "is_deed" 3 ["recipe", "cells", "value"] (sp_is_deed K C)) (F : DefAt K mg "are_deeds" ["recipe", "cells", "value"] (top 23) f fd) : DefOk P w K mg base "are_deeds" 4 ["recipe", "cells", "value"] (sp_are_deeds K C) := by
  refine okM F sc_are_deeds fun cdv A outer s H E hr => ⟨_, (pss_one (ps_ret (pe_and (c_isi (K := K) B (pa_cons (pv 2) (pa_cons (n_ty (n := "list") B) pa_nil))) (pe_one (c_all (K := K) B (pa_cons (pe_lc (own := [("item", 3)]) rfl sc_are_deeds.nd (i_list (K := K) (pv 2)) (blkOk_by (own := [("item", 3)]) (N := ["recipe", "cells", "value", "item"]) (sc := (defScope (top 23))) (by decide +kernel)) (fun _ _ _ _ _ => pg_name (i := 3) sc_are_deeds.nd rfl (.inl rfl)) (fun _ _ _ _ _ => pts_nil) (fun _ _ _ _ _ => (pe_def D_is_deed (hr.mono (by first | decide | omega)) (pa_cons (pv 0) (pa_cons (pv 1) (pa_cons (pv 3) pa_nil)))))) pa_nil)))))), ?_⟩
  rintro ⟨m, rows, cells, co⟩ ⟨dev, all, len⟩
  have len : co.length ≤ 60 := len
  show StR K C _ (startD ["recipe", "cells", "value", "item"] [.rcp m rows, .int cells, coD co]) (.bl true)
  refine sr_ret (ev_is (ev_andV (a := true) (b := true) (ev_cb (ea_cons (ev_var rfl) (ea_cons ev_raw ea_nil)) (rc_isi rfl (by decide))) (fun _ => ev_is (ev_cb (ea_cons (ev_is (z := .lst (dB (co.map fun _ => true))) (en_lc1 (as := co) (g0 := dD) (f := fun _ => .bl true) (ei_list (ev_var rfl)) (fun a ha => eg_name (by decide)) (fun d hd => ev_callM (pre := fun a : Int × List (List Int) × Nat × Dd => DevOk a.1 a.2.1 a.2.2.1 ∧ DdOk a.2.1.length a.2.2.1 a.2.2.2) (enc := fun a => [.rcp a.1 a.2.1, .int a.2.2.1, dD a.2.2.2]) (out := fun _ => .bl true) (m, rows, cells, d) (ea_cons (ev_var rfl) (ea_cons (ev_var rfl) (ea_cons (ev_var rfl) ea_nil))) rfl ⟨dev, all d hd⟩) (by omega)).toD (by unfold dB; rw [List.map_map]; rfl)) ea_nil) rc_all) (congrArg D.bl (by rw [List.all_map]; exact List.all_eq_true.mpr fun _ _ => rfl)))) rfl)
theorem sc_is_course : FnScope ["recipe", "cells", "value"] ["recipe", "cells", "value"] (defScope (top 33)) := ⟨rfl, rfl, rfl, by decide +kernel, rfl, by decide +kernel, by decide +kernel⟩
theorem ok_is_course (D_check_recipe : DefOk P w K mg base "check_recipe" 1 ["recipe"] (sp_check_recipe K C)) (D_check_cells : DefOk P w K mg base "check_cells" 2 ["recipe", "cells"] (sp_check_cells K C)) (D_are_deeds : DefOk P w K mg base "are_deeds" 4 ["recipe", "cells", "value"] (sp_are_deeds K C)) (F : DefAt K mg "is_course" ["recipe", "cells", "value"] (top 33) f fd) : DefOk P w K mg base "is_course" 5 ["recipe", "cells", "value"] (sp_are_deeds K C) := by
  refine okM F sc_is_course fun cdv A outer s H E hr => ⟨_, (pss_cons (ps_expr (pe_def D_check_recipe (hr.mono (by first | decide | omega)) (pa_cons (pv 0) pa_nil))) (pss_cons (ps_expr (pe_def D_check_cells (hr.mono (by first | decide | omega)) (pa_cons (pv 0) (pa_cons (pv 1) pa_nil)))) (pss_one (ps_ret (pe_def D_are_deeds (hr.mono (by first | decide | omega)) (pa_cons (pv 0) (pa_cons (pv 1) (pa_cons (pv 2) pa_nil)))))))), ?_⟩
  rintro ⟨m, rows, cells, co⟩ ok
  have dev : DevOk m rows cells := ok.dev
  show StR K C _ (startD ["recipe", "cells", "value"] [.rcp m rows, .int cells, coD co]) (.bl true)
  refine sr_seq (sx_drop (ev_call (ds := [.rcp m rows]) (ea_cons (ev_var rfl) ea_nil) rfl ⟨m, rows, rfl, dev.val⟩)) ?_
  refine sr_seq (sx_drop (ev_callM (pre := fun a : Int × List (List Int) × Nat => DevOk a.1 a.2.1 a.2.2) (enc := fun a => [.rcp a.1 a.2.1, .int a.2.2]) (out := fun _ => .non) (m, rows, cells) (ea_cons (ev_var rfl) (ea_cons (ev_var rfl) ea_nil)) rfl dev)) ?_
  exact sr_ret (ev_callM (pre := fun a : Int × List (List Int) × Nat × List Dd => CoOk a.1 a.2.1 a.2.2.1 a.2.2.2) (enc := encCo) (out := fun _ => .bl true) (m, rows, cells, co) (ea_cons (ev_var rfl) (ea_cons (ev_var rfl) (ea_cons (ev_var rfl) ea_nil))) rfl ok)
theorem sc_check_course : FnScope ["recipe", "cells", "course"] ["recipe", "cells", "course"] (defScope (top 36)) := ⟨rfl, rfl, rfl, by decide +kernel, rfl, by decide +kernel, by decide +kernel⟩
theorem ok_check_course (D_is_course : DefOk P w K mg base "is_course" 5 ["recipe", "cells", "value"] (sp_are_deeds K C)) (F : DefAt K mg "check_course" ["recipe", "cells", "course"] (top 36) f fd) : DefOk P w K mg base "check_course" 6 ["recipe", "cells", "course"] (sp_check_course K C) := by
  refine F.ok sc_check_course (fun vs H Q E h => h.1) (fun cdv A outer s H vs Q E hr h => ?_)
  refine ⟨_, (pss_one (ps_if (pt_not (pt_val (pe_def D_is_course (hr.mono (by first | decide | omega)) (pa_cons (pv 0) (pa_cons (pv 1) (pa_cons (pv 2) pa_nil)))))) (pss_one ps_never) pss_nil)), ?_⟩
  obtain ⟨_, O, ⟨m, rows, cells, co⟩, o, hd, hp, hQ⟩ := h
  exact (sx_if (b := false) (δ' := startD ["recipe", "cells", "course"] [.rcp m rows, .int cells, coD co]) (et_is (et_not (et_B (ev_callM (pre := fun a : Int × List (List Int) × Nat × List Dd => CoOk a.1 a.2.1 a.2.2.1 a.2.2.2) (enc := encCo) (out := fun _ => .bl true) (m, rows, cells, co) (ea_cons (ev_var rfl) (ea_cons (ev_var rfl) (ea_cons (ev_var rfl) ea_nil))) rfl hp))) rfl) (fun h => by cases h) (fun _ => sx_next)) O _ H (at_start o hd) _ fun σ' H' s' n' => hQ _ H' s' (dat_non.mpr rfl)
theorem sc_right_states : FnScope ["recipe", "state", "deeds", "passed", "deed"] ["recipe", "state", "deeds"] (defScope (top 30)) := ⟨rfl, rfl, rfl, by decide +kernel, rfl, by decide +kernel, by decide +kernel⟩
-- slots: recipe=0 state=1 deeds=2 passed=3 deed=4
theorem ok_right_states (B : BFree mg) (D_wrongs_of : DefOk P w K mg base "wrongs_of" 4 ["recipe", "state", "deed"] (sp_wrongs K C)) (D_state_behind : DefOk P w K mg base "state_behind" 2 ["state", "deed"] (sp_behindS K C)) (F : DefAt K mg "right_states" ["recipe", "state", "deeds"] (top 30) f fd) : DefOk P w K mg base "right_states" 5 ["recipe", "state", "deeds"] (sp_right_states K C) := by
  refine okM F sc_right_states fun cdv A outer s H E hr => ⟨_, (pss_cons (ps_set (i := 3) sc_right_states.nd rfl (.inl rfl) (pe_lst (pa_cons (c_list (K := K) B (pa_cons (pv 1) pa_nil)) pa_nil))) (pss_cons (ps_for PassesOwn.never rfl (i_list (K := K) (pv 2)) (pg_name (i := 4) sc_right_states.nd rfl (.inl rfl)) (pss_cons (ps_if (pt_truth (pe_def D_wrongs_of (hr.mono (by first | decide | omega)) (pa_cons (pv 0) (pa_cons (pe_ix (x_list (K := K)) (pv 3) (pe_un un_neg pe_int) (fun _ _ => rfl)) (pa_cons (pv 4) pa_nil)))) (by intro _; rfl)) (pss_one ps_break) pss_nil) (pss_one (ps_expr (pe_bm PySem.F.plainAttrs_list PySem.F.slot_list_append PySem.F.type_list_append mt_append (pv 3) (pa_cons (pe_def D_state_behind (hr.mono (by first | decide | omega)) (pa_cons (pe_ix (x_list (K := K)) (pv 3) (pe_un un_neg pe_int) (fun _ _ => rfl)) (pa_cons (pv 4) pa_nil))) pa_nil)))))) (pss_one (ps_ret (pv 3))))), ?_⟩
  rintro ⟨m, rows, s, co⟩ ⟨hv, m60, all, right, s60, c60⟩
  have s60 : s.length ≤ 60 := s60
  have c60 : co.length ≤ 60 := c60
  show StR K C _ (startD ["recipe", "state", "deeds", "passed", "deed"] [.rcp m rows, stD s, coD co]) (statesD s co)
  refine sr_as2 (sr_seq (sx_ownTo (i := 3) (e := stD s) (ds' := (statesM s co).map stD) (δ' := [some (.rcp m rows), some (stD s), some (coD co), none, none]) (by show 3 < 5; decide) (en_lst (ea_cons (en_cb (ea_cons (ev_var rfl) ea_nil) rn_listL).toD ea_nil) (by show 1 ≤ 100000; decide)) st_apart ?loop (by show 3 < 5; decide)) (sr_ret (ev_var rfl)))
  refine sl_for (as := co) (g0 := dD) (dn := fun k => (statesM s (co.take k)).map stD) (δs := fun _ => [some (.rcp m rows), some (stD s), some (coD co), none, none]) (by rw [List.take_zero]; rfl) (by rw [List.take_length]) (by walk_at "le") (ei_list (ev_var rfl)) (by walk_at "le") (fun n d hd => ⟨_, egi_name (by decide), ?body⟩)
  have hn := (List.getElem?_eq_some_iff.mp hd).1
  have et : co.take (n + 1) = co.take n ++ [d] := by rw [List.take_succ, hd]; rfl
  have hr1 : wrongs rows (runM s (co.take n)) d = [] := by
    have := right_take (k := n + 1) right
    rw [et] at this
    exact (right_snoc.mp this).2
  have dok : DdOk rows.length (runM s (co.take n)).length d := by
    rw [runM_len]
    exact all d (List.mem_of_getElem? hd)
  have last : atI ((statesM s (co.take n)).map stD) (-1) = some (stD (runM s (co.take n))) := last_at (by rw [List.getLast?_map, states_last]; rfl)
  refine sl_weak (δ2 := [some (.rcp m rows), some (stD s), some (coD co), none, some (dD d)]) (sl_seq (sl_ifL (b := false) (elt_is (elt_tru (el_callM (pre := fun a : Int × List (List Int) × List Ct × Dd => DvOk a.1 a.2.1 a.2.2.1 a.2.2.2) (enc := fun a => [.rcp a.1 a.2.1, stD a.2.2.1, dD a.2.2.2]) (out := fun a => .lst (wrongs a.2.1 a.2.2.1 a.2.2.2)) (m, rows, runM s (co.take n), d) (ela_cons (el_of (ev_var rfl)) (ela_cons (el_ix (ev_is (z := .int (-1)) (ev_un ev_int r1_U) rfl) last) (ela_cons (el_of (ev_var rfl)) ela_nil))) rfl ⟨hv, m60, dok, by show (runM s (co.take n)).length ≤ 60; rw [runM_len]; exact s60⟩)) (by show (!(wrongs rows (runM s (co.take n)) d).isEmpty) = false; rw [hr1]; rfl)) (fun h => by cases h) (fun _ => sl_next)) ?app) ?le
  case app =>
    rw [et, states_snoc, List.map_append]
    exact sl_appL (by rw [List.length_map, states_len, List.length_take]; omega) (el_callMN (pre := fun a : List Ct × Dd => DdIn a.1.length a.2 ∧ a.1.length ≤ 60) (enc := fun a => [stD a.1, dD a.2]) (out := fun a => stD (behindM a.1 a.2)) (runM s (co.take n), d) (ela_cons (el_ix (ev_is (z := .int (-1)) (ev_un ev_int r1_U) rfl) last) (ela_cons (el_of (ev_var rfl)) ela_nil)) rfl ⟨dok.in, by show (runM s (co.take n)).length ≤ 60; rw [runM_len]; exact s60⟩)
  case le => walk_at "le"
end
end Zm


set_option Elab.async false
set_option linter.all false
set_option maxRecDepth 100000
set_option maxHeartbeats 4000000
set_option autoImplicit false
namespace Zm
open PySem PySem.Spec L2
local macro_rules | `(tactic| walk_at "le") => `(tactic| first | exact le0 | (refine leS ?_; walk_at "le") | (refine leN ?_; walk_at "le"))
theorem CoOk.rs {m : Int} {rows : List (List Int)} {cells : Nat} {co : List Dd} (h : CoOk m rows cells co) (r : RightC rows (begunM m.toNat cells) co) : RsOk m rows (begunM m.toNat cells) co := by
  have l : (begunM m.toNat cells).length = cells := begunM_len (by have := h.dev.cm; have := h.dev.val.1; omega)
  exact ⟨h.dev.val, h.dev.m60, fun d hd => by rw [l]; exact h.all d hd, r, by rw [l]; exact h.dev.c60, h.len⟩
section
variable {P : Program} {w : World} {K : PySem.W.Frag} {mg : Str → Option Value} {base : Heap} {f C : Addr} {fd : FuncData}
theorem ev_first {δ : Dl} {E : XK} {ta tb : TE} {m : Int} {rows : List (List Int)} {cells : Nat} (ha : EvD K C ta δ (.rcp m rows)) (hb : EvD K C tb δ (.int (cells : Int))) (h : DevOk m rows cells) : EvN K C (tCall (sp_first_state K C) [] E (tCons ta (tCons tb tNil))) δ (stD (begunM m.toNat cells)) :=
  en_callM (pre := fun a : Int × List (List Int) × Nat => DevOk a.1 a.2.1 a.2.2) (enc := fun a => [.rcp a.1 a.2.1, .int a.2.2]) (out := fun a => stD (begunM a.1.toNat a.2.2)) (m, rows, cells) (ea_cons ha (ea_cons hb ea_nil)) rfl h
theorem ev_rstates {δ : Dl} {E : XK} {ta tb tc : TE} {m : Int} {rows : List (List Int)} {s : List Ct} {co : List Dd} (ha : EvD K C ta δ (.rcp m rows)) (hb : EvD K C tb δ (stD s)) (hc : EvD K C tc δ (coD co)) (h : RsOk m rows s co) : EvD K C (tCall (sp_right_states K C) [] E (tCons ta (tCons tb (tCons tc tNil)))) δ (statesD s co) :=
  ev_callM (pre := fun a : Int × List (List Int) × List Ct × List Dd => RsOk a.1 a.2.1 a.2.2.1 a.2.2.2) (enc := fun a => [.rcp a.1 a.2.1, stD a.2.2.1, coD a.2.2.2]) (out := fun a => statesD a.2.2.1 a.2.2.2) (m, rows, s, co) (ea_cons ha (ea_cons hb (ea_cons hc ea_nil))) rfl h
theorem ev_checkCo {δ : Dl} {E : XK} {ta tb tc : TE} {m : Int} {rows : List (List Int)} {cells : Nat} {co : List Dd} (ha : EvD K C ta δ (.rcp m rows)) (hb : EvD K C tb δ (.int (cells : Int))) (hc : EvD K C tc δ (coD co)) (h : CoOk m rows cells co) : EvD K C (tCall (sp_check_course K C) [] E (tCons ta (tCons tb (tCons tc tNil)))) δ .non :=
  ev_callM (pre := fun a : Int × List (List Int) × Nat × List Dd => CoOk a.1 a.2.1 a.2.2.1 a.2.2.2) (enc := encCo) (out := fun _ => .non) (m, rows, cells, co) (ea_cons ha (ea_cons hb (ea_cons hc ea_nil))) rfl h
theorem sc_first_wrong : FnScope ["recipe", "cells", "course", "last"] ["recipe", "cells", "course"] (defScope (top 34)) := ⟨rfl, rfl, rfl, by decide +kernel, rfl, by decide +kernel, by decide +kernel⟩
-- slots: recipe=0 cells=1 course=2 last=3
theorem ok_first_wrong (B : BFree mg) (D_check_course : DefOk P w K mg base "check_course" 6 ["recipe", "cells", "course"] (sp_check_course K C)) (D_right_states : DefOk P w K mg base "right_states" 5 ["recipe", "state", "deeds"] (sp_right_states K C)) (D_first_state : DefOk P w K mg base "first_state" 3 ["recipe", "cells"] (sp_first_state K C)) (F : DefAt K mg "first_wrong" ["recipe", "cells", "course"] (top 34) f fd) : DefOk P w K mg base "first_wrong" 7 ["recipe", "cells", "course"] (sp_first_wrong K C) := by
  refine okM F sc_first_wrong fun cdv A outer s H E hr => ⟨_, (pss_cons (ps_expr (pe_def D_check_course (hr.mono (by first | decide | omega)) (pa_cons (pv 0) (pa_cons (pv 1) (pa_cons (pv 2) pa_nil))))) (pss_cons (ps_set (i := 3) sc_first_wrong.nd rfl (.inl rfl) (pe_op op_sub (c_len (K := K) B (pa_cons (pe_def D_right_states (hr.mono (by first | decide | omega)) (pa_cons (pv 0) (pa_cons (pe_def D_first_state (hr.mono (by first | decide | omega)) (pa_cons (pv 0) (pa_cons (pv 1) pa_nil))) (pa_cons (pv 2) pa_nil)))) pa_nil)) pe_int)) (pss_one (ps_ret (pe_ifExp (pt_cmpR (o_eq (K := K) (by exact hr.units)) (pv 3) (c_len (K := K) B (pa_cons (pv 2) pa_nil)) (nomark _)) pe_non (pv 3)))))), ?_⟩
  rintro ⟨m, rows, cells, co⟩ ⟨ok, right⟩
  have ok : CoOk m rows cells co := ok
  have right : RightC rows (begunM m.toNat cells) co := right
  show StR K C _ (startD ["recipe", "cells", "course", "last"] [.rcp m rows, .int cells, coD co]) .non
  refine sr_seq (sx_drop (ev_checkCo (ev_var rfl) (ev_var rfl) (ev_var rfl) ok)) ?_
  refine sr_seq (sx_set (d := .int (co.length : Int)) (ev_is (ev_op (ev_cb (ea_cons (ev_rstates (ev_var rfl) (EvN.toD (ev_first (ev_var rfl) (ev_var rfl) ok.dev)) (ev_var rfl) (ok.rs right)) ea_nil) rc_lenL) ev_int r2_Ii) (congrArg D.int (by rw [List.length_map, states_len]; omega)))) ?_
  exact sr_ret (ev_if (b := true) (et_is (et_B (ev_op (ev_var rfl) (ev_is (ev_cb (ea_cons (ev_var rfl) ea_nil) rc_lenL) (congrArg (fun (k : Nat) => D.int (k : Int)) (List.length_map _))) (r2_eq shp_int shp_int))) (by rw [eqD_int]; exact decide_eq_true rfl)) (fun _ => ev_non) (fun h => by cases h))
theorem sc_states : FnScope ["recipe", "cells", "course"] ["recipe", "cells", "course"] (defScope (top 35)) := ⟨rfl, rfl, rfl, by decide +kernel, rfl, by decide +kernel, by decide +kernel⟩
theorem ok_states (D_first_wrong : DefOk P w K mg base "first_wrong" 7 ["recipe", "cells", "course"] (sp_first_wrong K C)) (D_right_states : DefOk P w K mg base "right_states" 5 ["recipe", "state", "deeds"] (sp_right_states K C)) (D_first_state : DefOk P w K mg base "first_state" 3 ["recipe", "cells"] (sp_first_state K C)) (F : DefAt K mg "states" ["recipe", "cells", "course"] (top 35) f fd) : DefOk P w K mg base "states" 8 ["recipe", "cells", "course"] (sp_states K C) := by
  refine okM F sc_states fun cdv A outer s H E hr => ⟨_, (pss_cons (ps_if (pt_cmp (pc_notN (pe_def D_first_wrong (hr.mono (by first | decide | omega)) (pa_cons (pv 0) (pa_cons (pv 1) (pa_cons (pv 2) pa_nil))))) rfl) (pss_one ps_never) pss_nil) (pss_one (ps_ret (pe_def D_right_states (hr.mono (by first | decide | omega)) (pa_cons (pv 0) (pa_cons (pe_def D_first_state (hr.mono (by first | decide | omega)) (pa_cons (pv 0) (pa_cons (pv 1) pa_nil))) (pa_cons (pv 2) pa_nil))))))), ?_⟩
  rintro ⟨m, rows, cells, co⟩ ⟨ok, right⟩
  have ok : CoOk m rows cells co := ok
  have right : RightC rows (begunM m.toNat cells) co := right
  show StR K C _ (startD ["recipe", "cells", "course"] [.rcp m rows, .int cells, coD co]) (statesD (begunM m.toNat cells) co)
  refine sr_seq (sx_if (b := false) (δ' := startD ["recipe", "cells", "course"] [.rcp m rows, .int cells, coD co]) (et_B (ev_notNN (ev_callM (pre := preR) (enc := encCo) (out := fun _ => .non) (m, rows, cells, co) (ea_cons (ev_var rfl) (ea_cons (ev_var rfl) (ea_cons (ev_var rfl) ea_nil))) rfl ⟨ok, right⟩))) (fun h => by cases h) (fun _ => sx_next)) ?_
  exact sr_ret (ev_rstates (ev_var rfl) (EvN.toD (ev_first (ev_var rfl) (ev_var rfl) ok.dev)) (ev_var rfl) (ok.rs right))
theorem sc_are_cuts : FnScope ["course", "value", "item"] ["course", "value"] (defScope (top 39)) := ⟨rfl, rfl, rfl, by decide +kernel, rfl, by decide +kernel, by decide +kernel⟩
theorem ok_are_cuts (B : BFree mg) (D_is_count_below : DefOk P w K mg base "is_count_below" 2 ["value", "limit"] (sp_is_count_below K C)) (F : DefAt K mg "_are_cuts" ["course", "value"] (top 39) f fd) : DefOk P w K mg base "_are_cuts" 3 ["course", "value"] (sp_are_cuts K C) := by
  refine okM F sc_are_cuts fun cdv A outer s H E hr => ⟨_, (pss_cons (ps_if (PW.pt (pw_or (pt_not (pt_val (c_isi (K := K) B (pa_cons (pv 1) (pa_cons (n_ty (n := "list") B) pa_nil))))) (pw_or1 (pt_not (pt_val (c_all (K := K) B (pa_cons (pe_lc (own := [("item", 2)]) rfl sc_are_cuts.nd (i_list (K := K) (pv 1)) (blkOk_by (own := [("item", 2)]) (N := ["course", "value", "item"]) (sc := (defScope (top 39))) (by decide +kernel)) (fun _ _ _ _ _ => pg_name (i := 2) sc_are_cuts.nd rfl (.inl rfl)) (fun _ _ _ _ _ => pts_nil) (fun _ _ _ _ _ => (pe_def D_is_count_below (hr.mono (by first | decide | omega)) (pa_cons (pv 2) (pa_cons (c_len (K := K) B (pa_cons (pv 0) pa_nil)) pa_nil))))) pa_nil))))))) (pss_one (ps_ret pe_bl)) pss_nil) (pss_one (ps_ret (pe_cmpR (o_eq (K := K) (by exact hr.units)) (pv 1) (c_sorted (K := K) B (pa_cons (pv 1) pa_nil)) (nomark _))))), ?_⟩
  rintro ⟨co, cs⟩ ⟨hb, up, len⟩
  have hb : ∀ x ∈ cs, 0 ≤ x ∧ x < (co.length : Int) := hb
  have len : cs.length ≤ 1000 := len
  show StR K C _ (startD ["course", "value", "item"] [coD co, .lst (dI cs)]) (.bl true)
  refine sr_guard (b := false) (et_is (et_or (a := false) (b := false) (et_is (et_not (et_B (ev_cb (ea_cons (ev_var rfl) (ea_cons ev_raw ea_nil)) (rc_isi rfl (by decide))))) rfl) (fun _ => et_is (et_not (et_B (ev_is (z := .bl true) (ev_cb (ea_cons (ev_is (z := .lst (dB (cs.map fun _ => true))) (en_lc1 (as := cs) (g0 := D.int) (f := fun _ => .bl true) (ei_list (ev_var rfl)) (fun a ha => eg_name (by decide)) (fun x hx => ?cb) (by omega)).toD (by unfold dB; rw [List.map_map]; rfl)) ea_nil) rc_all) (congrArg D.bl (by rw [List.all_map]; exact List.all_eq_true.mpr fun _ _ => rfl))))) rfl)) rfl) (fun h => by cases h) (fun _ => ?ret)
  case cb =>
    obtain ⟨h0, h1⟩ := hb x hx
    refine ev_is (ev_call (ds := [.int x, .int co.length]) (ea_cons (ev_var rfl) (ea_cons (ev_is (ev_cb (ea_cons (ev_var rfl) ea_nil) rc_lenL) (congrArg (fun (k : Nat) => D.int (k : Int)) (List.length_map _))) ea_nil)) rfl ⟨_, _, rfl, _, rfl⟩) ?_
    show D.bl (decide (0 ≤ x) && decide (x < (co.length : Int))) = _
    rw [decide_eq_true h0, decide_eq_true h1]
    rfl
  case ret =>
    exact sr_ret (ev_is (ev_op (ev_var rfl) (en_cb (ea_cons (ev_var rfl) ea_nil) rn_sorted).toD (r2_eq shp_row shp_row)) (by rw [srt_up up, eqD_row, decide_eq_true rfl]))
theorem sc_day : FnScope ["recipe", "cells", "course", "cuts", "state", "at", "deed"] ["recipe", "cells", "course", "cuts"] (defScope (top 38)) := ⟨rfl, rfl, rfl, by decide +kernel, rfl, by decide +kernel, by decide +kernel⟩
-- slots: recipe=0 cells=1 course=2 cuts=3 state=4 at=5 deed=6
theorem ok_day (B : BFree mg) (D_check_course : DefOk P w K mg base "check_course" 6 ["recipe", "cells", "course"] (sp_check_course K C)) (D_are_cuts : DefOk P w K mg base "_are_cuts" 3 ["course", "value"] (sp_are_cuts K C)) (D_first_state : DefOk P w K mg base "first_state" 3 ["recipe", "cells"] (sp_first_state K C)) (D_state_cut : DefOk P w K mg base "state_cut" 2 ["state", "deed"] (sp_cutS K C)) (D_state_behind_any : DefOk P w K mg base "state_behind_any" 4 ["recipe", "state", "deed"] (sp_anyS K C)) (F : DefAt K mg "day" ["recipe", "cells", "course", "cuts"] (top 38) f fd) : DefOk P w K mg base "day" 7 ["recipe", "cells", "course", "cuts"] (sp_day K C) := by
  refine okMN F sc_day fun cdv A outer s H E hr => ⟨_, (pss_cons (ps_expr (pe_def D_check_course (hr.mono (by first | decide | omega)) (pa_cons (pv 0) (pa_cons (pv 1) (pa_cons (pv 2) pa_nil))))) (pss_cons (ps_if (pt_not (pt_val (pe_def D_are_cuts (hr.mono (by first | decide | omega)) (pa_cons (pv 2) (pa_cons (pv 3) pa_nil))))) (pss_one ps_never) pss_nil) (pss_cons (ps_set (i := 4) sc_day.nd rfl (.inl rfl) (pe_def D_first_state (hr.mono (by first | decide | omega)) (pa_cons (pv 0) (pa_cons (pv 1) pa_nil)))) (pss_cons (ps_for PassesOwn.never rfl (i_enum B (pa_cons (pv 2) pa_nil)) (g_tup (K := K) (n := 2) (pgs_cons (pg_name (i := 5) sc_day.nd rfl (.inl rfl)) (pgs_cons (pg_name (i := 6) sc_day.nd rfl (.inl rfl)) pgs_nil))) (pss_cons (ps_if (pt_cmpR (o_in (K := K)) (pv 5) (pv 3) (by rfl)) (pss_one (ps_set (i := 4) sc_day.nd rfl (.inl rfl) (pe_def D_state_cut (hr.mono (by first | decide | omega)) (pa_cons (pv 4) (pa_cons (pv 6) pa_nil))))) pss_nil) (pss_one (ps_set (i := 4) sc_day.nd rfl (.inl rfl) (pe_def D_state_behind_any (hr.mono (by first | decide | omega)) (pa_cons (pv 0) (pa_cons (pv 4) (pa_cons (pv 6) pa_nil)))))))) (pss_one (ps_ret (pv 4))))))), ?_⟩
  rintro ⟨⟨m, rows, cells, co⟩, cs⟩ ⟨ok, cuts⟩
  have ok : CoOk m rows cells co := ok
  have cuts : CutsOk co.length cs := cuts
  have l : (begunM m.toNat cells).length = cells := begunM_len (by have := ok.dev.cm; have := ok.dev.val.1; omega)
  have c60 := ok.dev.c60
  show StN K C _ (startD ["recipe", "cells", "course", "cuts", "state", "at", "deed"] [.rcp m rows, .int cells, coD co, .lst (dI cs)]) (stD (dayM rows (begunM m.toNat cells) co cs))
  refine sn_seq (sx_drop (ev_checkCo (ev_var rfl) (ev_var rfl) (ev_var rfl) ok)) ?_
  refine sn_seq (sx_if (b := false) (δ' := startD ["recipe", "cells", "course", "cuts", "state", "at", "deed"] [.rcp m rows, .int cells, coD co, .lst (dI cs)]) (et_is (et_not (et_B (ev_callM (pre := fun a : List Dd × List Int => CutsOk a.1.length a.2) (enc := fun a => [coD a.1, .lst (dI a.2)]) (out := fun _ => .bl true) (co, cs) (ea_cons (ev_var rfl) (ea_cons (ev_var rfl) ea_nil)) rfl cuts))) rfl) (fun h => by cases h) (fun _ => sx_next)) ?_
  have zl : co.zipIdx.length = co.length := List.length_zipIdx ..
  refine sn_newV (i := 4) (δ' := [some (.rcp m rows), some (.int cells), some (coD co), some (.lst (dI cs)), some (stD (dayM rows (begunM m.toNat cells) co cs)), none, none]) (by show 4 < 7; decide) (ev_first (ev_var rfl) (ev_var rfl) ok.dev) ?loop rfl
  refine sv_for (as := co.zipIdx) (g0 := fun (q : Dd × Nat) => D.tup [.int (q.2 : Int), dD q.1]) (δs := fun k => [some (.rcp m rows), some (.int cells), some (coD co), some (.lst (dI cs)), some (stD ((co.zipIdx.take k).foldl (dayStep rows cs) (begunM m.toNat cells))), none, none]) (by show LeD _ [_, _, _, _, some (stD ((co.zipIdx.take co.zipIdx.length).foldl _ _)), none, none]; rw [List.take_length]; walk_at "le") ?hI (by walk_at "le") (fun n q hq => ⟨_, egi_two (r := 5) (r2 := 6) (by decide) (by decide), ?body⟩)
  case hI =>
    have e : enuD (co.map dD) = co.zipIdx.map fun (q : Dd × Nat) => D.tup [.int (q.2 : Int), dD q.1] := by
      unfold enuD
      rw [List.zipIdx_map, List.map_map]
      rfl
    rw [← e]
    exact ei_enum (ev_var rfl)
  case body =>
    obtain ⟨d, k⟩ := q
    have hd : d ∈ co := List.fst_mem_of_mem_zipIdx (List.mem_of_getElem? hq)
    have et : co.zipIdx.take (n + 1) = co.zipIdx.take n ++ [(d, k)] := by rw [List.take_succ, hq]; rfl
    generalize hs : (co.zipIdx.take n).foldl (dayStep rows cs) (begunM m.toNat cells) = s1
    have l1 : s1.length = cells := by rw [← hs, dayTo_len, l]
    have ne : (co.zipIdx.take (n + 1)).foldl (dayStep rows cs) (begunM m.toNat cells) = looseM rows (if (k : Int) ∈ cs then cutM s1 d else s1) d := by
      rw [et, List.foldl_append, hs]
      rfl
    have dk := ok.all d hd
    refine sv_weak (δ2 := [some (.rcp m rows), some (.int cells), some (coD co), some (.lst (dI cs)), some (stD (looseM rows (if (k : Int) ∈ cs then cutM s1 d else s1) d)), some (.int k), some (dD d)]) ?_ (by show LeD [_, _, _, _, some (stD ((co.zipIdx.take (n + 1)).foldl _ _)), none, none] _; rw [ne]; walk_at "le")
    refine sv_seq (δ' := [some (.rcp m rows), some (.int cells), some (coD co), some (.lst (dI cs)), some (stD (if (k : Int) ∈ cs then cutM s1 d else s1)), some (.int k), some (dD d)]) (sv_if (b := decide ((k : Int) ∈ cs)) (et_B (ev_op (ev_var rfl) (ev_var rfl) r2_in)) (fun h => ?c1) (fun h => ?c2)) (sv_set (by show 4 < 7; decide) (en_callM (pre := fun a : Int × List (List Int) × List Ct × Dd => DvOk a.1 a.2.1 a.2.2.1 a.2.2.2) (enc := fun a => [.rcp a.1 a.2.1, stD a.2.2.1, dD a.2.2.2]) (out := fun a => stD (looseM a.2.1 a.2.2.1 a.2.2.2)) (m, rows, (if (k : Int) ∈ cs then cutM s1 d else s1), d) (ea_cons (ev_var rfl) (ea_cons (ev_var rfl) (ea_cons (ev_var rfl) ea_nil))) rfl ?c3))
    case c1 =>
      rw [if_pos (of_decide_eq_true h)]
      exact sv_set (by show 4 < 7; decide) (en_callM (pre := fun a : List Ct × Dd => DdIn a.1.length a.2 ∧ a.1.length ≤ 60) (enc := fun a => [stD a.1, dD a.2]) (out := fun a => stD (cutM a.1 a.2)) (s1, d) (ea_cons (ev_var rfl) (ea_cons (ev_var rfl) ea_nil)) rfl ⟨by show DdIn s1.length d; rw [l1]; exact dk.in, by show s1.length ≤ 60; omega⟩)
    case c2 =>
      rw [if_neg (of_decide_eq_false h)]
      exact sv_weak sv_next (by walk_at "le")
    case c3 =>
      have l2 : (if (k : Int) ∈ cs then cutM s1 d else s1).length = cells := by
        split
        · rw [cutM_len, l1]
        · exact l1
      exact ⟨ok.dev.val, ok.dev.m60, by show DdOk rows.length (if (k : Int) ∈ cs then cutM s1 d else s1).length d; rw [l2]; exact dk, by show (if (k : Int) ∈ cs then cutM s1 d else s1).length ≤ 60; rw [l2]; exact c60⟩
end
end Zm


set_option Elab.async false
set_option linter.all false
set_option maxRecDepth 100000
set_option maxHeartbeats 4000000
set_option autoImplicit false
namespace Zm
open PySem PySem.Spec L2
local macro_rules | `(tactic| walk_at "ev") => `(tactic| first
  | exact ev_var rfl
  | exact ev_int
  | exact ev_bl
  | exact ev_non
  | exact ev_str
  | exact ev_raw
  | exact ea_nil
  | exact eo_none
  | exact et_yes
  | ((with_reducible refine' ea_cons ?_ ?_) <;> walk_at "ev")
  | ((with_reducible refine' eo_some ?_) <;> walk_at "ev")
  | ((with_reducible refine' ev_op ?_ ?_ ?_) <;> walk_at "ev")
  | ((with_reducible refine' ev_un ?_ ?_) <;> walk_at "ev")
  | ((with_reducible refine' ev_cb ?_ ?_) <;> walk_at "ev")
  | ((with_reducible refine' ev_notV ?_) <;> walk_at "ev")
  | ((with_reducible refine' et_not ?_) <;> walk_at "ev")
  | ((with_reducible refine' et_test ?_) <;> walk_at "ev")
  | ((with_reducible refine' et_B ?_) <;> walk_at "ev")
  | ((with_reducible refine' en_lst ?_ ?_) <;> walk_at "ev")
  | ((with_reducible refine' en_tup ?_ ?_) <;> walk_at "ev")
  | ((with_reducible refine' (en_lst ?_ ?_).toD) <;> walk_at "ev")
  | ((with_reducible refine' (en_tup ?_ ?_).toD) <;> walk_at "ev")
  | exact r2_Ii
  | exact r2_Ib
  | exact r1_U
  | exact r2_in
  | exact r2_notIn
  | exact rc_lenL
  | exact rc_lenT
  | exact rc_sum
  | exact rc_max2
  | exact rc_min2
  | exact rc_int
  | exact rc_all
  | exact rc_any
  | exact rn_listL
  | exact rn_listT
  | exact rn_tupL
  | exact rn_sorted
  | exact rn_dictP
  | (with_reducible refine' r2_Ci ?_)
  | skip)
section
variable {P : Program} {w : World} {K : PySem.W.Frag} {mg : Str → Option Value} {base : Heap} {f C : Addr} {fd : FuncData}
theorem sc_law_purse : FnScope ["script", "at", "seed"] ["script", "at"] (defScope (top 41)) := ⟨rfl, rfl, rfl, by decide +kernel, rfl, by decide +kernel, by decide +kernel⟩
theorem cut_first (ns : List Int) : ∃ ms : List Int, cutV (ns.map V.int) (some 0) (some (0 + 1)) = ms.map V.int := by
  refine ⟨cutD ns (some 0) (some (0 + 1)), ?_⟩
  unfold cutV cutD
  rw [List.length_map, List.map_take, List.map_drop]
theorem ok_law_purse (B : BFree mg) (F : DefAt K mg "_law_purse" ["script", "at"] (top 41) f fd) : DefOk P w K mg base "_law_purse" 1 ["script", "at"] (spPurse K) := by
  refine F.ok sc_law_purse (fun vs H Q E h => ?_) (fun cdv A outer s H vs Q E hr h => ?_)
  · obtain ⟨a, ns, rfl, _⟩ := h
    rfl
  · obtain ⟨a, ns, rfl, hS, hQ⟩ := h
    obtain ⟨ms, hms⟩ := cut_first ns
    refine ⟨_, (pss_cons (ps_set (i := 2) sc_law_purse.nd rfl (.inl rfl) (c_sum (K := K) B (pa_cons (pe_slice (x_sl (K := K)) (pv 0) (po_some (pv 1)) (po_some (pe_op op_add (pv 1) pe_int))) pa_nil))) (pss_one (ps_ret (pe_lst (pa_cons (pe_op op_modN (c_int (K := K) B (pa_cons (c_max2 (K := K) B (pa_cons (pe_op op_sub (pv 2) (pe_op op_pow pe_int pe_int)) (pa_cons pe_int pa_nil))) pa_nil)) (pe_op op_powW (pe_op op_pow pe_int pe_int) pe_int)) (pa_cons (pe_op op_modN (c_int (K := K) B (pa_cons (pv 2) pa_nil)) pe_int) (pa_cons pe_int (pa_cons (pv 1) pa_nil)))))))), ?_⟩
    refine ⟨_, rfl, _, rfl, 0, rfl, _, rfl, _, _, rfl, rfl, _, rfl, _, _, rfl, hS, fun p1 h1 => ?_⟩
    refine ⟨p1, ms, rfl, SqL.of (by rw [upd_same, hms]), ?_⟩
    have at1 : At K 0 (fun _ => false) (upd H p1 (.lst (cutV (ns.map V.int) (some 0) (some (0 + 1))))) [some (.ref a), some (.int 0), some (.int ms.sum)] [none, some (.int 0), some (.int ms.sum)] := ⟨⟨fun b e => (by cases e), fun b u e => (by cases e)⟩, rfl, fun i d e => match i, e with
      | 0, e => (by cases e)
      | 1, e => ⟨.int 0, rfl, (by have q : D.int 0 = d := (by simpa using e); rw [← q]; exact dat_int.mpr rfl)⟩
      | 2, e => ⟨.int ms.sum, rfl, (by have q : D.int ms.sum = d := (by simpa using e); rw [← q]; exact dat_int.mpr rfl)⟩
      | i + 3, e => (by simp at e)⟩
    dsimp only [gName]
    refine (sn_ret (K := K) (C := 0) (δ := [none, some (.int 0), some (.int ms.sum)]) (d := .lst [.int ((if 0 > ms.sum - 10 ^ (18 : Int).toNat then 0 else ms.sum - 10 ^ (18 : Int).toNat : Int).fmod ((10 ^ (60 : Int).toNat) ^ (8 : Int).toNat)), .int (ms.sum.fmod 2147483629), .int 0, .int 0]) ?ev) (fun _ => false) _ _ at1 _ ?k
    case ev =>
      refine en_lst (ea_cons ?_ (ea_cons ?_ (ea_cons ev_int (ea_cons (ev_var rfl) ea_nil)))) ?_
      · walk_at "ev"
        · exact ⟨by decide, by decide, by decide⟩
        · exact ⟨by decide, by decide, by decide⟩
        · exact ⟨by decide, by decide +kernel⟩
        · show ((10 ^ (60 : Int).toNat) ^ (8 : Int).toNat : Int) ≠ 0
          decide +kernel
      · walk_at "ev"
        exact (by decide : (2147483629 : Int) ≠ 0)
      · show 4 ≤ 100000
        decide
    case k =>
      intro p H' s' hp hd
      obtain ⟨b, xs, e, h2, h3⟩ := dat_lst_iff.mp hd
      cases e
      have h4 : Dats K 0 (hid (fun _ => false) H') (dI [(if 0 > ms.sum - 10 ^ (18 : Int).toNat then 0 else ms.sum - 10 ^ (18 : Int).toNat : Int).fmod ((10 ^ (60 : Int).toNat) ^ (8 : Int).toNat), ms.sum.fmod 2147483629, 0, 0]) xs := h3
      rw [dats_ints.mp h4] at h2
      have n1 : H p = none := (same_new h1).free hp
      refine hQ p H' ((same_new h1).trans s') n1 ⟨_, _, _, _, hid_same _ _ h2, ?_, ?_, ?_, ?_, Int.le_refl _, Int.le_refl _, rfl⟩
      · exact Int.fmod_nonneg_of_pos _ (by decide +kernel)
      · have e10 : ((10 ^ (60 : Int).toNat) ^ (8 : Int).toNat : Int) = 10 ^ 480 := by decide +kernel
        rw [← e10]
        exact Int.fmod_lt_of_pos _ (by decide +kernel)
      · exact Int.fmod_nonneg_of_pos _ (by decide)
      · exact Int.fmod_lt_of_pos _ (by decide)
theorem sc_law_mixed : FnScope ["seed", "spin", "at", "mixed"] ["seed", "spin", "at"] (defScope (top 42)) := ⟨rfl, rfl, rfl, by decide +kernel, rfl, by decide +kernel, by decide +kernel⟩
def mixI (a b : Int) : Int := ((((a * 69069 + 104729 * b * b + 7919 * 0 + b).fmod 2147483647 * (a * 69069 + 104729 * b * b + 7919 * 0 + b).fmod 2147483647 + 40503).fmod 2147483629) * 48271).fmod 2147483587
def f_mixed (ds : List D) : D := match ds with
  | [.int a, .int b, .int _] => .int (mixI a b)
  | _ => .non
abbrev sp_mixed (K : PySem.W.Frag) (C : Addr) : Sp := SpD K C (fun ds => ∃ a b, ds = [.int a, .int b, .int 0] ∧ (0 ≤ a ∧ a < 2 ^ 40) ∧ 0 ≤ b ∧ b < 2 ^ 60) f_mixed 3
theorem ok_law_mixed (B : BFree mg) (F : DefAt K mg "_law_mixed" ["seed", "spin", "at"] (top 42) f fd) : DefOk P w K mg base "_law_mixed" 1 ["seed", "spin", "at"] (sp_mixed K C) := by
  refine okD F sc_law_mixed fun cdv A outer s H E hr => ⟨_, (pss_cons (ps_set (i := 3) sc_law_mixed.nd rfl (.inl rfl) (pe_op op_add (pe_op op_mul (pv 0) pe_int) (pe_op op_mul (pe_op op_mul pe_int (pv 1)) (pv 1)))) (pss_cons (ps_set (i := 3) sc_law_mixed.nd rfl (.inl rfl) (pe_op op_modN (c_int (K := K) B (pa_cons (pe_op op_add (pe_op op_add (pv 3) (pe_op op_mul pe_int (pv 2))) (pv 1)) pa_nil)) pe_int)) (pss_cons (ps_set (i := 3) sc_law_mixed.nd rfl (.inl rfl) (pe_op op_modN (c_int (K := K) B (pa_cons (pe_op op_add (pe_op op_mul (pv 3) (pv 3)) pe_int) pa_nil)) pe_int)) (pss_one (ps_ret (pe_op op_modN (c_int (K := K) B (pa_cons (pe_op op_mul (pv 3) pe_int) pa_nil)) pe_int)))))), ?_⟩
  rintro ds ⟨a, b, rfl, ⟨a0, a1⟩, b0, b1⟩
  have m0 : ∀ i : Int, 0 ≤ i.fmod 2147483647 ∧ i.fmod 2147483647 < 2147483647 := fun i => ⟨Int.fmod_nonneg_of_pos _ (by decide), Int.fmod_lt_of_pos _ (by decide)⟩
  have m1 : ∀ i : Int, 0 ≤ i.fmod 2147483629 ∧ i.fmod 2147483629 < 2147483629 := fun i => ⟨Int.fmod_nonneg_of_pos _ (by decide), Int.fmod_lt_of_pos _ (by decide)⟩
  refine sr_seq (sx_set (ev_is (z := .int (a * 69069 + 104729 * b * b)) (by
    walk_at "ev"
    · exact .inr ⟨by decide, by decide⟩
    · exact .inl ⟨by decide, by decide⟩
    · exact .inr ⟨by omega, by omega⟩) rfl)) ?_
  refine sr_seq (sx_set (ev_is (z := .int ((a * 69069 + 104729 * b * b + 7919 * 0 + b).fmod 2147483647)) (by
    walk_at "ev"
    · exact .inl ⟨by decide, by decide⟩
    · exact (by decide : (2147483647 : Int) ≠ 0)) rfl)) ?_
  obtain ⟨q1, q2⟩ := m0 (a * 69069 + 104729 * b * b + 7919 * 0 + b)
  refine sr_seq (sx_set (ev_is (z := .int (((a * 69069 + 104729 * b * b + 7919 * 0 + b).fmod 2147483647 * (a * 69069 + 104729 * b * b + 7919 * 0 + b).fmod 2147483647 + 40503).fmod 2147483629)) (by
    walk_at "ev"
    · exact .inl ⟨by omega, by omega⟩
    · exact (by decide : (2147483629 : Int) ≠ 0)) rfl)) ?_
  refine sr_ret (ev_is (z := .int (mixI a b)) (by
    walk_at "ev"
    · exact .inr ⟨by decide, by decide⟩
    · exact r2_Ci (by decide : (2147483587 : Int) ≠ 0)) rfl)
theorem mixI_lt (a b : Int) : 0 ≤ mixI a b ∧ mixI a b < 2147483587 := ⟨Int.fmod_nonneg_of_pos _ (by decide), Int.fmod_lt_of_pos _ (by decide)⟩
theorem bits_le {m : Int} (h0 : 0 < m) (h1 : m < 1000000) : Builtin.Int.intBits m ≤ 20 := by
  unfold Builtin.Int.intBits
  split
  · omega
  · have h : m.natAbs.log2 < 20 := (Nat.log2_lt (by omega)).mpr (by have : (2 : Nat) ^ 20 = 1048576 := by decide
                                                                    omega)
    omega
theorem sc_law_draw : FnScope ["purse", "many", "found", "piece", "drawn"] ["purse", "many"] (defScope (top 43)) := ⟨rfl, rfl, rfl, by decide +kernel, rfl, by decide +kernel, by decide +kernel⟩
theorem ok_law_draw (B : BFree mg) (D_law_mixed : DefOk P w K mg base "_law_mixed" 1 ["seed", "spin", "at"] (sp_mixed K C)) (F : DefAt K mg "_law_draw" ["purse", "many"] (top 43) f fd) : DefOk P w K mg base "_law_draw" 2 ["purse", "many"] spDraw := by
  refine F.ok sc_law_draw (fun vs H Q E h => ?_) (fun cdv A outer s H vs Q E hr h => ?_)
  · obtain ⟨p, n, m, rfl, _⟩ := h
    rfl
  · obtain ⟨p, n, m, rfl, ⟨a, b, c, d, hp, a0, a1, b0, b1, c0, c1, rfl⟩, hn, m0, m1, hQ⟩ := h
    refine ⟨_, (pss_cons (ps_if (pt_cmpR op_gt (pe_ix (x_list (K := K)) (pv 0) pe_int (fun _ _ => rfl)) pe_int (nomark _)) (pss_cons (ps_set (i := 4) sc_law_draw.nd rfl (.inl rfl) (pe_op op_modN (c_int (K := K) B (pa_cons (pe_ix (x_list (K := K)) (pv 0) pe_int (fun _ _ => rfl)) pa_nil)) (pv 1))) (pss_cons (ps_asg (pe_op op_fdivN (pe_ix (x_list (K := K)) (pv 0) pe_int (fun _ _ => rfl)) (pv 1)) (pg_sub (pv 0) pe_int set_list)) (pss_one (ps_ret (pv 4))))) pss_nil) (pss_cons (ps_set (i := 2) sc_law_draw.nd rfl (.inl rfl) pe_int) (pss_cons (ps_for PassesOwn.never rfl (i_rng1 B (pa_cons (pe_op op_add pe_int (pe_op op_fdivN (pe_bits (pv 1)) pe_int)) pa_nil)) (pg_name (i := 3) sc_law_draw.nd rfl (.inl rfl)) (pss_cons (ps_asg (pe_op op_add (pe_ix (x_list (K := K)) (pv 0) pe_int (fun _ _ => rfl)) pe_int) (pg_sub (pv 0) pe_int set_list)) (pss_one (ps_set (i := 2) sc_law_draw.nd rfl (.inl rfl) (pe_op op_add (pe_op op_mul (pv 2) pe_int) (pe_def D_law_mixed (hr.mono (by first | decide | omega)) (pa_cons (pe_ix (x_list (K := K)) (pv 0) pe_int (fun _ _ => rfl)) (pa_cons (pe_ix (x_list (K := K)) (pv 0) pe_int (fun _ _ => rfl)) (pa_cons (pe_ix (x_list (K := K)) (pv 0) pe_int (fun _ _ => rfl)) pa_nil))))))))) (pss_one (ps_ret (pe_op op_modN (c_int (K := K) B (pa_cons (pv 2) pa_nil)) (pv 1))))))), ?_⟩
    refine ⟨_, rfl, p, _, 0, .int a, rfl, rfl, SqL.of hp, rfl, _, _, rfl, rfl, _, rfl, ?_⟩
    refine ite2 (fun ha => ?_) (fun ha => ?_)
    · have ha' : 0 < a := of_decide_eq_true ha
      have mne : m ≠ 0 := by omega
      refine ⟨_, rfl, p, _, 0, .int a, rfl, rfl, SqL.of hp, rfl, .inl ⟨_, rfl, _, rfl, _, _, rfl, rfl, mne, ?_⟩⟩
      refine ⟨_, rfl, p, _, 0, .int a, rfl, rfl, SqL.of hp, rfl, _, rfl, _, _, rfl, rfl, ⟨mne, by omega⟩, _, rfl, p, _, 0, 0, rfl, rfl, hp, rfl, _, rfl, ?_⟩
      refine hQ _ _ (Int.fmod_nonneg_of_pos _ m0) (Int.fmod_lt_of_pos _ m0) (fun b o hb e => by rw [upd_ne hb]; exact e) ⟨a.fdiv m, b, c, 0, upd_same, ?_, ?_, b0, b1, c0, by omega, rfl⟩
      · rw [Int.fdiv_eq_ediv_of_nonneg _ (Int.le_of_lt m0)]
        exact Int.ediv_nonneg a0 (Int.le_of_lt m0)
      · rw [Int.fdiv_eq_ediv_of_nonneg _ (Int.le_of_lt m0)]
        exact Int.lt_of_le_of_lt (Int.ediv_le_self _ a0) a1
    · have hb0 : ((Builtin.Int.intBits m : Nat) : Int).fdiv 28 = 0 := by
        have q := bits_le m0 m1
        rw [Int.fdiv_eq_ediv_of_nonneg _ (by decide)]
        omega
      refine ⟨_, rfl, _, rfl, _, _, rfl, rfl, ⟨by decide, by decide⟩, _, _, rfl, rfl, 1 + ((Builtin.Int.intBits m : Nat) : Int).fdiv 28, rfl, by rw [hb0]; decide, by rw [hb0]; decide, ?_⟩
      rw [hb0]
      refine for_range (lo := 0) (n := 1) (fun i σ' H' => (i = 0 ∧ H' = H ∧ ∃ x4, σ' = [some (.ref p), some (.int m), some (.int 0), none, x4]) ∨ (i = 1 ∧ ∃ z u x4, σ' = [some (.ref p), some (.int m), some (.int z), u, x4] ∧ Same (upd H p (.lst [.int a, .int b, .int (c + 1), .int 0])) H')) (.inl ⟨rfl, rfl, none, rfl⟩) ?_ ?_
      · rintro i σ' H' hi (⟨rfl, rfl, x4, rfl⟩ | ⟨rfl, _⟩)
        · refine ⟨_, rfl, p, _, 2, .int c, rfl, rfl, SqL.of hp, rfl, _, _, rfl, rfl, _, rfl, p, _, 2, 2, rfl, rfl, hp, rfl, ?_⟩
          have hp2 : (upd H' p (.lst ([.int a, .int b, .int c, .int 0].set 2 (.int (c + 1))))) p = some (.lst [.int a, .int b, .int (c + 1), .int 0]) := upd_same
          refine ⟨_, rfl, _, _, rfl, rfl, .inl ⟨by decide, by decide⟩, _, rfl, p, _, 1, .int b, rfl, rfl, SqL.of hp2, rfl, _, rfl, p, _, 2, .int (c + 1), rfl, rfl, SqL.of hp2, rfl, _, rfl, p, _, 3, .int 0, rfl, rfl, SqL.of hp2, rfl, ?_⟩
          refine ⟨rfl, fun _ => false, dI [b, c + 1, 0], ⟨fun _ e => (by cases e), fun _ _ e => (by cases e)⟩, dats_ints.mpr rfl, ⟨b, c + 1, rfl, ⟨b0, by omega⟩, by omega, by omega⟩, fun v H2 s2 hd => ?_⟩
          rw [dat_int.mp hd]
          exact ⟨_, _, rfl, rfl, .inr ⟨rfl, _, _, _, rfl, s2⟩⟩
        · exact absurd hi (by decide)
      · rintro σ' H' (⟨q, _⟩ | ⟨_, z, u, x4, rfl, s2⟩)
        · exact absurd q (by decide)
        · refine ⟨_, rfl, .inl ⟨_, rfl, _, rfl, _, _, rfl, rfl, by omega, ?_⟩⟩
          refine hQ _ _ (Int.fmod_nonneg_of_pos _ m0) (Int.fmod_lt_of_pos _ m0) (fun x o hx e => s2 _ _ (by rw [upd_ne hx]; exact e)) ⟨a, b, c + 1, 0, s2 _ _ upd_same, a0, a1, b0, b1, by omega, by omega, rfl⟩
abbrev R_row (ds : List D) (d : D) : Prop := match ds with
  | [.int old, .int _] => ∃ ns, d = .lst (dI ns) ∧ RowOk old ns
  | _ => False
abbrev sp_row (K : PySem.W.Frag) (C : Addr) : Sp := SpP K C (fun ds => ∃ old way : Int, ds = [.int old, .int way] ∧ 0 ≤ old ∧ old ≤ 8) 30 R_row 2
theorem sc_law_row : FnScope ["purse", "old", "way", "first", "block", "spin"] ["purse", "old", "way"] (defScope (top 46)) := ⟨rfl, rfl, rfl, by decide +kernel, rfl, by decide +kernel, by decide +kernel⟩
-- slots: purse=0 old=1 way=2 first=3 block=4 spin=5
theorem ok_law_row (B : BFree mg) (D_law_draw : DefOk P w K mg base "_law_draw" 2 ["purse", "many"] spDraw) (F : DefAt K mg "_law_row" ["purse", "old", "way"] (top 46) f fd) : DefOk P w K mg base "_law_row" 3 ["purse", "old", "way"] (sp_row K C) := by
  refine okP F sc_law_row rfl fun cdv A outer s H E hr => ⟨_, (pss_cons (ps_if (pt_cmpR (o_eq (K := K) (by exact hr.units)) (pv 2) pe_int (nomark _)) (pss_one (ps_ret (pe_lc (own := [("block", 4)]) rfl sc_law_row.nd (i_rng1 B (pa_cons (pv 1) pa_nil)) (blkOk_by (own := [("block", 4)]) (N := ["purse", "old", "way", "first", "block", "spin"]) (sc := (defScope (top 46))) (by decide +kernel)) (fun _ _ _ _ _ => pg_name (i := 4) sc_law_row.nd rfl (.inl rfl)) (fun _ _ _ _ _ => pts_one (pt_cmpR (o_eq (K := K) (by exact hr.units)) (pe_def D_law_draw (hr.mono (by first | decide | omega)) (pa_cons (pv 0) (pa_cons pe_int pa_nil))) pe_int (nomark _))) (fun _ _ _ _ _ => (pv 4))))) pss_nil) (pss_cons (ps_if (pt_cmpR (o_eq (K := K) (by exact hr.units)) (pv 2) pe_int (nomark _)) (pss_cons (ps_set (i := 3) sc_law_row.nd rfl (.inl rfl) (pe_def D_law_draw (hr.mono (by first | decide | omega)) (pa_cons (pv 0) (pa_cons (pe_op op_add (pv 1) pe_int) pa_nil)))) (pss_one (ps_ret (c_listRg2 B (pv 3) (c_min2 (K := K) B (pa_cons (pv 1) (pa_cons (pe_op op_add (pe_op op_add (pv 3) pe_int) (pe_def D_law_draw (hr.mono (by first | decide | omega)) (pa_cons (pv 0) (pa_cons pe_int pa_nil)))) pa_nil))))))) pss_nil) (pss_cons (ps_if (pt_cmpR (o_eq (K := K) (by exact hr.units)) (pv 2) pe_int (nomark _)) (pss_one (ps_ret (pe_ifExp (pt_cmpR op_gt (pv 1) pe_int (nomark _)) (c_sortedDI (K := K) B (pa_cons (c_dictP (K := K) B (pa_cons (pe_lc (own := [("spin", 5)]) rfl sc_law_row.nd (i_rng1 B (pa_cons (pe_op op_add pe_int (pe_def D_law_draw (hr.mono (by first | decide | omega)) (pa_cons (pv 0) (pa_cons pe_int pa_nil)))) pa_nil)) (blkOk_by (own := [("spin", 5)]) (N := ["purse", "old", "way", "first", "block", "spin"]) (sc := (defScope (top 46))) (by decide +kernel)) (fun _ _ _ _ _ => pg_name (i := 5) sc_law_row.nd rfl (.inl rfl)) (fun _ _ _ _ _ => pts_nil) (fun _ _ _ _ _ => (pe_tup (pa_cons (pe_def D_law_draw (hr.mono (by first | decide | omega)) (pa_cons (pv 0) (pa_cons (pv 1) pa_nil))) (pa_cons pe_bl pa_nil))))) pa_nil)) pa_nil)) (pe_lst pa_nil)))) pss_nil) (pss_one (ps_ret (pe_lc (own := [("block", 4)]) rfl sc_law_row.nd (i_rng1 B (pa_cons (pv 1) pa_nil)) (blkOk_by (own := [("block", 4)]) (N := ["purse", "old", "way", "first", "block", "spin"]) (sc := (defScope (top 46))) (by decide +kernel)) (fun _ _ _ _ _ => pg_name (i := 4) sc_law_row.nd rfl (.inl rfl)) (fun _ _ _ _ _ => pts_one (pt_cmpR op_gt (pe_def D_law_draw (hr.mono (by first | decide | omega)) (pa_cons (pv 0) (pa_cons pe_int pa_nil))) pe_int (nomark _))) (fun _ _ _ _ _ => (pv 4)))))))), ?_⟩
  rintro ds ⟨old, way, rfl, h0, h8⟩ _
  have hn : ((old.toNat : Nat) : Int) = old := by omega
  have hnN : old.toNat ≤ 8 := by omega
  have fin : ∀ d, (∃ ds, d = D.lst ds ∧ Picks (fun _ => True) (fun (k : Nat) d => d = D.int (0 + (k : Int))) (List.range old.toNat) ds) → R_row [.int old, .int way] d := fun d h => by
    obtain ⟨ds, rfl, hp⟩ := h
    obtain ⟨ns, rfl, hs⟩ := picks_sub hp
    exact ⟨ns, rfl, rowOk_sub hn hs⟩
  refine sp_guard (et_test (ev_op (ev_var rfl) ev_int (r2_eq shp_int shp_int))) (fun _ => ?_) (fun _ => ?_)
  · exact sp_ret (ep_imp (ep_lcR (N := 8) (ct := 1) (ce := 0) (ev_var rfl) (by decide) (by decide) hnN (by decide) h0 (fun k hk => ept_drEq (by decide) (by decide)) (fun k hk => ep_d (ev_var rfl))) fin (by decide))
  refine sp_guard (et_test (ev_op (ev_var rfl) ev_int (r2_eq shp_int shp_int))) (fun _ => ?_) (fun _ => ?_)
  · refine sp_imp (sp_set (by decide) (ep_draw (ev_is (z := .int (old + 1)) (ev_op (ev_var rfl) ev_int r2_Ii) rfl) (by omega) (by omega)) fun d r => ?_) (fun d h => h) (by decide : 1 + 1 ≤ 30)
    obtain ⟨i, rfl, i0, i1⟩ := r
    refine sp_ret (ep_imp (ep_listRg2 (R1 := fun d => d = .int i) (R2 := fun d => ∃ j, d = .int j ∧ j ≤ old ∧ 0 ≤ j) (ep_imp (ep_d (ev_var rfl)) (fun d h => ⟨i, h, rfl⟩) (Nat.le_refl _)) (ep_cb (c := 1) (Rs := fun ds => ∃ j : Int, ds = [.int old, .int j] ∧ 0 ≤ j)
      (epa_imp (epa_cons (ep_d (ev_var rfl)) (epa_cons (ep_op (R := fun d => ∃ j, d = .int j ∧ 0 ≤ j) (ep_d (ev_is (z := .int (i + 1)) (ev_op (ev_var rfl) ev_int r2_Ii) rfl)) (ep_dr (by decide) (by decide)) fun d e r1 r2 => by
          subst r1
          obtain ⟨j, rfl, j0, j1⟩ := r2
          exact ⟨_, r2_Ii, _, rfl, by omega⟩) epa_nil)) (fun ds h => by
          obtain ⟨d, es, rfl, rfl, e, es', rfl, ⟨j, rfl, j0⟩, rfl⟩ := h
          exact ⟨j, rfl, j0⟩) (by decide)) (fun ds h => by
        obtain ⟨j, rfl, j0⟩ := h
        exact ⟨_, rc_min2, _, rfl, _, rfl, by split <;> omega, by split <;> omega⟩)) (fun a b h1 h2 => by
        cases h1
        obtain ⟨j, e, j1, j0⟩ := h2
        cases e
        exact RgOk.of_le i0 (by omega) (by omega) (by omega))) (fun d h => by
        obtain ⟨a, b, rfl, h1, h2⟩ := h
        cases h1
        obtain ⟨j, e, j1, j0⟩ := h2
        cases e
        exact ⟨_, rfl, rowOk_rg i0 j1⟩) (by decide))
  refine sp_guard (et_test (ev_op (ev_var rfl) ev_int (r2_eq shp_int shp_int))) (fun _ => ?_) (fun _ => ?_)
  · refine sp_ret (ep_ifB (et_test (ev_op (ev_var rfl) ev_int r2_Ib)) (fun hb => ?_) (fun hb => ?_))
    · have hp : 0 < old := of_decide_eq_true hb
      refine ep_imp (ep_cb (c := 1 + 2 * (0 + 1)) (Rs := fun ds => ∃ ns : List Int, ds = [.dic (mergeD [] (trues ns))] ∧ ns.length ≤ 2 ∧ ∀ i ∈ ns, 0 ≤ i ∧ i < old)
        (epa_imp (epa_cons (c2 := 0) (ep_cb (c := 1 + 2 * (0 + 1)) (R := fun d => ∃ ns : List Int, d = .dic (mergeD [] (trues ns)) ∧ ns.length ≤ 2 ∧ ∀ i ∈ ns, 0 ≤ i ∧ i < old) (Rs := fun ds => ∃ ns : List Int, ds = [.lst ((trues ns).map pairD)] ∧ ns.length ≤ 2 ∧ ∀ i ∈ ns, 0 ≤ i ∧ i < old)
          (epa_imp (epa_cons (c2 := 0) (ep_lc (c1 := 1) (N := 2) (ct := 0) (ce := 1) (Re := fun (_ : Nat) d => ∃ i, d = pairD (Sum.inl i, .bl true) ∧ (0 ≤ i ∧ i < old)) (g0 := fun (k : Nat) => D.int (0 + (k : Int))) (Rs := fun as => as.length ≤ 2) (fun O σ H p n x hn2 Z q =>
              epi_rng1 (R1 := fun d => ∃ i, d = .int i ∧ 0 ≤ i ∧ i ≤ 2) (ep_op (c1 := 0) (c2 := 1) (R := fun d => ∃ i, d = .int i ∧ ∃ j, D.int i = .int j ∧ 0 ≤ j ∧ j ≤ 2) (ep_d ev_int) (ep_dr (m := 2) (by decide) (by decide)) (fun d e r1 r2 => by
                subst r1
                obtain ⟨j, rfl, j0, j1⟩ := r2
                exact ⟨_, r2_Ii, _, rfl, _, rfl, by omega, by omega⟩)) (fun i h => by
                obtain ⟨j, e, j0, j1⟩ := h
                cases e
                omega) O σ H p n x hn2 Z fun J H' ds' b pu e w => q J H' ds' b pu (by
                  obtain ⟨i, e1, j, e2, j0, j1⟩ := e
                  cases e2
                  exact ⟨_, e1, by rw [List.length_range]; omega⟩) w)
            (by decide) (fun as h => h) (by decide) (fun as h a ha => eg_name (by decide)) (fun as h a ha => ept_d et_yes) (fun as h a ha => ep_imp (ep_tup (epa_cons (ep_draw (ev_var rfl) hp (by omega)) (epa_cons (ep_d ev_bl) epa_nil)) (fun ds h => by
              obtain ⟨d, es, rfl, _, e, es', rfl, _, rfl⟩ := h
              show 2 ≤ 100000
              decide)) (fun d h => by
              obtain ⟨ds, rfl, d, es, rfl, ⟨i, rfl, i0, i1⟩, e, es', rfl, rfl, rfl⟩ := h
              exact ⟨i, rfl, i0, i1⟩) (by decide))) epa_nil) (fun ds h => by
            obtain ⟨d, es, rfl, ⟨as, ds', rfl, hl, hp⟩, rfl⟩ := h
            obtain ⟨ns, rfl, h1, h2⟩ := picks_trues hp
            exact ⟨ns, rfl, by omega, h2⟩) (by decide)) (fun ds h => by
          obtain ⟨ns, rfl, h1, h2⟩ := h
          exact ⟨_, rn_dictP.toD, ns, rfl, h1, h2⟩)) epa_nil) (fun ds h => by
          obtain ⟨d, es, rfl, ⟨ns, rfl, h1, h2⟩, rfl⟩ := h
          exact ⟨ns, rfl, h1, h2⟩) (by decide)) (fun ds h => by
        obtain ⟨ns, rfl, h1, h2⟩ := h
        obtain ⟨is, k1, k2, k3, k4⟩ := trues_keys ns
        exact ⟨_, (rn_sortedDI k1 (by omega)).toD, srt is, rfl, srt_lt k2, fun x hx => h2 x ((k4 x).mp ((srt_perm is).mem_iff.mp hx))⟩)) (fun d h => h) (by decide)
    · refine ep_imp (ep_d (en_lst ea_nil (by decide)).toD) (fun d h => ?_) (by decide)
      subst h
      exact ⟨[], rfl, List.Pairwise.nil, fun x hx => by cases hx⟩
  · exact sp_ret (ep_imp (ep_lcR (N := 8) (ct := 1) (ce := 0) (ev_var rfl) (by decide) (by decide) hnN (by decide) h0 (fun k hk => ept_drGt (by decide) (by decide)) (fun k hk => ep_d (ev_var rfl))) fin (by decide))
abbrev R_recipe (ds : List D) (d : D) : Prop := match ds with
  | [.int mn, .int mo] => ∃ old rows, d = recD old rows ∧ RecOk mn mo old rows
  | _ => False
abbrev sp_recipe (K : PySem.W.Frag) (C : Addr) : Sp := SpP K C (fun ds => ∃ mn mo : Int, ds = [.int mn, .int mo] ∧ 1 ≤ mn ∧ mn ≤ 8 ∧ 0 ≤ mo ∧ mo ≤ 8) 400 R_recipe 2
abbrev R_one (ds : List D) (d : D) : Prop := match ds with
  | [.lst xs] => d ∈ xs
  | _ => False
abbrev sp_one (K : PySem.W.Frag) (C : Addr) : Sp := SpP K C (fun ds => ∃ xs : List D, ds = [.lst xs] ∧ xs ≠ [] ∧ xs.length < 100000) 1 R_one 1
theorem atI_mem {xs : List D} {i : Int} (h0 : 0 ≤ i) (h1 : i < xs.length) : ∃ d, atI xs i = some d ∧ d ∈ xs := by
  refine ⟨xs[i.toNat]'(by omega), ?_, List.getElem_mem _⟩
  unfold atI ixN
  rw [if_pos h0, if_pos h1]
  simp
theorem sc_law_one_of : FnScope ["purse", "some"] ["purse", "some"] (defScope (top 44)) := ⟨rfl, rfl, rfl, by decide +kernel, rfl, by decide +kernel, by decide +kernel⟩
theorem ok_law_one_of (B : BFree mg) (D_law_draw : DefOk P w K mg base "_law_draw" 2 ["purse", "many"] spDraw) (F : DefAt K mg "_law_one_of" ["purse", "some"] (top 44) f fd) : DefOk P w K mg base "_law_one_of" 3 ["purse", "some"] (sp_one K C) := by
  refine okP F sc_law_one_of rfl fun cdv A outer s H E hr => ⟨_, (pss_one (ps_ret (pe_ix (x_list (K := K)) (pv 1) (pe_def D_law_draw (hr.mono (by first | decide | omega)) (pa_cons (pv 0) (pa_cons (c_len (K := K) B (pa_cons (pv 1) pa_nil)) pa_nil))) (fun _ _ => rfl)))), ?_⟩
  rintro ds ⟨xs, rfl, h0, h1⟩ _
  have hl : 0 < xs.length := List.length_pos_iff.mpr h0
  refine sp_ret (ep_imp (ep_op (c1 := 0) (c2 := 1) (R := fun d => d ∈ xs) (ep_d (ev_var rfl)) (ep_draw (m := xs.length) (ev_cb (ea_cons (ev_var rfl) ea_nil) rc_lenL) (by omega) (by omega)) (fun d e r1 r2 => ?_)) (fun d h => h) (by decide))
  subst r1
  obtain ⟨i, rfl, i0, i1⟩ := r2
  obtain ⟨d, q1, q2⟩ := atI_mem i0 i1
  exact ⟨d, r2_ixL q1, q2⟩
theorem sc_law_recipe : FnScope ["purse", "most_new", "most_old", "parts", "new", "old", "way", "block"] ["purse", "most_new", "most_old"] (defScope (top 47)) := ⟨rfl, rfl, rfl, by decide +kernel, rfl, by decide +kernel, by decide +kernel⟩
-- slots: purse=0 most_new=1 most_old=2 parts=3 new=4 old=5 way=6 block=7
theorem ok_law_recipe (B : BFree mg) (D_law_draw : DefOk P w K mg base "_law_draw" 2 ["purse", "many"] spDraw) (D_law_one_of : DefOk P w K mg base "_law_one_of" 3 ["purse", "some"] (sp_one K C)) (D_law_row : DefOk P w K mg base "_law_row" 3 ["purse", "old", "way"] (sp_row K C))
    (F : DefAt K mg "_law_recipe" ["purse", "most_new", "most_old"] (top 47) f fd) : DefOk P w K mg base "_law_recipe" 4 ["purse", "most_new", "most_old"] (sp_recipe K C) := by
  refine okP F sc_law_recipe rfl fun cdv A outer s H E hr => ⟨_, (pss_cons (ps_asg (pe_tup (pa_cons (pe_op op_add pe_int (pe_def D_law_draw (hr.mono (by first | decide | omega)) (pa_cons (pv 0) (pa_cons (pv 1) pa_nil)))) (pa_cons (pe_def D_law_draw (hr.mono (by first | decide | omega)) (pa_cons (pv 0) (pa_cons (pe_op op_add (pv 2) pe_int) pa_nil))) (pa_cons (pe_def D_law_draw (hr.mono (by first | decide | omega)) (pa_cons (pv 0) (pa_cons pe_int pa_nil))) pa_nil)))) (g_tup (K := K) (n := 3) (pgs_cons (pg_name (i := 4) sc_law_recipe.nd rfl (.inl rfl)) (pgs_cons (pg_name (i := 5) sc_law_recipe.nd rfl (.inr rfl)) (pgs_cons (pg_name (i := 6) sc_law_recipe.nd rfl (.inr rfl)) pgs_nil))))) (pss_cons (ps_if (pt_cmpR op_lt (pv 6) pe_int (nomark _)) (pss_one (ps_ret (pe_lst (pa_cons (pv 5) (pa_cons (pe_lc (own := [("block", 7)]) rfl sc_law_recipe.nd (i_rng1 B (pa_cons (pv 4) pa_nil)) (blkOk_by (own := [("block", 7)]) (N := ["purse", "most_new", "most_old", "parts", "new", "old", "way", "block"]) (sc := (defScope (top 47))) (by decide +kernel)) (fun _ _ _ _ _ => pg_name (i := 7) sc_law_recipe.nd rfl (.inl rfl)) (fun _ _ _ _ _ => pts_nil) (fun _ _ _ _ _ => (pe_def D_law_row (hr.mono (by first | decide | omega)) (pa_cons (pv 0) (pa_cons (pv 5) (pa_cons (pv 6) pa_nil)))))) pa_nil))))) pss_nil) (pss_cons (ps_set (i := 3) sc_law_recipe.nd rfl (.inr rfl) (pe_lst (pa_cons (pe_def D_law_row (hr.mono (by first | decide | omega)) (pa_cons (pv 0) (pa_cons (pv 5) (pa_cons pe_int pa_nil)))) (pa_cons (pe_def D_law_row (hr.mono (by first | decide | omega)) (pa_cons (pv 0) (pa_cons (pv 5) (pa_cons pe_int pa_nil)))) pa_nil)))) (pss_cons (ps_if (pt_cmpR (o_eq (K := K) (by exact hr.units)) (pv 6) pe_int (nomark _)) (pss_one (ps_ret (pe_lst (pa_cons (pv 5) (pa_cons (pe_lc (own := [("block", 7)]) rfl sc_law_recipe.nd (i_rng1 B (pa_cons (pv 4) pa_nil)) (blkOk_by (own := [("block", 7)]) (N := ["purse", "most_new", "most_old", "parts", "new", "old", "way", "block"]) (sc := (defScope (top 47))) (by decide +kernel)) (fun _ _ _ _ _ => pg_name (i := 7) sc_law_recipe.nd rfl (.inl rfl)) (fun _ _ _ _ _ => pts_nil) (fun _ _ _ _ _ => (c_list (K := K) B (pa_cons (pe_def D_law_one_of (hr.mono (by first | decide | omega)) (pa_cons (pv 0) (pa_cons (pv 3) pa_nil))) pa_nil)))) pa_nil))))) pss_nil) (pss_one (ps_ret (pe_lst (pa_cons (pv 5) (pa_cons (pe_lc (own := [("block", 7)]) rfl sc_law_recipe.nd (i_rng1 B (pa_cons (pv 4) pa_nil)) (blkOk_by (own := [("block", 7)]) (N := ["purse", "most_new", "most_old", "parts", "new", "old", "way", "block"]) (sc := (defScope (top 47))) (by decide +kernel)) (fun _ _ _ _ _ => pg_name (i := 7) sc_law_recipe.nd rfl (.inl rfl)) (fun _ _ _ _ _ => pts_nil) (fun _ _ _ _ _ => (pe_ifExp (pt_cmpR (o_eq (K := K) (by exact hr.units)) (pe_def D_law_draw (hr.mono (by first | decide | omega)) (pa_cons (pv 0) (pa_cons pe_int pa_nil))) pe_int (nomark _)) (pe_def D_law_row (hr.mono (by first | decide | omega)) (pa_cons (pv 0) (pa_cons (pv 5) (pa_cons (pe_def D_law_draw (hr.mono (by first | decide | omega)) (pa_cons (pv 0) (pa_cons pe_int pa_nil))) pa_nil)))) (c_list (K := K) B (pa_cons (pe_ix (x_list (K := K)) (pv 3) pe_int (fun _ _ => rfl)) pa_nil))))) pa_nil))))))))), ?_⟩
  rintro ds ⟨mn, mo, rfl, n1, n8, o0, o8⟩ _
  refine sp_imp (c := 3 + 390) (R := R_recipe [.int mn, .int mo]) (sp_tup3 (R1 := fun d => ∃ i, d = .int i ∧ 1 ≤ i ∧ i ≤ mn) (R2 := fun d => ∃ i, d = .int i ∧ 0 ≤ i ∧ i ≤ mo) (R3 := fun d => ∃ i, d = .int i ∧ 0 ≤ i ∧ i < 6) (by decide) (by decide) (by decide) ?_ ?_) (fun d h => h) (by decide)
  · refine epa_imp (c := 0 + 1 + (1 + (1 + 0))) (epa_cons (ep_op (R := fun d => ∃ i, d = .int i ∧ 1 ≤ i ∧ i ≤ mn) (ep_d ev_int) (ep_draw (ev_var rfl) (by omega) (by omega)) (fun d e r1 r2 => ?_)) (epa_cons (ep_draw (ev_is (z := .int (mo + 1)) (ev_op (ev_var rfl) ev_int r2_Ii) rfl) (by omega) (by omega)) (epa_cons (ep_dr (by decide) (by decide)) epa_nil))) (fun ds h => ?_) (by decide)
    · subst r1
      obtain ⟨i, rfl, i0, i1⟩ := r2
      exact ⟨_, r2_Ii, _, rfl, by omega, by omega⟩
    · obtain ⟨a, es, rfl, ra, b, es, rfl, ⟨i, rfl, i0, i1⟩, c, es, rfl, rc, rfl⟩ := h
      exact ⟨a, .int i, c, rfl, ra, ⟨i, rfl, i0, by omega⟩, rc⟩
  · rintro _ _ _ ⟨new, rfl, a1, a2⟩ ⟨old, rfl, b1, b2⟩ ⟨way, rfl, c1, c2⟩
    have hnN : new.toNat ≤ 8 := by omega
    -- what a list of rows is worth
    have fin : ∀ d, (∃ ds, d = D.lst ds ∧ Picks (fun x => x = true) (fun (_ : Nat) d => ∃ ns, d = D.lst (dI ns) ∧ RowOk old ns) (List.range new.toNat) ds) → ∃ rows, d = rowsL rows ∧ RecOk mn mo old rows := fun d h => by
      obtain ⟨ds, rfl, hp⟩ := h
      have hl := picks_all hp
      obtain ⟨rows, rfl, hr⟩ := picks_rows hp
      rw [List.length_map, List.length_range] at hl
      exact ⟨rows, rfl, b1, b2, by omega, by omega, hr⟩
    have ret : ∀ {δ : Dl} {te : TE} {c : Nat}, δ[5]? = some (some (.int old)) → c ≤ 320 → EvP K C te δ c (fun d => ∃ ds, d = D.lst ds ∧ Picks (fun x => x = true) (fun (_ : Nat) d => ∃ ns, d = D.lst (dI ns) ∧ RowOk old ns) (List.range new.toNat) ds) →
        StP K C (tRet (tLst (tCons (tVar 5) (tCons te tNil)))) δ 320 (R_recipe [.int mn, .int mo]) := fun h5 hc he => sp_ret (ep_imp (ep_lst (epa_cons (ep_d (ev_var h5)) (epa_cons (ep_imp he fin (Nat.le_refl _)) epa_nil)) (fun ds h => by
          obtain ⟨d, es, rfl, _, e, es', rfl, _, rfl⟩ := h
          show 2 ≤ 100000
          decide)) (fun d h => by
          obtain ⟨ds, rfl, d, es, rfl, rfl, e, es', rfl, ⟨rows, rfl, h⟩, rfl⟩ := h
          exact ⟨old, rows, rfl, h⟩) (by omega))
    have row : ∀ {δ : Dl} {E : XK} {way : Int} {te : TE}, δ[5]? = some (some (.int old)) → EvD K C te δ (.int way) → EvP K C (tCall (sp_row K C) [] E (tCons (tVar 0) (tCons (tVar 5) (tCons te tNil)))) δ 30 (fun d => ∃ ns, d = D.lst (dI ns) ∧ RowOk old ns) := fun {δ E way te} h5 h =>
      ep_call (ds := [.int old, .int way]) (ea_cons (ev_var h5) (ea_cons h ea_nil)) rfl ⟨old, way, rfl, b1, by omega⟩
    refine sp_guard (et_test (ev_op (ev_var rfl) ev_int r2_Ib)) (fun _ => ?_) (fun _ => ?_)
    · exact sp_imp (ret rfl (by decide) (ep_lcR (N := 8) (ct := 0) (ce := 30) (ev_var rfl) (by decide) (by decide) hnN (by decide) (by omega) (fun k hk => ept_d et_yes) (fun k hk => row rfl (ev_var rfl)))) (fun d h => h) (by decide)
    refine sp_imp (c := 60 + 320) (sp_set (R1 := fun d => ∃ r1 r2, d = .lst [.lst (dI r1), .lst (dI r2)] ∧ RowOk old r1 ∧ RowOk old r2) (by decide) (ep_imp (c := 30 + (30 + 0)) (ep_lst (epa_cons (row rfl ev_int) (epa_cons (row rfl ev_int) epa_nil)) (fun ds h => by
        obtain ⟨d, es, rfl, _, e, es', rfl, _, rfl⟩ := h
        show 2 ≤ 100000
        decide)) (fun d h => by
        obtain ⟨ds, rfl, d, es, rfl, ⟨r1, rfl, h1⟩, e, es', rfl, ⟨r2, rfl, h2⟩, rfl⟩ := h
        exact ⟨r1, r2, rfl, h1, h2⟩) (by decide)) (fun d h => ?_)) (fun d h => h) (by decide)
    obtain ⟨r1, r2, rfl, h1, h2⟩ := h
    refine sp_guard (et_test (ev_op (ev_var rfl) ev_int (r2_eq shp_int shp_int))) (fun _ => ?_) (fun _ => ?_)
    · refine ret rfl (by decide) (ep_lcR (N := 8) (ct := 0) (ce := 1) (ev_var rfl) (by decide) (by decide) hnN (by decide) (by omega) (fun k hk => ept_d et_yes) (fun k hk => ?_))
      refine ep_cb (c := 1) (Rs := fun ds => ∃ d, ds = [d] ∧ ∃ ns, d = D.lst (dI ns) ∧ RowOk old ns) (epa_imp (epa_cons (c2 := 0) (ep_call (ds := [.lst [.lst (dI r1), .lst (dI r2)]]) (ea_cons (ev_var rfl) ea_nil) rfl ⟨_, rfl, List.cons_ne_nil _ _, by show 2 < 100000; decide⟩) epa_nil) (fun ds h => ?_) (by decide)) (fun ds h => ?_)
      · obtain ⟨d, es, rfl, hd, rfl⟩ := h
        have hd : d ∈ [D.lst (dI r1), D.lst (dI r2)] := hd
        refine ⟨d, rfl, ?_⟩
        rcases List.mem_cons.mp hd with q | q
        · exact ⟨r1, q, h1⟩
        · exact ⟨r2, List.mem_singleton.mp q, h2⟩
      · obtain ⟨d, rfl, ns, rfl, hn⟩ := h
        exact ⟨_, rn_listL.toD, ns, rfl, hn⟩
    · refine ret rfl (by decide) (ep_lcR (N := 8) (ct := 0) (ce := 1 + 31) (ev_var rfl) (by decide) (by decide) hnN (by decide) (by omega) (fun k hk => ept_d et_yes) (fun k hk => ep_if (ept_drEq (by decide) (by decide)) ?_ ?_))
      · refine ep_imp (ep_callP (c1 := 1) (Rs := fun ds => ∃ w, ds = [.int old, .int w]) (epa_imp (epa_cons (ep_d (ev_var rfl)) (epa_cons (ep_dr (by decide) (by decide)) epa_nil)) (fun ds h => ?_) (by decide)) (fun ds h => ?_)) (fun d h => ?_) (by decide)
        · obtain ⟨d, es, rfl, rfl, e, es', rfl, ⟨i, rfl, _⟩, rfl⟩ := h
          exact ⟨i, rfl⟩
        · obtain ⟨w, rfl⟩ := h
          exact ⟨rfl, old, w, rfl, b1, by omega⟩
        · obtain ⟨ds, ⟨w, rfl⟩, h⟩ := h
          exact h
      · exact ep_imp (ep_d (ev_cb (ea_cons (ev_op (ev_var rfl) ev_int (r2_ixL (d := .lst (dI r1)) rfl)) ea_nil) rn_listL.toD)) (fun d h => ⟨r1, h, h1⟩) (by decide)
end
end Zm


set_option Elab.async false
set_option linter.all false
set_option maxRecDepth 100000
set_option maxHeartbeats 4000000
set_option autoImplicit false
namespace Zm
open PySem PySem.Spec L2
/-- plain data, less than n deep -/
def Plain : Nat → D → Prop
  | 0, _ => False
  | n + 1, d => match d with
    | .non => True
    | .bl _ => True
    | .int _ => True
    | .str x => shp (.str x) = true
    | .dic kvs => 2 ≤ n ∧ (kvs = [] ∨ ∃ i j : Int, kvs = [(Sum.inl i, .int j)])
    | .lst ds => ds.length ≤ 100000 ∧ ∀ e ∈ ds, Plain n e
    | .tup ds => ds.length ≤ 100000 ∧ ∀ e ∈ ds, Plain n e
    | _ => False
theorem Plain.ty {n : Nat} {d : D} (h : Plain n d) : ∃ s, tyD d = some s := by
  cases n with
  | zero => exact h.elim
  | succ n => cases d <;> first | exact ⟨_, rfl⟩ | exact h.elim
abbrev sp_exact (K : PySem.W.Frag) (C : Addr) (n : Nat) : Sp := SpD K C (fun ds => ∃ d, ds = [d, d] ∧ Plain n d) (fun _ => .bl true) 2
abbrev f_same (ds : List D) : D := ds.headD .non
abbrev sp_same (K : PySem.W.Frag) (C : Addr) (n : Nat) : Sp := SpF K C (fun ds => ∃ d, ds = [d] ∧ Plain n d) f_same 1
section
variable {P : Program} {w : World} {K : PySem.W.Frag} {mg : Str → Option Value} {base : Heap} {f C : Addr} {fd : FuncData}
theorem sc_law_exact : FnScope ["mine", "theirs", "alike", "key", "a", "b"] ["mine", "theirs"] (defScope (top 45)) := ⟨rfl, rfl, rfl, by decide +kernel, rfl, by decide +kernel, by decide +kernel⟩
-- slots: mine=0 theirs=1 alike=2 key=3 a=4 b=5
theorem zip_self (ds : List D) : zipD ds ds = ds.map fun d => D.tup [d, d] := by
  unfold zipD
  induction ds with
  | nil => rfl
  | cons d ds ih =>
    rw [List.zip_cons_cons, List.map_cons, List.map_cons, ih]
theorem ok_law_exact (B : BFree mg) (F : DefAt K mg "_law_exact" ["mine", "theirs"] (top 45) f fd) : ∀ n, DefOk P w K mg base "_law_exact" n ["mine", "theirs"] (sp_exact K C n)
  | 0 => ok_void F _ fun vs H Q E h => by
    obtain ⟨_, O, ds, _, _, ⟨d, _, h⟩, _⟩ := h
    exact h
  | n + 1 => by
    have D_law_exact := ok_law_exact B F n
    refine okD F sc_law_exact fun cdv A outer s H E hr => ⟨_, (pss_cons (ps_if (pt_val (c_isi2 (K := K) B (pa_cons (pv 0) (pa_cons (pe_tup (pa_cons (n_ty (n := "list") B) (pa_cons (n_ty (n := "tuple") B) pa_nil))) pa_nil)))) (pss_cons (ps_set (i := 2) sc_law_exact.nd rfl (.inl rfl) (pe_and (pe_cmpR (o_eq (K := K) (by exact hr.units)) (c_isi (K := K) B (pa_cons (pv 1) (pa_cons (n_ty (n := "list") B) pa_nil))) (c_isi (K := K) B (pa_cons (pv 0) (pa_cons (n_ty (n := "list") B) pa_nil))) (nomark _)) (pe_one (pe_cmpR (o_eq (K := K) (by exact hr.units)) (c_isi (K := K) B (pa_cons (pv 1) (pa_cons (n_ty (n := "tuple") B) pa_nil))) (c_isi (K := K) B (pa_cons (pv 0) (pa_cons (n_ty (n := "tuple") B) pa_nil))) (nomark _))))) (pss_one (ps_ret (pe_and (pv 2) (pe_and (pe_cmpR (o_eq (K := K) (by exact hr.units)) (c_len (K := K) B (pa_cons (pv 0) pa_nil)) (c_len (K := K) B (pa_cons (pv 1) pa_nil)) (nomark _)) (pe_one (c_all (K := K) B (pa_cons (pe_lc (own := [("a", 4), ("b", 5)]) rfl sc_law_exact.nd (i_zip B (pa_cons (pv 0) (pa_cons (pv 1) pa_nil))) (blkOk_by (own := [("a", 4), ("b", 5)]) (N := ["mine", "theirs", "alike", "key", "a", "b"]) (sc := (defScope (top 45))) (by decide +kernel)) (fun _ _ _ _ _ => g_tup (K := K) (n := 2) (pgs_cons (pg_name (i := 4) sc_law_exact.nd rfl (.inl rfl)) (pgs_cons (pg_name (i := 5) sc_law_exact.nd rfl (.inl rfl)) pgs_nil))) (fun _ _ _ _ _ => pts_nil) (fun _ _ _ _ _ => (pe_def D_law_exact (hr.mono (by first | decide | omega)) (pa_cons (pv 4) (pa_cons (pv 5) pa_nil))))) pa_nil)))))))) pss_nil) (pss_cons (ps_if (pt_val (c_isi (K := K) B (pa_cons (pv 0) (pa_cons (n_ty (n := "dict") B) pa_nil)))) (pss_cons (ps_set (i := 2) sc_law_exact.nd rfl (.inl rfl) (pe_and (c_isi (K := K) B (pa_cons (pv 1) (pa_cons (n_ty (n := "dict") B) pa_nil))) (pe_one (pe_def D_law_exact (hr.mono (by first | decide | omega)) (pa_cons (c_listK (K := K) B (pa_cons (pv 0) pa_nil)) (pa_cons (c_listK (K := K) B (pa_cons (pv 1) pa_nil)) pa_nil)))))) (pss_one (ps_ret (pe_and (pv 2) (pe_one (c_all (K := K) B (pa_cons (pe_lock (pe_lc (own := [("key", 3)]) rfl sc_law_exact.nd (pi_keys (pv 0)) (blkOk_by (own := [("key", 3)]) (N := ["mine", "theirs", "alike", "key", "a", "b"]) (sc := (defScope (top 45))) (by decide +kernel)) (fun _ _ _ _ _ => pg_name (i := 3) sc_law_exact.nd rfl (.inl rfl)) (fun _ _ _ _ _ => pts_nil) (fun _ _ _ _ _ => (pe_def D_law_exact (hr.mono (by first | decide | omega)) (pa_cons (pe_dget (Nat.lt_of_le_of_lt (Nat.add_le_add_left (by decide : 1 ≤ 64) _) hr.units) (pv 0) (pv 3) (fun _ _ => rfl)) (pa_cons (pe_dget (Nat.lt_of_le_of_lt (Nat.add_le_add_left (by decide : 1 ≤ 64) _) hr.units) (pv 1) (pv 3) (fun _ _ => rfl)) pa_nil)))))) pa_nil))))))) pss_nil) (pss_cons (ps_set (i := 2) sc_law_exact.nd rfl (.inl rfl) (pe_cmpR (o_eq (K := K) (by exact hr.units)) (c_isi (K := K) B (pa_cons (pv 0) (pa_cons (n_ty (n := "int") B) pa_nil))) (c_isi (K := K) B (pa_cons (pv 1) (pa_cons (n_ty (n := "int") B) pa_nil))) (nomark _))) (pss_one (ps_ret (pe_and (pv 2) (pe_and (pe_cmpR (o_eq (K := K) (by exact hr.units)) (c_isi (K := K) B (pa_cons (pv 0) (pa_cons (n_ty (n := "bool") B) pa_nil))) (c_isi (K := K) B (pa_cons (pv 1) (pa_cons (n_ty (n := "bool") B) pa_nil))) (nomark _)) (pe_one (pe_cmpR (o_eq (K := K) (by exact hr.units)) (pv 0) (pv 1) (nomark _)))))))))), ?_⟩
    rintro ds ⟨d, rfl, hd⟩
    obtain ⟨s', hs⟩ := hd.ty
    have isi : ∀ {c : String}, c ∈ clNames → ∀ {i : Nat}, i = 0 ∨ i = 1 → EvD K C (tCB (rIsi K) (tCons (tVar i) (tCons (tC (.ty c)) tNil))) (startD ["mine", "theirs", "alike", "key", "a", "b"] [d, d]) (.bl (isTy d c)) := fun hc i hi => by
      rcases hi with rfl | rfl
      · exact ev_cb (ea_cons (ev_var rfl) (ea_cons ev_raw ea_nil)) (rc_isi hs hc)
      · exact ev_cb (ea_cons (ev_var rfl) (ea_cons ev_raw ea_nil)) (rc_isi hs hc)
    have e2 : ∀ {b : Bool}, eqD (.bl b) (.bl b) = true := fun {b} => eqD_refl shp_bl
    refine sr_guard (et_B (ev_cb (ea_cons (ev_var rfl) (ea_cons (en_tup (ea_cons ev_raw (ea_cons ev_raw ea_nil)) (by decide)).toD ea_nil)) (rc_isi2 hs (by decide) (by decide)))) (fun h => ?_) (fun h => ?_)
    · refine sr_seq (sx_set (ev_is (z := .bl true) (ev_andV (b := true) (ev_is (z := .bl true) (ev_op (isi (by decide) (.inr rfl)) (isi (by decide) (.inl rfl)) (r2_eq shp_bl shp_bl)) (by rw [e2])) fun _ => ev_is (z := .bl true) (ev_op (isi (by decide) (.inr rfl)) (isi (by decide) (.inl rfl)) (r2_eq shp_bl shp_bl)) (by rw [e2])) rfl)) ?_
      have fin : ∀ (es : List D), (d = .lst es ∨ d = .tup es) → (es.length ≤ 100000 ∧ ∀ e ∈ es, Plain n e) → StR K C (tRet (tAndV (tVar 2) (tAndV (tOp (rEqD K) (tCB (fun xs H Q => ∃ p ys, xs = [V.ref p] ∧ (SqL K H p ys ∨ SqT K H p ys) ∧ Q (.int ys.length) H) (tCons (tVar 0) tNil)) (tCB (fun xs H Q => ∃ p ys, xs = [V.ref p] ∧ (SqL K H p ys ∨ SqT K H p ys) ∧ Q (.int ys.length) H) (tCons (tVar 1) tNil)))
          (tCB (rAll K) (tCons (tLc (RZ.iZipA K (tCons (tVar 0) (tCons (tVar 1) tNil))) (gTup K 2 (gCons (gName 4) (gCons (gName 5) gNil))) tYes (tCall (sp_exact K C n) [] E0 (tCons (tVar 4) (tCons (tVar 5) tNil))) [4, 5]) tNil))))) ((startD ["mine", "theirs", "alike", "key", "a", "b"] [d, d]).set 2 (some (.bl true))) (.bl true) := fun es he ⟨hl, hp⟩ => by
        have len : ∀ {i : Nat}, i = 0 ∨ i = 1 → EvD K C (tCB (fun xs H Q => ∃ p ys, xs = [V.ref p] ∧ (SqL K H p ys ∨ SqT K H p ys) ∧ Q (.int ys.length) H) (tCons (tVar i) tNil)) ((startD ["mine", "theirs", "alike", "key", "a", "b"] [d, d]).set 2 (some (.bl true))) (.int es.length) := fun hi => by
          rcases he with rfl | rfl
          · rcases hi with rfl | rfl
            · exact ev_cb (ea_cons (ev_var rfl) ea_nil) rc_lenL
            · exact ev_cb (ea_cons (ev_var rfl) ea_nil) rc_lenL
          · rcases hi with rfl | rfl
            · exact ev_cb (ea_cons (ev_var rfl) ea_nil) rc_lenT
            · exact ev_cb (ea_cons (ev_var rfl) ea_nil) rc_lenT
        refine sr_ret (ev_is (z := .bl true) (ev_andV (b := true) (ev_var rfl) fun _ => ev_is (z := .bl true) (ev_andV (a := true) (b := true) (ev_is (z := .bl true) (ev_op (len (.inl rfl)) (len (.inr rfl)) (r2_eq shp_int shp_int)) (by rw [eqD_refl shp_int])) fun _ => ?_) rfl) rfl)
        have hI : EvI K C (RZ.iZipA K (tCons (tVar 0) (tCons (tVar 1) tNil))) ((startD ["mine", "theirs", "alike", "key", "a", "b"] [d, d]).set 2 (some (.bl true))) (es.map fun d => D.tup [d, d]) := by
          rw [← zip_self]
          rcases he with rfl | rfl
          · exact ei_zipL (ev_var rfl) (ev_var rfl)
          · exact ei_zipT (ev_var rfl) (ev_var rfl)
        refine ev_is (z := .bl true) (ev_cb (ea_cons (ev_is (z := .lst (dB (es.map fun _ => true))) (en_lc1 hI (fun a ha => eg_two (by decide) (by decide)) (fun a ha => ev_is (z := .bl true) (ev_call (ds := [a, a]) (ea_cons (ev_var rfl) (ea_cons (ev_var rfl) ea_nil)) rfl ⟨a, rfl, hp a ha⟩) rfl) hl).toD (by unfold dB; rw [List.map_map]; rfl)) ea_nil) rc_all) ?_
        congr 1
        rw [List.all_map]
        exact List.all_eq_true.mpr fun _ _ => rfl
      cases d with
      | lst es => exact fin es (.inl rfl) hd
      | tup es => exact fin es (.inr rfl) hd
      | _ => exact absurd h Bool.false_ne_true
    · refine sr_guard (et_B (isi (by decide) (.inl rfl))) (fun h2 => ?_) (fun h2 => ?_)
      · cases d with
        | dic kvs =>
          obtain ⟨n2, one⟩ := hd
          have one' : OneI kvs := one
          have pk : Plain n (.lst (kvs.map fun kv => keyV kv.1)) := by
            obtain ⟨k, rfl⟩ := Nat.exists_eq_add_of_le' n2
            unfold Plain
            rcases one with rfl | ⟨i, j, rfl⟩
            · exact ⟨by decide, fun e he => by cases he⟩
            · refine ⟨by show 1 ≤ 100000; decide, fun e he => ?_⟩
              rw [List.mem_singleton.mp he]
              unfold Plain
              trivial
          refine sr_seq (sx_set (ev_is (z := .bl true) (ev_andV (b := true) (ev_is (z := .bl true) (isi (by decide) (.inr rfl)) rfl) fun _ => ev_is (z := .bl true) (ev_call (ds := [.lst (kvs.map fun kv => keyV kv.1), .lst (kvs.map fun kv => keyV kv.1)]) (ea_cons (en_cb (ea_cons (ev_var rfl) ea_nil) rn_listK).toD (ea_cons (en_cb (ea_cons (ev_var rfl) ea_nil) rn_listK).toD ea_nil)) rfl ⟨_, rfl, pk⟩) rfl) rfl)) ?_
          refine sr_ret (ev_is (z := .bl true) (ev_andV (b := true) (ev_var rfl) fun _ => ev_is (z := .bl true) (ev_cb (ea_cons (d := .lst (dB (kvs.map fun _ => true))) (fun O σ H nn Q q => ?_) ea_nil) rc_all) ?_) rfl)
          · obtain ⟨v, hv, dv⟩ := nn.env.2 0 _ rfl
            obtain ⟨v1, hv1, dv1⟩ := nn.env.2 1 _ rfl
            obtain ⟨a, kws, rfl, ha, dk⟩ := dat_dic_iff.mp dv
            obtain ⟨b, kws1, rfl, hb, dk1⟩ := dat_dic_iff.mp dv1
            have ek : kws1 = kws := by
              rcases one_get dk one' with ⟨e, z⟩ | ⟨i, v, z, e, _⟩
              · rcases one_get dk1 one' with ⟨e', z'⟩ | ⟨i', v', z', e', _⟩
                · rw [z, z']
                · rw [e] at e'
                  cases e'
              · rcases one_get dk1 one' with ⟨e', z'⟩ | ⟨i', v', z', e', _⟩
                · rw [e] at e'
                  cases e'
                · rw [e] at e'
                  cases e'
                  rw [z, z']
            subst ek
            refine lc_lock nn hv (hid_same _ _ ha) (f := fun _ => .bl true) ?_ (fun j kv hkv od O' H' s ow le oa Q' q' => ?_) fun p H' s hp dp => ?_
            · rcases one_get dk one' with ⟨e, z⟩ | ⟨i, v, z, e, _⟩
              · rw [z]
                decide
              · rw [z]
                show 1 ≤ 100000
                decide
            · rcases one_get dk one' with ⟨e, z⟩ | ⟨i, v, z, e, hval⟩
              · rw [z] at hkv
                cases hkv
              have ekv : kv = (Sum.inl i, V.int v) := by
                rw [z] at hkv
                exact List.mem_singleton.mp (List.mem_of_getElem? hkv)
              subst ekv
              have sl : ∀ {l : Nat} {u : V}, l ≠ 3 → σ[l]? = some (some u) → ((L2.wipe σ [3]).set 3 (some (kV (Sum.inl i))))[l]? = some (some u) := fun ne h => by
                show ((σ.set 3 none).set 3 _)[_]? = _
                rw [List.getElem?_set_ne (Ne.symm ne), List.getElem?_set_ne (Ne.symm ne)]
                exact h
              have l4 : 3 < σ.length := by rw [nn.env.1]; show 3 < 6; decide
              have s3 : ((L2.wipe σ [3]).set 3 (some (kV (Sum.inl i))))[3]? = some (some (kV (Sum.inl i))) := List.getElem?_set_self (by show 3 < (σ.set 3 none).length; rw [List.length_set]; exact l4)
              have r1 : DGet H' a (kV (Sum.inl i)) (some (.int v)) := .inl ⟨kws1, Sum.inl i, .inr ⟨od, s _ _ upd_same⟩, rfl, hval.symm⟩
              have r2 : DGet H' b (kV (Sum.inl i)) (some (.int v)) := .inl ⟨kws1, Sum.inl i, by
                by_cases e : b = a
                · rw [e]
                  exact .inr ⟨od, s _ _ upd_same⟩
                · exact .inl (s _ _ (by rw [upd_ne e]; exact hid_same _ _ hb)), rfl, hval.symm⟩
              refine ⟨.ref a, sl (by decide) hv, kV (Sum.inl i), s3, a, .int v, rfl, r1, .ref b, sl (by decide) hv1, kV (Sum.inl i), s3, b, .int v, rfl, r2, ?_⟩
              refine ⟨rfl, O', [.int v, .int v], ow, .cons (dat_int.mpr rfl) (.cons (dat_int.mpr rfl) .nil), ⟨.int v, rfl, ?_⟩, fun u H3 s3 d3 => q' u H3 s3 d3⟩
              obtain ⟨k, rfl⟩ := Nat.exists_eq_add_of_le' n2
              unfold Plain
              trivial
            · refine q _ _ s ?_
              have el : (List.range kws1.length).map (fun _ => D.bl true) = dB (kvs.map fun _ => true) := by
                rcases one_get dk one' with ⟨e, z⟩ | ⟨i, v, z, e, _⟩
                · rw [z, e]
                  rfl
                · rw [z, e]
                  rfl
              rw [← el]
              exact dp
          · congr 1
            rw [List.all_map]
            exact List.all_eq_true.mpr fun _ _ => rfl
        | _ => exact absurd h2 Bool.false_ne_true
      · have hsh : shp d = true := by
          cases d with
          | non => rfl
          | bl b => rfl
          | int i => rfl
          | str x => exact hd
          | dic _ => exact absurd h2.symm Bool.false_ne_true
          | lst es => exact absurd h.symm Bool.false_ne_true
          | tup es => exact absurd h.symm Bool.false_ne_true
          | _ => exact hd.elim
        refine sr_seq (sx_set (ev_is (z := .bl true) (ev_op (isi (by decide) (.inl rfl)) (isi (by decide) (.inr rfl)) (r2_eq shp_bl shp_bl)) (by rw [e2]))) ?_
        have isi' : ∀ {i : Nat}, i = 0 ∨ i = 1 → EvD K C (tCB (rIsi K) (tCons (tVar i) (tCons (tC (.ty "bool")) tNil))) ((startD ["mine", "theirs", "alike", "key", "a", "b"] [d, d]).set 2 (some (.bl true))) (.bl (isTy d "bool")) := fun hi => by
          rcases hi with rfl | rfl
          · exact ev_cb (ea_cons (ev_var rfl) (ea_cons ev_raw ea_nil)) (rc_isi hs (by decide))
          · exact ev_cb (ea_cons (ev_var rfl) (ea_cons ev_raw ea_nil)) (rc_isi hs (by decide))
        exact sr_ret (ev_is (z := .bl true) (ev_andV (b := true) (ev_var rfl) fun _ => ev_is (z := .bl true) (ev_andV (a := true) (b := true) (ev_is (z := .bl true) (ev_op (isi' (.inl rfl)) (isi' (.inr rfl)) (r2_eq shp_bl shp_bl)) (by rw [e2])) fun _ => ev_is (z := .bl true) (ev_op (ev_var rfl) (ev_var rfl) (r2_eq hsh hsh)) (by rw [eqD_refl hsh])) rfl) rfl)
end
end Zm


set_option Elab.async false
set_option linter.all false
set_option maxRecDepth 100000
set_option maxHeartbeats 4000000
set_option autoImplicit false
namespace Zm
open PySem PySem.Spec L2
/-- those of 0 .. m - 1 that some row names; those that none does -/
def usedI (m : Int) (rows : List (List Int)) : List Int := (rgI 0 m).filter fun b => rows.any fun r => decide (b ∈ r)
def idleI (m : Int) (rows : List (List Int)) : List Int := (rgI 0 m).filter fun b => !(rows.any fun r => decide (b ∈ r))
theorem rgI_mem {a b x : Int} : x ∈ rgI a b ↔ a ≤ x ∧ x < b := by
  unfold rgI
  rw [List.mem_map]
  constructor
  · rintro ⟨i, hi, rfl⟩
    rw [List.mem_range] at hi
    omega
  · rintro ⟨h1, h2⟩
    exact ⟨(x - a).toNat, List.mem_range.mpr (by omega), by omega⟩
theorem rgI_lt {a b : Int} : (rgI a b).Pairwise (· < ·) := by
  unfold rgI
  rw [List.pairwise_map]
  exact List.pairwise_lt_range.imp fun h => by omega
theorem usedI_mem {m : Int} {rows : List (List Int)} (h : ∀ r ∈ rows, RowOk m r) {k : Int} : k ∈ usedI m rows ↔ ∃ r ∈ rows, k ∈ r := by
  unfold usedI
  rw [List.mem_filter, rgI_mem, List.any_eq_true]
  constructor
  · rintro ⟨_, r, hr, hk⟩
    exact ⟨r, hr, of_decide_eq_true hk⟩
  · rintro ⟨r, hr, hk⟩
    have := (h r hr).2 k hk
    exact ⟨⟨this.1, this.2⟩, r, hr, decide_eq_true hk⟩
theorem usedI_lt {m : Int} {rows : List (List Int)} : (usedI m rows).Pairwise (· < ·) := rgI_lt.filter _
theorem rgI_len {m : Int} : (rgI 0 m).length = m.toNat := by
  unfold rgI
  rw [List.length_map, List.length_range]
  congr 1
  omega
/-- few old blocks -/
abbrev isRcp6 (ds : List D) : Prop := ∃ m rows, ds = [.rcp m rows] ∧ ValidR m rows ∧ m < 64
abbrev f_used (ds : List D) : D := match ds with
  | [.rcp m rows] => .lst (dI (usedI m rows))
  | _ => .non
abbrev f_idle (ds : List D) : D := match ds with
  | [.rcp m rows] => .lst (dI (idleI m rows))
  | _ => .non
abbrev sp_used (K : PySem.W.Frag) (C : Addr) : Sp := SpF K C isRcp6 f_used 1
abbrev sp_idle (K : PySem.W.Frag) (C : Addr) : Sp := SpF K C isRcp6 f_idle 1
section
variable {P : Program} {w : World} {K : PySem.W.Frag} {mg : Str → Option Value} {base : Heap} {f C : Addr} {fd : FuncData}
end
end Zm


set_option Elab.async false
set_option linter.all false
set_option maxRecDepth 100000
set_option maxHeartbeats 4000000
set_option autoImplicit false
namespace Zm
open PySem PySem.Spec L2
abbrev anyD (e : D) : Prop := (∃ s, tyD e = some s) ∨ ∃ n rs, e = .rcp n rs
abbrev f_eq (ds : List D) : D := match ds with
  | [.rcp m rows, .rcp n rs] => .bl (decide (m = n) && decide (rows = rs))
  | _ => .bl false
abbrev sp_eq (K : PySem.W.Frag) (C : Addr) : Sp := SpD K C (fun ds => ∃ m rows e, ds = [.rcp m rows, e] ∧ anyD e) f_eq 2
section
variable {P : Program} {w : World} {K : PySem.W.Frag} {mg : Str → Option Value} {base : Heap} {f C : Addr} {fd : FuncData}
theorem sc_Recipe___eq__ : FnScope ["self", "other"] ["self", "other"] (defScope (inClass (top 17) 4)) := ⟨rfl, rfl, rfl, by decide +kernel, rfl, by decide +kernel, by decide +kernel⟩
theorem ok_eq (B : BFree mg) (R : RecFacts K C) (G_Recipe : mg "Recipe" = some (.ref C)) (F : MethAt K C "__eq__" "Recipe.__eq__" ["self", "other"] (inClass (top 17) 4) f fd) : MethOk P w K mg base C "__eq__" 1 ["self", "other"] (sp_eq K C) := by
  refine F.okD R.cl sc_Recipe___eq__ fun cdv A outer s H E hr => ⟨_, (pss_one (ps_ret (pe_and (c_isi (K := K) B (pa_cons (pv 1) (pa_cons (n_cl G_Recipe) pa_nil))) (pe_and (pe_cmpR (o_eq (K := K) (by exact hr.units)) (e_fld (K := K) (pv 0)) (e_fld (K := K) (pv 1)) (nomark _)) (pe_one (pe_cmpR (o_eq (K := K) (by exact hr.units)) (e_fld (K := K) (pv 0)) (e_fld (K := K) (pv 1)) (nomark _))))))), ?_⟩
  rintro ds ⟨m, rows, e, rfl, he⟩
  rcases he with ⟨s, hs⟩ | ⟨n, rs, rfl⟩
  · have e0 : f_eq [.rcp m rows, e] = .bl false := by cases e <;> first | rfl | cases hs
    rw [e0]
    exact sr_ret (ev_is (z := .bl false) (ev_andV (a := false) (b := false) (ev_cb (ea_cons (ev_var rfl) (ea_cons ev_raw ea_nil)) (rc_isiN R hs)) fun h => absurd h Bool.false_ne_true) rfl)
  · refine sr_ret (ev_is (ev_andV (a := true) (ev_cb (ea_cons (ev_var rfl) (ea_cons ev_raw ea_nil)) (rc_isiR R)) fun _ => ev_andV (ev_op (ev_many R.cl R.na (ev_var rfl)) (ev_many R.cl R.na (ev_var rfl)) (r2_eq shp_int shp_int)) fun _ => ev_op (ev_needs R.cl R.na2 (ev_var rfl)) (ev_needs R.cl R.na2 (ev_var rfl)) (r2_eq shp_rowsD shp_rowsD)) ?_)
    rw [eqD_int, eqD_rowsD]
    rfl
end
end Zm


set_option Elab.async false
set_option linter.all false
set_option maxRecDepth 100000
set_option maxHeartbeats 4000000
set_option autoImplicit false
namespace Zm
open PySem PySem.Spec L2
def toI : D → Int
  | .int i => i
  | _ => 0
def rowI : D → List Int
  | .lst ds => ds.map toI
  | _ => []
theorem toI_dI (ns : List Int) : (dI ns).map toI = ns := by
  unfold dI
  rw [List.map_map]
  exact List.map_id _
theorem rowI_rows (rows : List (List Int)) : (rows.map fun r => D.lst (dI r)).map rowI = rows := by
  rw [List.map_map]
  have e : (rowI ∘ fun r => D.lst (dI r)) = id := by
    funext r
    exact toI_dI r
  rw [e]
  exact List.map_id _
theorem leD_nil : LeD [] [] := ⟨rfl, fun i d e => by simp at e⟩
theorem leD_none {δ' δ : Dl} {x : Option D} (h : LeD δ' δ) : LeD (none :: δ') (x :: δ) := ⟨by rw [List.length_cons, List.length_cons, h.1], fun i d e => by
  cases i with
  | zero => simp at e
  | succ i => simpa using h.2 i d (by simpa using e)⟩
theorem leD_some {δ' δ : Dl} {d : D} (h : LeD δ' δ) : LeD (some d :: δ') (some d :: δ) := ⟨by rw [List.length_cons, List.length_cons, h.1], fun i e q => by
  cases i with
  | zero => simpa using q
  | succ i => simpa using h.2 i e (by simpa using q)⟩
/-- the ints of a list, rising, each once (0 .. 63) -/
def canon (ns : List Int) : List Int := (rgI 0 64).filter fun k => decide (k ∈ ns)
theorem canon_lt {ns : List Int} : (canon ns).Pairwise (· < ·) := rgI_lt.filter _
theorem canon_mem {ns : List Int} (h : ∀ x ∈ ns, 0 ≤ x ∧ x < 64) {k : Int} : k ∈ canon ns ↔ k ∈ ns := by
  unfold canon
  rw [List.mem_filter, rgI_mem, decide_eq_true_eq]
  exact ⟨fun h => h.2, fun q => ⟨h k q, q⟩⟩
abbrev f_made (ds : List D) : D := match ds with
  | [.lst [.int m, .lst rs]] => .rcp m (rs.map rowI)
  | _ => .non
theorem f_made_eq (m : Int) (rows : List (List Int)) : f_made [recD m rows] = .rcp m rows := by
  show D.rcp m ((rows.map fun r => D.lst (dI r)).map rowI) = .rcp m rows
  rw [rowI_rows]
abbrev sp_made (K : PySem.W.Frag) (C : Addr) : Sp := SpF K C (fun ds => ∃ m rows, ds = [recD m rows] ∧ ValidR m rows) f_made 1
abbrev f_union (ds : List D) : D := match ds with
  | [.lst a, .lst b] => .lst (dI (canon ((a ++ b).map toI)))
  | _ => .non
abbrev sp_union (K : PySem.W.Frag) (C : Addr) : Sp := SpF K C (fun ds => ∃ a b : List Int, ds = [.lst (dI a), .lst (dI b)] ∧ a.length + b.length < 64 ∧ (∀ x ∈ a, 0 ≤ x ∧ x < 64) ∧ ∀ x ∈ b, 0 ≤ x ∧ x < 64) f_union 2
theorem rec_rows {δ : Dl} {i : Nat} {K : PySem.W.Frag} {C : Addr} {m : Int} {rows : List (List Int)} (h : δ[i]? = some (some (recD m rows))) : EvD K C (tOp (rIxL K) (tVar i) (tC (.int 1))) δ (rowsL rows) := ev_op (ev_var h) ev_int (r2_ixL rfl)
theorem rec_many {δ : Dl} {i : Nat} {K : PySem.W.Frag} {C : Addr} {m : Int} {rows : List (List Int)} (h : δ[i]? = some (some (recD m rows))) : EvD K C (tOp (rIxL K) (tVar i) (tC (.int 0))) δ (.int m) := ev_op (ev_var h) ev_int (r2_ixL rfl)
section
variable {P : Program} {w : World} {K : PySem.W.Frag} {mg : Str → Option Value} {base : Heap} {f C : Addr} {fd : FuncData}
theorem sc_law_made : FnScope ["recipe", "row"] ["recipe"] (defScope (top 48)) := ⟨rfl, rfl, rfl, by decide +kernel, rfl, by decide +kernel, by decide +kernel⟩
-- slots: recipe=0 row=1
theorem ok_law_made (B : BFree mg) (M_Recipe : MakeOk P w K mg base C "Recipe" 5 ["self", "many", "needs"] (spInit K C)) (F : DefAt K mg "_law_made" ["recipe"] (top 48) f fd) : DefOk P w K mg base "_law_made" 7 ["recipe"] (sp_made K C) := by
  refine okF F sc_law_made fun cdv A outer s H E hr => ⟨_, (pss_one (ps_ret (pe_mk M_Recipe (hr.mono (by first | decide | omega)) (pa_cons (pe_ix (x_list (K := K)) (pv 0) pe_int (fun _ _ => rfl)) (pa_cons (pe_lc (own := [("row", 1)]) rfl sc_law_made.nd (i_list (K := K) (pe_ix (x_list (K := K)) (pv 0) pe_int (fun _ _ => rfl))) (blkOk_by (own := [("row", 1)]) (N := ["recipe", "row"]) (sc := (defScope (top 48))) (by decide +kernel)) (fun _ _ _ _ _ => pg_name (i := 1) sc_law_made.nd rfl (.inl rfl)) (fun _ _ _ _ _ => pts_nil) (fun _ _ _ _ _ => (c_list (K := K) B (pa_cons (pv 1) pa_nil)))) pa_nil))))), ?_⟩
  rintro ds ⟨m, rows, rfl, hv⟩
  rw [f_made_eq]
  exact sf_ret (ef_mk (ea_cons (rec_many rfl) (ea_cons (en_lc1 (as := rows) (g0 := fun r => D.lst (dI r)) (f := fun r => D.lst (dI r)) (ei_list (rec_rows rfl)) (fun a ha => eg_name (by decide)) (fun a ha => (en_cb (ea_cons (ev_var rfl) ea_nil) rn_listL).toD) (by have := hv.2.2.1; omega)).toD ea_nil)) hv)
end
end Zm


set_option Elab.async false
set_option linter.all false
set_option maxRecDepth 100000
set_option maxHeartbeats 4000000
set_option autoImplicit false
namespace Zm
open PySem PySem.Spec L2
local macro_rules | `(tactic| walk_at "le") => `(tactic| first | exact le0 | (refine leS ?_; walk_at "le") | (refine leN ?_; walk_at "le"))
theorem rows_atC {rows : List (List Int)} {b : Nat} (h : b < rows.length) : atI (rows.map fun r => D.lst (dI r)) (b : Int) = some (.lst (dI (rowM rows b))) := by
  unfold atI ixN
  rw [List.length_map, if_pos (by omega), if_pos (by omega), Option.bind_some, Int.toNat_natCast, List.getElem?_map, List.getElem?_eq_getElem h, row_get h]
  rfl
theorem zip_cut {s : List Ct} : ∀ {k c : Nat}, ((s.zipIdx k).filter fun q => !decide (q.2 = k + c)).map (·.1) = s.take c ++ s.drop (c + 1) := by
  induction s with
  | nil => intro k c; simp
  | cons x s ih =>
    intro k c
    rw [List.zipIdx_cons, List.filter_cons]
    cases c with
    | zero =>
      have e1 : (!decide ((x, k).2 = k + 0)) = false := by simp
      rw [e1, if_neg Bool.false_ne_true]
      have : (s.zipIdx (k + 1)).filter (fun q => !decide (q.2 = k + 0)) = s.zipIdx (k + 1) := List.filter_eq_self.mpr fun q hq => by
        have := List.le_snd_of_mem_zipIdx hq
        have h2 : ¬ q.2 = k + 0 := by omega
        rw [decide_eq_false h2]
        rfl
      rw [this, List.zipIdx_map_fst]
      rfl
    | succ c =>
      have h2 : ¬ (x, k).2 = k + (c + 1) := by show ¬ k = k + (c + 1); omega
      rw [decide_eq_false h2]
      show ((x, k) :: _).map (·.1) = x :: (s.take c ++ s.drop (c + 1))
      rw [List.map_cons, ← ih (k := k + 1) (c := c)]
      have : ∀ q : Ct × Nat, (!decide (q.2 = k + (c + 1))) = !decide (q.2 = k + 1 + c) := fun q => by rw [(by omega : k + (c + 1) = k + 1 + c)]
      rw [List.filter_congr fun q _ => this q]
def everyM (n cells : Nat) : List Dd := (List.range cells).flatMap fun c => ((List.range n).map fun b => Dd.make b c) ++ (List.range cells).map fun a => Dd.copy a c
theorem every_len {n cells : Nat} (hn : n ≤ 60) (hc : cells ≤ 60) : (everyM n cells).length ≤ 7200 := by
  unfold everyM
  rw [List.length_flatMap]
  have key : ∀ l : List Nat, (l.map fun c => (((List.range n).map fun b => Dd.make b c) ++ (List.range cells).map fun a => Dd.copy a c).length).sum = l.length * (n + cells) := by
    intro l
    induction l with
    | nil => simp
    | cons c l ih =>
      rw [List.map_cons, List.sum_cons, ih, List.length_append, List.length_map, List.length_map, List.length_range, List.length_range, List.length_cons, Nat.add_mul, Nat.one_mul]
      omega
  rw [key, List.length_range]
  have := Nat.mul_le_mul hc (by omega : n + cells ≤ 120)
  omega
theorem every_mem {n cells : Nat} {d : Dd} : d ∈ everyM n cells ↔ DdOk n cells d := by
  unfold everyM
  rw [List.mem_flatMap]
  constructor
  · rintro ⟨c, hc, h⟩
    have hc' := List.mem_range.mp hc
    rcases List.mem_append.mp h with h | h
    · obtain ⟨b, hb, rfl⟩ := List.mem_map.mp h
      exact ⟨List.mem_range.mp hb, hc'⟩
    · obtain ⟨a, ha, rfl⟩ := List.mem_map.mp h
      exact ⟨List.mem_range.mp ha, hc'⟩
  · intro h
    cases d with
    | make b c => exact ⟨c, List.mem_range.mpr h.2, List.mem_append.mpr (.inl (List.mem_map.mpr ⟨b, List.mem_range.mpr h.1, rfl⟩))⟩
    | copy a c => exact ⟨c, List.mem_range.mpr h.2, List.mem_append.mpr (.inr (List.mem_map.mpr ⟨a, List.mem_range.mpr h.1, rfl⟩))⟩
abbrev sp_lbegun (K : PySem.W.Frag) (C : Addr) : Sp := SpM K C (fun a : Int × List (List Int) × Nat => DevOk a.1 a.2.1 a.2.2) (fun a => [recD a.1 a.2.1, .int a.2.2]) (fun a => stD (begunM a.1.toNat a.2.2)) 2
abbrev sp_lwrongs (K : PySem.W.Frag) (C : Addr) : Sp := SpM K C (fun a : Int × List (List Int) × List Ct × Dd => DvOk a.1 a.2.1 a.2.2.1 a.2.2.2) (fun a => [recD a.1 a.2.1, stD a.2.2.1, dD a.2.2.2]) (fun a => .lst (wrongs a.2.1 a.2.2.1 a.2.2.2)) 3
abbrev sp_lput (K : PySem.W.Frag) (C : Addr) : Sp := SpM K C (fun a : List Ct × Nat × Ct => a.2.1 < a.1.length ∧ a.1.length ≤ 60) (fun a => [stD a.1, .int a.2.1, cD a.2.2]) (fun a => stD (a.1.set a.2.1 a.2.2)) 3
abbrev sp_lbehind (K : PySem.W.Frag) (C : Addr) : Sp := SpM K C (fun a : List Ct × Dd => DdIn a.1.length a.2 ∧ a.1.length ≤ 60) (fun a => [stD a.1, dD a.2]) (fun a => stD (behindM a.1 a.2)) 2
abbrev sp_levery (K : PySem.W.Frag) (C : Addr) : Sp := SpM K C (fun a : Int × List (List Int) × Nat => a.2.1.length ≤ 60 ∧ a.2.2 ≤ 60) (fun a => [recD a.1 a.2.1, .int a.2.2]) (fun a => coD (everyM a.2.1.length a.2.2)) 2
abbrev sp_lloose (K : PySem.W.Frag) (C : Addr) : Sp := SpM K C (fun a : Int × List (List Int) × List Ct × Dd => DvOk a.1 a.2.1 a.2.2.1 a.2.2.2) (fun a => [recD a.1 a.2.1, stD a.2.2.1, dD a.2.2.2]) (fun a => stD (looseM a.2.1 a.2.2.1 a.2.2.2)) 3
abbrev sp_lcut (K : PySem.W.Frag) (C : Addr) : Sp := SpM K C (fun a : Int × List (List Int) × List Ct × Dd => DvOk a.1 a.2.1 a.2.2.1 a.2.2.2) (fun a => [recD a.1 a.2.1, stD a.2.2.1, dD a.2.2.2]) (fun a => stD (looseM a.2.1 (cutM a.2.2.1 a.2.2.2) a.2.2.2)) 3
abbrev sp_lday (K : PySem.W.Frag) (C : Addr) : Sp := SpM K C (fun a : (Int × List (List Int) × Nat × List Dd) × List Int => CoOk a.1.1 a.1.2.1 a.1.2.2.1 a.1.2.2.2 ∧ a.2.length ≤ 1000) (fun a => [recD a.1.1 a.1.2.1, .int a.1.2.2.1, coD a.1.2.2.2, .lst (dI a.2)]) (fun a => stD (dayM a.1.2.1 (begunM a.1.1.toNat a.1.2.2.1) a.1.2.2.2 a.2)) 4
section
variable {P : Program} {w : World} {K : PySem.W.Frag} {mg : Str → Option Value} {base : Heap} {f C : Addr} {fd : FuncData}
theorem rec_0 {δ : Dl} {i : Nat} {m : Int} {rows : List (List Int)} (h : δ[i]? = some (some (recD m rows))) : EvD K C (tOp (rIxL K) (tVar i) (tC (.int 0))) δ (.int m) := ev_op (ev_var h) ev_int (r2_ixL rfl)
theorem rec_1 {δ : Dl} {i : Nat} {m : Int} {rows : List (List Int)} (h : δ[i]? = some (some (recD m rows))) : EvD K C (tOp (rIxL K) (tVar i) (tC (.int 1))) δ (rowsL rows) := ev_op (ev_var h) ev_int (r2_ixL rfl)
/-- a deed's second and third thing -/
def Dd.src : Dd → Nat
  | .make b _ => b
  | .copy a _ => a
theorem dd_1 {δ : Dl} {i : Nat} {d : Dd} (h : δ[i]? = some (some (dD d))) : EvD K C (tOp (rIxT K) (tVar i) (tC (.int 1))) δ (.int d.src) := by
  cases d with
  | make b c => exact ev_op (ev_var (d := .tup [.str sMake, .int b, .int c]) h) ev_int (r2_ixT rfl)
  | copy b c => exact ev_op (ev_var (d := .tup [.str sCopy, .int b, .int c]) h) ev_int (r2_ixT rfl)
theorem dd_2 {δ : Dl} {i : Nat} {d : Dd} (h : δ[i]? = some (some (dD d))) : EvD K C (tOp (rIxT K) (tVar i) (tC (.int 2))) δ (.int d.cell) := by
  cases d with
  | make b c => exact ev_op (ev_var (d := .tup [.str sMake, .int b, .int c]) h) ev_int (r2_ixT rfl)
  | copy b c => exact ev_op (ev_var (d := .tup [.str sCopy, .int b, .int c]) h) ev_int (r2_ixT rfl)
def Dd.isMake : Dd → Bool
  | .make _ _ => true
  | .copy _ _ => false
theorem dd_make {δ : Dl} {i : Nat} {d : Dd} (h : δ[i]? = some (some (dD d))) : EvT K C (tB (tOp (rEqD K) (tOp (rIxT K) (tVar i) (tC (.int 0))) (tC (.str sMake)))) δ d.isMake := by
  cases d with
  | make b c => exact et_word (ev_op (ev_var (d := .tup [.str sMake, .int b, .int c]) h) ev_int (r2_ixT rfl)) shN_make (decide_eq_true rfl)
  | copy b c => exact et_word (ev_op (ev_var (d := .tup [.str sCopy, .int b, .int c]) h) ev_int (r2_ixT rfl)) shN_copy mc_no
theorem cm_no : decide (sMake = sCopy) = false := by decide +kernel
theorem dd_copy {δ : Dl} {i : Nat} {d : Dd} (h : δ[i]? = some (some (dD d))) : EvT K C (tB (tOp (rEqD K) (tOp (rIxT K) (tVar i) (tC (.int 0))) (tC (.str sCopy)))) δ (!d.isMake) := by
  cases d with
  | make b c => exact et_is (et_B (ev_op (ev_op (ev_var (d := .tup [.str sMake, .int b, .int c]) h) ev_int (r2_ixT rfl)) ev_str (r2_eq ((shN_make (n := 0)).shp (by decide)) ((shN_copy (n := 0)).shp (by decide))))) (by rw [eqD_str]; exact cm_no)
  | copy b c => exact et_is (et_B (ev_op (ev_op (ev_var (d := .tup [.str sCopy, .int b, .int c]) h) ev_int (r2_ixT rfl)) ev_str (r2_eq ((shN_copy (n := 0)).shp (by decide)) ((shN_copy (n := 0)).shp (by decide))))) (by rw [eqD_str]; exact decide_eq_true rfl)
theorem sc_law_begun : FnScope ["recipe", "cells", "block"] ["recipe", "cells"] (defScope (top 49)) := ⟨rfl, rfl, rfl, by decide +kernel, rfl, by decide +kernel, by decide +kernel⟩
theorem ok_law_begun (B : BFree mg) (F : DefAt K mg "_law_begun" ["recipe", "cells"] (top 49) f fd) : DefOk P w K mg base "_law_begun" 1 ["recipe", "cells"] (sp_lbegun K C) := by
  refine okM F sc_law_begun fun cdv A outer s H E hr => ⟨_, (pss_one (ps_ret (pe_op op_cat (pe_lc (own := [("block", 2)]) rfl sc_law_begun.nd (i_rng1 B (pa_cons (pe_ix (x_list (K := K)) (pv 0) pe_int (fun _ _ => rfl)) pa_nil)) (blkOk_by (own := [("block", 2)]) (N := ["recipe", "cells", "block"]) (sc := (defScope (top 49))) (by decide +kernel)) (fun _ _ _ _ _ => pg_name (i := 2) sc_law_begun.nd rfl (.inl rfl)) (fun _ _ _ _ _ => pts_nil) (fun _ _ _ _ _ => (pe_tup (pa_cons pe_str (pa_cons (pv 2) pa_nil))))) (pe_op op_rep (pe_lst (pa_cons pe_non pa_nil)) (pe_op op_sub (pv 1) (pe_ix (x_list (K := K)) (pv 0) pe_int (fun _ _ => rfl))))))), ?_⟩
  rintro ⟨m, rows, cells⟩ ⟨hv, m60, c1, cm, c60⟩
  have cm : m ≤ (cells : Int) := cm
  have c60 : cells ≤ 60 := c60
  have m0 := hv.1
  show StR K C _ (startD ["recipe", "cells", "block"] [recD m rows, .int cells]) (stD (begunM m.toNat cells))
  refine sr_ret (ev_is (ev_op (en_lc1 (as := List.range m.toNat) (g0 := fun (k : Nat) => D.int (0 + (k : Int))) (f := fun k => cD (.old (k : Int))) (ei_rng1 (j := m) (ea_cons (rec_0 rfl) ea_nil) (by omega) (by omega)) (fun a ha => eg_name (by decide)) (fun k hk => (en_tup (ea_cons ev_str (ea_cons (ev_is (ev_var rfl) (congrArg D.int (Int.zero_add _))) ea_nil)) (by show 2 ≤ 100000; decide)).toD) (by rw [List.length_range]; omega)).toD (ev_op (en_lst (ea_cons ev_non ea_nil) (by show 1 ≤ 100000; decide)).toD (ev_is (z := .int ((cells - m.toNat : Nat) : Int)) (ev_op (ev_var rfl) (rec_0 rfl) r2_Ii) (congrArg D.int (by omega))) (R2N.toD (r2_rep (by omega) rfl))) (R2N.toD (r2_cat ?_))) ?_)
  · rw [List.length_map, List.length_range, List.length_replicate]
    omega
  · unfold stD begunM
    rw [List.map_append, List.map_map, List.map_replicate]
    rfl
theorem sc_law_wrongs : FnScope ["recipe", "state", "deed", "others", "block", "cell", "thing"] ["recipe", "state", "deed"] (defScope (top 50)) := ⟨rfl, rfl, rfl, by decide +kernel, rfl, by decide +kernel, by decide +kernel⟩
-- slots: recipe=0 state=1 deed=2 others=3 block=4 cell=5 thing=6
theorem ok_law_wrongs (B : BFree mg) (F : DefAt K mg "_law_wrongs" ["recipe", "state", "deed"] (top 50) f fd) : DefOk P w K mg base "_law_wrongs" 1 ["recipe", "state", "deed"] (sp_lwrongs K C) := by
  refine okM F sc_law_wrongs fun cdv A outer s H E hr => ⟨_, (pss_cons (ps_if (pt_cmpR (o_eq (K := K) (by exact hr.units)) (pe_ix (x_tup (K := K)) (pv 2) pe_int (fun _ _ => rfl)) pe_str (nomark _)) (pss_cons (ps_set (i := 3) sc_law_wrongs.nd rfl (.inr rfl) (pe_lc (own := [("cell", 5), ("thing", 6)]) rfl sc_law_wrongs.nd (i_enum B (pa_cons (pv 1) pa_nil)) (blkOk_by (own := [("cell", 5), ("thing", 6)]) (N := ["recipe", "state", "deed", "others", "block", "cell", "thing"]) (sc := (defScope (top 50))) (by decide +kernel)) (fun _ _ _ _ _ => g_tup (K := K) (n := 2) (pgs_cons (pg_name (i := 5) sc_law_wrongs.nd rfl (.inl rfl)) (pgs_cons (pg_name (i := 6) sc_law_wrongs.nd rfl (.inl rfl)) pgs_nil))) (fun _ _ _ _ _ => pts_one (pt_cmpR (o_ne (K := K) (by exact hr.units)) (pv 5) (pe_ix (x_tup (K := K)) (pv 2) pe_int (fun _ _ => rfl)) (nomark _))) (fun _ _ _ _ _ => (pv 6)))) (pss_one (ps_ret (pe_lc (own := [("block", 4)]) rfl sc_law_wrongs.nd (i_list (K := K) (pe_ix (x_list (K := K)) (pe_ix (x_list (K := K)) (pv 0) pe_int (fun _ _ => rfl)) (pe_ix (x_tup (K := K)) (pv 2) pe_int (fun _ _ => rfl)) (fun _ _ => rfl))) (blkOk_by (own := [("block", 4)]) (N := ["recipe", "state", "deed", "others", "block", "cell", "thing"]) (sc := (defScope (top 50))) (by decide +kernel)) (fun _ _ _ _ _ => pg_name (i := 4) sc_law_wrongs.nd rfl (.inl rfl)) (fun _ _ _ _ _ => pts_one (pt_cmpR (o_notInD (K := K) hr) (pe_tup (pa_cons pe_str (pa_cons (pv 4) pa_nil))) (pv 3) (by rfl))) (fun _ _ _ _ _ => (pe_tup (pa_cons pe_str (pa_cons (pv 4) pa_nil)))))))) pss_nil) (pss_one (ps_ret (pe_op op_cat (pe_ifExp (pt_cmp (pc_isN (pe_ix (x_list (K := K)) (pv 1) (pe_ix (x_tup (K := K)) (pv 2) pe_int (fun _ _ => rfl)) (fun _ _ => rfl))) rfl) (pe_lst (pa_cons (pe_tup (pa_cons pe_str pa_nil)) pa_nil)) (pe_lst pa_nil)) (pe_ifExp (pt_cmpR (o_eq (K := K) (by exact hr.units)) (pe_ix (x_tup (K := K)) (pv 2) pe_int (fun _ _ => rfl)) (pe_ix (x_tup (K := K)) (pv 2) pe_int (fun _ _ => rfl)) (nomark _)) (pe_lst (pa_cons (pe_tup (pa_cons pe_str pa_nil)) pa_nil)) (pe_lst pa_nil)))))), ?_⟩
  rintro ⟨m, rows, s, d⟩ ⟨hv, m8, ok, hl⟩
  have hl : s.length ≤ 60 := hl
  have hv : ValidR m rows := hv
  show StR K C _ (startD ["recipe", "state", "deed", "others", "block", "cell", "thing"] [recD m rows, stD s, dD d]) (.lst (wrongs rows s d))
  refine sr_guard (b := d.isMake) (dd_make rfl) (fun h => ?_) (fun h => ?_)
  · cases d with
    | copy a c => cases h
    | make b c =>
      have hb : b < rows.length := ok.1
      have hc : c < s.length := ok.2
      have eO : enuD (s.map cD) = s.zipIdx.map fun (q : Ct × Nat) => D.tup [.int (q.2 : Int), cD q.1] := by
        unfold enuD
        rw [List.zipIdx_map, List.map_map]
        rfl
      refine sr_seq (sx_set (d := stD (s.take c ++ s.drop (c + 1))) (ev_is (en_lc (as := s.zipIdx) (g0 := fun (q : Ct × Nat) => D.tup [.int (q.2 : Int), cD q.1]) (p := fun q => !decide (q.2 = 0 + c)) (f := fun q => cD q.1) (by rw [← eO]; exact ei_enum (ev_var rfl)) (fun a ha => eg_two (by decide) (by decide)) (fun q hq => et_is (et_B (ev_op (ev_var rfl) (dd_2 (d := .make b c) rfl) (r2_ne shp_int shp_int))) ?ne) (fun q hq _ => ev_var rfl) (by rw [List.length_zipIdx]; omega)).toD ?oth)) ?_
      case ne =>
        rw [eqD_int]
        congr 1
        rw [decide_eq_decide]
        show (q.2 : Int) = (c : Int) ↔ _
        omega
      case oth =>
        rw [← zip_cut (s := s) (k := 0) (c := c)]
        unfold stD
        rw [List.map_map]
        rfl
      exact sr_ret (en_lc (as := rowM rows b) (g0 := D.int) (p := fun o => !decide (Ct.old o ∈ s.take c ++ s.drop (c + 1))) (f := fun o => .tup [.str sLacks, .int o]) (ei_list (ev_op (rec_1 rfl) (dd_1 (d := .make b c) rfl) (r2_ixL (rows_atC hb)))) (fun a ha => eg_name (by decide)) (fun o ho => et_B (ev_op (en_tup (ea_cons ev_str (ea_cons (ev_var rfl) ea_nil)) (by show 2 ≤ 100000; decide)).toD (ev_var rfl) (r2_notInC (.old o) _))) (fun o ho _ => (en_tup (ea_cons ev_str (ea_cons (ev_var rfl) ea_nil)) (by show 2 ≤ 100000; decide)).toD) (by have := row_len (rows := rows) (b := b) hv hb; omega)).toD
  · cases d with
    | make b c => cases h
    | copy a c =>
      have ha : a < s.length := ok.1
      have e1 : s.getD a .no = s[a] := by rw [List.getD_eq_getElem?_getD, List.getElem?_eq_getElem ha]; rfl
      refine sr_ret (ev_op (d := .lst (if s.getD a .no = .no then [.tup [.str "nothing"]] else [])) (e := .lst (if a = c then [.tup [.str "same"]] else [])) (ev_if (b := decide (s.getD a .no = .no)) (et_B (ev_isNC (c := s.getD a .no) (ev_op (ev_var rfl) (dd_1 (d := .copy a c) rfl) (r2_ixL (by rw [e1]; exact st_at ha))))) (fun h => ?y1) (fun h => ?n1)) (ev_if (b := decide (a = c)) (et_is (et_B (ev_op (dd_1 (d := .copy a c) rfl) (dd_2 (d := .copy a c) rfl) (r2_eq shp_int shp_int))) ?eq) (fun h => ?y2) (fun h => ?n2)) (R2N.toD (r2_cat ?len)))
      case y1 =>
        rw [if_pos (of_decide_eq_true h)]
        exact (en_lst (ea_cons (en_tup (ea_cons ev_str ea_nil) (by show 1 ≤ 100000; decide)).toD ea_nil) (by show 1 ≤ 100000; decide)).toD
      case n1 =>
        rw [if_neg (of_decide_eq_false h)]
        exact (en_lst ea_nil (by show 0 ≤ 100000; decide)).toD
      case y2 =>
        rw [if_pos (of_decide_eq_true h)]
        exact (en_lst (ea_cons (en_tup (ea_cons ev_str ea_nil) (by show 1 ≤ 100000; decide)).toD ea_nil) (by show 1 ≤ 100000; decide)).toD
      case n2 =>
        rw [if_neg (of_decide_eq_false h)]
        exact (en_lst ea_nil (by show 0 ≤ 100000; decide)).toD
      case eq =>
        rw [eqD_int, decide_eq_decide]
        show (a : Int) = (c : Int) ↔ _
        omega
      case len => split <;> split <;> (show _ ≤ 100000) <;> decide
theorem sc_law_put : FnScope ["state", "cell", "thing"] ["state", "cell", "thing"] (defScope (top 51)) := ⟨rfl, rfl, rfl, by decide +kernel, rfl, by decide +kernel, by decide +kernel⟩
theorem ok_law_put (F : DefAt K mg "_law_put" ["state", "cell", "thing"] (top 51) f fd) : DefOk P w K mg base "_law_put" 1 ["state", "cell", "thing"] (sp_lput K C) := by
  refine okM F sc_law_put fun cdv A outer s H E hr => ⟨_, (pss_one (ps_ret (pe_op op_cat (pe_op op_cat (pe_slice (x_sl (K := K)) (pv 0) po_none (po_some (pv 1))) (pe_lst (pa_cons (pv 2) pa_nil))) (pe_slice (x_sl (K := K)) (pv 0) (po_some (pe_op op_add (pv 1) pe_int)) po_none)))), ?_⟩
  rintro ⟨s, c, x⟩ ⟨hc, hl⟩
  have hc' : c < s.length := hc
  have hl' : s.length ≤ 60 := hl
  show StR K C _ (startD ["state", "cell", "thing"] [stD s, .int c, cD x]) (stD (s.set c x))
  refine sr_ret (ev_is (ev_op (ev_is (z := stD (s.take c ++ [x])) (ev_op (ev_is (z := stD (s.take c)) (en_sl (ev_var rfl) eo_none (eo_some (ev_var rfl))).toD (congrArg D.lst (st_cut_to (by omega)))) (ev_is (z := stD [x]) (en_lst (ea_cons (ev_var rfl) ea_nil) (by show 1 ≤ 100000; decide)).toD rfl) (R2N.toD (r2_cat ?l1))) st_cat) (ev_is (z := stD (s.drop (c + 1))) (en_sl (ev_var rfl) (eo_some (ev_is (z := .int ((c + 1 : Nat) : Int)) (ev_op (ev_var rfl) ev_int r2_Ii) (congrArg D.int (by omega)))) eo_none).toD (congrArg D.lst (st_cut_from (by omega)))) (R2N.toD (r2_cat ?l2))) ?eq)
  case l1 =>
    rw [List.length_map, List.length_map, List.length_take]
    show min c s.length + 1 ≤ 100000
    omega
  case l2 =>
    rw [List.length_map, List.length_map, List.length_append, List.length_take, List.length_drop]
    show min c s.length + 1 + _ ≤ 100000
    omega
  case eq =>
    rw [st_cat, set_cut hc']
theorem ev_lput {δ : Dl} {E : XK} {ta tb tc : TE} {s : List Ct} {c : Nat} {x : Ct} (ha : EvD K C ta δ (stD s)) (hb : EvD K C tb δ (.int (c : Int))) (hx : EvD K C tc δ (cD x)) (hc : c < s.length) (hl : s.length ≤ 60) : EvD K C (tCall (sp_lput K C) [] E (tCons ta (tCons tb (tCons tc tNil)))) δ (stD (s.set c x)) :=
  ev_callM (pre := fun a : List Ct × Nat × Ct => a.2.1 < a.1.length ∧ a.1.length ≤ 60) (enc := fun a => [stD a.1, .int a.2.1, cD a.2.2]) (out := fun a => stD (a.1.set a.2.1 a.2.2)) (s, c, x) (ea_cons ha (ea_cons hb (ea_cons hx ea_nil))) rfl ⟨hc, hl⟩
theorem get_st {δ : Dl} {ta tb : TE} {s : List Ct} {a : Nat} (h : EvD K C ta δ (stD s)) (g : EvD K C tb δ (.int (a : Int))) (ha : a < s.length) : EvD K C (tOp (rIxL K) ta tb) δ (cD (s.getD a .no)) :=
  ev_op h g (r2_ixL (by
    have e1 : s.getD a .no = s[a] := by rw [List.getD_eq_getElem?_getD, List.getElem?_eq_getElem ha]; rfl
    rw [e1]
    exact st_at ha))
theorem sc_law_behind_deed : FnScope ["state", "deed"] ["state", "deed"] (defScope (top 52)) := ⟨rfl, rfl, rfl, by decide +kernel, rfl, by decide +kernel, by decide +kernel⟩
theorem ok_law_behind_deed (D_law_put : DefOk P w K mg base "_law_put" 1 ["state", "cell", "thing"] (sp_lput K C)) (F : DefAt K mg "_law_behind_deed" ["state", "deed"] (top 52) f fd) : DefOk P w K mg base "_law_behind_deed" 2 ["state", "deed"] (sp_lbehind K C) := by
  refine okM F sc_law_behind_deed fun cdv A outer s H E hr => ⟨_, (pss_one (ps_ret (pe_def D_law_put (hr.mono (by first | decide | omega)) (pa_cons (pv 0) (pa_cons (pe_ix (x_tup (K := K)) (pv 1) pe_int (fun _ _ => rfl)) (pa_cons (pe_ifExp (pt_cmpR (o_eq (K := K) (by exact hr.units)) (pe_ix (x_tup (K := K)) (pv 1) pe_int (fun _ _ => rfl)) pe_str (nomark _)) (pe_tup (pa_cons pe_str (pa_cons (pe_ix (x_tup (K := K)) (pv 1) pe_int (fun _ _ => rfl)) pa_nil))) (pe_ix (x_list (K := K)) (pv 0) (pe_ix (x_tup (K := K)) (pv 1) pe_int (fun _ _ => rfl)) (fun _ _ => rfl))) pa_nil)))))), ?_⟩
  rintro ⟨s, d⟩ ⟨hd, hl⟩
  have hd : DdIn s.length d := hd
  have hl : s.length ≤ 60 := hl
  show StR K C _ (startD ["state", "deed"] [stD s, dD d]) (stD (behindM s d))
  cases d with
  | make b c => exact sr_ret (ev_lput (x := .new (b : Int)) (ev_var rfl) (dd_2 (d := .make b c) rfl) (ev_if (b := true) (dd_make (d := .make b c) rfl) (fun _ => (en_tup (ea_cons ev_str (ea_cons (dd_1 (d := .make b c) rfl) ea_nil)) (by show 2 ≤ 100000; decide)).toD) (fun h => by cases h)) hd hl)
  | copy a c => exact sr_ret (ev_lput (x := s.getD a .no) (ev_var rfl) (dd_2 (d := .copy a c) rfl) (ev_if (b := false) (dd_make (d := .copy a c) rfl) (fun h => by cases h) (fun _ => get_st (ev_var rfl) (dd_1 (d := .copy a c) rfl) hd.1)) hd.2 hl)
theorem sc_law_every_deed : FnScope ["recipe", "cells", "found", "cell", "block", "start"] ["recipe", "cells"] (defScope (top 53)) := ⟨rfl, rfl, rfl, by decide +kernel, rfl, by decide +kernel, by decide +kernel⟩
-- slots: recipe=0 cells=1 found=2 cell=3 block=4 start=5
theorem ok_law_every_deed (B : BFree mg) (F : DefAt K mg "_law_every_deed" ["recipe", "cells"] (top 53) f fd) : DefOk P w K mg base "_law_every_deed" 1 ["recipe", "cells"] (sp_levery K C) := by
  refine okM F sc_law_every_deed fun cdv A outer s H E hr => ⟨_, (pss_cons (ps_set (i := 2) sc_law_every_deed.nd rfl (.inl rfl) (pe_lst pa_nil)) (pss_cons (ps_for PassesOwn.never rfl (i_rng1 B (pa_cons (pv 1) pa_nil)) (pg_name (i := 3) sc_law_every_deed.nd rfl (.inr rfl)) (pss_cons (ps_set (i := 2) sc_law_every_deed.nd rfl (.inl rfl) (pe_op op_cat (pv 2) (pe_lc (own := [("block", 4)]) rfl sc_law_every_deed.nd (i_rng1 B (pa_cons (c_len (K := K) B (pa_cons (pe_ix (x_list (K := K)) (pv 0) pe_int (fun _ _ => rfl)) pa_nil)) pa_nil)) (blkOk_by (own := [("block", 4)]) (N := ["recipe", "cells", "found", "cell", "block", "start"]) (sc := (defScope (top 53))) (by decide +kernel)) (fun _ _ _ _ _ => pg_name (i := 4) sc_law_every_deed.nd rfl (.inl rfl)) (fun _ _ _ _ _ => pts_nil) (fun _ _ _ _ _ => (pe_tup (pa_cons pe_str (pa_cons (pv 4) (pa_cons (pv 3) pa_nil)))))))) (pss_one (ps_set (i := 2) sc_law_every_deed.nd rfl (.inl rfl) (pe_op op_cat (pv 2) (pe_lc (own := [("start", 5)]) rfl sc_law_every_deed.nd (i_rng1 B (pa_cons (pv 1) pa_nil)) (blkOk_by (own := [("start", 5)]) (N := ["recipe", "cells", "found", "cell", "block", "start"]) (sc := (defScope (top 53))) (by decide +kernel)) (fun _ _ _ _ _ => pg_name (i := 5) sc_law_every_deed.nd rfl (.inl rfl)) (fun _ _ _ _ _ => pts_nil) (fun _ _ _ _ _ => (pe_tup (pa_cons pe_str (pa_cons (pv 5) (pa_cons (pv 3) pa_nil))))))))))) (pss_one (ps_ret (pv 2))))), ?_⟩
  rintro ⟨m, rows, cells⟩ ⟨hr6, hc⟩
  have hr6 : rows.length ≤ 60 := hr6
  have hc : cells ≤ 60 := hc
  show StR K C _ (startD ["recipe", "cells", "found", "cell", "block", "start"] [recD m rows, .int cells]) (coD (everyM rows.length cells))
  let one := fun c : Nat => ((List.range rows.length).map fun b => Dd.make b c) ++ (List.range cells).map fun a => Dd.copy a c
  have tl : ∀ t, t ≤ cells → ((List.range t).flatMap one).length ≤ 7200 := fun t ht => by
    rw [List.length_flatMap]
    have key : ∀ l : List Nat, (l.map fun c => (one c).length).sum = l.length * (rows.length + cells) := by
      intro l
      induction l with
      | nil => simp
      | cons c l ih =>
        rw [List.map_cons, List.sum_cons, ih, List.length_cons, Nat.add_mul, Nat.one_mul]
        show (((List.range rows.length).map fun b => Dd.make b c) ++ (List.range cells).map fun a => Dd.copy a c).length + _ = _
        rw [List.length_append, List.length_map, List.length_map, List.length_range, List.length_range]
        omega
    rw [key, List.length_range]
    have := Nat.mul_le_mul (by omega : t ≤ 60) (by omega : rows.length + cells ≤ 120)
    omega
  refine sr_seq (sx_set (d := coD []) (en_lst ea_nil (by show 0 ≤ 100000; decide)).toD) ?_
  refine sr_seq (δ' := [some (recD m rows), some (.int cells), some (coD ((List.range cells).flatMap one)), none, none, none]) (sx_weak (sx_for (as := List.range cells) (g0 := fun (k : Nat) => D.int (0 + (k : Int))) (δs := fun t => [some (recD m rows), some (.int cells), some (coD ((List.range t).flatMap one)), none, none, none]) (ei_rng1 (j := (cells : Int)) (ea_cons (ev_var rfl) ea_nil) (by omega) (by omega)) (by walk_at "le") fun t c hc' => ⟨_, ega_name, ?body⟩) (by rw [List.length_range]; walk_at "le")) (sr_ret (ev_var rfl))
  case body =>
    obtain ⟨h1, h2⟩ := List.getElem?_eq_some_iff.mp hc'
    rw [List.length_range] at h1
    rw [List.getElem_range] at h2
    subst h2
    have l0 := tl t (by omega)
    have es : (List.range (t + 1)).flatMap one = ((List.range t).flatMap one ++ (List.range rows.length).map fun b => Dd.make b t) ++ (List.range cells).map fun a => Dd.copy a t := by
      rw [List.range_succ, List.flatMap_append, List.append_assoc]
      show _ ++ (one t ++ []) = _
      rw [List.append_nil]
    rw [es]
    refine sx_seq (sx_set (d := coD ((List.range t).flatMap one ++ (List.range rows.length).map fun b => Dd.make b t)) (ev_is (ev_op (ev_var rfl) (en_lc1 (as := List.range rows.length) (g0 := fun (k : Nat) => D.int (0 + (k : Int))) (f := fun b => dD (.make b t)) (ei_rng1 (j := (rows.length : Int)) (ea_cons (ev_is (ev_cb (ea_cons (rec_1 rfl) ea_nil) rc_lenL) (by rw [List.length_map])) ea_nil) (by omega) (by omega)) (fun a ha => eg_name (by decide)) (fun b hb => (en_tup (ea_cons ev_str (ea_cons (ev_is (ev_var rfl) (congrArg D.int (Int.zero_add _))) (ea_cons (ev_is (ev_var rfl) (congrArg D.int (Int.zero_add _))) ea_nil))) (by show 3 ≤ 100000; decide)).toD) (by rw [List.length_range]; omega)).toD (R2N.toD (r2_cat ?la))) ?ea)) ?_
    case la =>
      rw [List.length_map, List.length_map, List.length_range]
      omega
    case ea =>
      unfold coD
      rw [List.map_append, List.map_map]
      rfl
    refine sx_weak (sx_set (d := coD (((List.range t).flatMap one ++ (List.range rows.length).map fun b => Dd.make b t) ++ (List.range cells).map fun a => Dd.copy a t)) (ev_is (ev_op (ev_var rfl) (en_lc1 (as := List.range cells) (g0 := fun (k : Nat) => D.int (0 + (k : Int))) (f := fun b => dD (.copy b t)) (ei_rng1 (j := (cells : Int)) (ea_cons (ev_var rfl) ea_nil) (by omega) (by omega)) (fun a ha => eg_name (by decide)) (fun b hb => (en_tup (ea_cons ev_str (ea_cons (ev_is (ev_var rfl) (congrArg D.int (Int.zero_add _))) (ea_cons (ev_is (ev_var rfl) (congrArg D.int (Int.zero_add _))) ea_nil))) (by show 3 ≤ 100000; decide)).toD) (by rw [List.length_range]; omega)).toD (R2N.toD (r2_cat ?lb))) ?eb)) (by walk_at "le")
    case lb =>
      rw [List.length_map, List.length_map, List.length_append, List.length_map, List.length_range, List.length_range]
      omega
    case eb =>
      unfold coD
      rw [List.map_append, List.map_append, List.map_append, List.map_map, List.map_map]
      rfl
theorem sc_law_loose : FnScope ["recipe", "state", "deed", "is_there", "block"] ["recipe", "state", "deed"] (defScope (top 58)) := ⟨rfl, rfl, rfl, by decide +kernel, rfl, by decide +kernel, by decide +kernel⟩
-- slots: recipe=0 state=1 deed=2 is_there=3 block=4
theorem ok_law_loose (B : BFree mg) (D_law_put : DefOk P w K mg base "_law_put" 1 ["state", "cell", "thing"] (sp_lput K C)) (F : DefAt K mg "_law_loose" ["recipe", "state", "deed"] (top 58) f fd) : DefOk P w K mg base "_law_loose" 2 ["recipe", "state", "deed"] (sp_lloose K C) := by
  refine okM F sc_law_loose fun cdv A outer s H E hr => ⟨_, (pss_cons (ps_if (pt_cmpR (o_eq (K := K) (by exact hr.units)) (pe_ix (x_tup (K := K)) (pv 2) pe_int (fun _ _ => rfl)) pe_str (nomark _)) (pss_one (ps_ret (pe_def D_law_put (hr.mono (by first | decide | omega)) (pa_cons (pv 1) (pa_cons (pe_ix (x_tup (K := K)) (pv 2) pe_int (fun _ _ => rfl)) (pa_cons (pe_ix (x_list (K := K)) (pv 1) (pe_ix (x_tup (K := K)) (pv 2) pe_int (fun _ _ => rfl)) (fun _ _ => rfl)) pa_nil)))))) pss_nil) (pss_cons (ps_set (i := 3) sc_law_loose.nd rfl (.inl rfl) (c_all (K := K) B (pa_cons (pe_lc (own := [("block", 4)]) rfl sc_law_loose.nd (i_list (K := K) (pe_ix (x_list (K := K)) (pe_ix (x_list (K := K)) (pv 0) pe_int (fun _ _ => rfl)) (pe_ix (x_tup (K := K)) (pv 2) pe_int (fun _ _ => rfl)) (fun _ _ => rfl))) (blkOk_by (own := [("block", 4)]) (N := ["recipe", "state", "deed", "is_there", "block"]) (sc := (defScope (top 58))) (by decide +kernel)) (fun _ _ _ _ _ => pg_name (i := 4) sc_law_loose.nd rfl (.inl rfl)) (fun _ _ _ _ _ => pts_nil) (fun _ _ _ _ _ => (pe_cmpR (o_inD (K := K) hr) (pe_tup (pa_cons pe_str (pa_cons (pv 4) pa_nil))) (pv 1) (by rfl)))) pa_nil))) (pss_one (ps_ret (pe_def D_law_put (hr.mono (by first | decide | omega)) (pa_cons (pv 1) (pa_cons (pe_ix (x_tup (K := K)) (pv 2) pe_int (fun _ _ => rfl)) (pa_cons (pe_ifExp (pt_truth (pv 3) (by intro _; rfl)) (pe_tup (pa_cons pe_str (pa_cons (pe_ix (x_tup (K := K)) (pv 2) pe_int (fun _ _ => rfl)) pa_nil))) pe_non) pa_nil)))))))), ?_⟩
  rintro ⟨m, rows, s, d⟩ ⟨hv, m8, ok, hl⟩
  have hl : s.length ≤ 60 := hl
  have hv : ValidR m rows := hv
  have ok : DdOk rows.length s.length d := ok
  show StR K C _ (startD ["recipe", "state", "deed", "is_there", "block"] [recD m rows, stD s, dD d]) (stD (looseM rows s d))
  refine sr_guard (b := !d.isMake) (dd_copy rfl) (fun h => ?_) (fun h => ?_)
  · cases d with
    | make b c => cases h
    | copy a c => exact sr_ret (ev_lput (x := s.getD a .no) (ev_var rfl) (dd_2 (d := .copy a c) rfl) (get_st (ev_var rfl) (dd_1 (d := .copy a c) rfl) ok.1) ok.2 hl)
  · cases d with
    | copy a c => cases h
    | make b c =>
      have hb : b < rows.length := ok.1
      refine sr_seq (sx_set (d := .bl ((rowM rows b).all fun o => decide (Ct.old o ∈ s))) (ev_is (ev_cb (ea_cons (ev_is (z := .lst (dB ((rowM rows b).map fun o => decide (Ct.old o ∈ s)))) (en_lc1 (as := rowM rows b) (g0 := D.int) (f := fun o => .bl (decide (Ct.old o ∈ s))) (ei_list (ev_op (rec_1 rfl) (dd_1 (d := .make b c) rfl) (r2_ixL (rows_atC hb)))) (fun a ha => eg_name (by decide)) (fun o ho => ev_op (en_tup (ea_cons ev_str (ea_cons (ev_var rfl) ea_nil)) (by show 2 ≤ 100000; decide)).toD (ev_var rfl) (r2_inC (.old o) s)) (by have := row_len (rows := rows) (b := b) hv hb; omega)).toD (by unfold dB; rw [List.map_map]; rfl)) ea_nil) rc_all) (by rw [List.all_map]; rfl))) ?_
      refine sr_ret (ev_is (ev_lput (x := if ∀ o ∈ rowM rows b, Ct.old o ∈ s then .new (b : Int) else .no) (ev_var rfl) (dd_2 (d := .make b c) rfl) (ev_if (b := (rowM rows b).all fun o => decide (Ct.old o ∈ s)) (et_truB (ev_var rfl)) (fun h => ?yes) (fun h => ?no)) ok.2 hl) ?fin)
      case yes =>
        rw [if_pos (fun o ho => of_decide_eq_true (List.all_eq_true.mp h o ho))]
        exact (en_tup (ea_cons ev_str (ea_cons (dd_1 (d := .make b c) rfl) ea_nil)) (by show 2 ≤ 100000; decide)).toD
      case no =>
        rw [if_neg]
        · exact ev_non
        · intro z
          obtain ⟨o, ho, hn⟩ := List.all_eq_false.mp h
          exact hn (decide_eq_true (z o ho))
      case fin =>
        congr 2
        show s.set c (if ∀ o ∈ rowM rows b, Ct.old o ∈ s then .new (b : Int) else .no) = if ∀ o ∈ rowM rows b, Ct.old o ∈ s then s.set c (.new (b : Int)) else s.set c .no
        by_cases z : ∀ o ∈ rowM rows b, Ct.old o ∈ s
        · rw [if_pos z, if_pos z]
        · rw [if_neg z, if_neg z]
theorem ev_lloose {δ : Dl} {E : XK} {ta tb tc : TE} {m : Int} {rows : List (List Int)} {s : List Ct} {d : Dd} (ha : EvD K C ta δ (recD m rows)) (hb : EvD K C tb δ (stD s)) (hx : EvD K C tc δ (dD d)) (h : DvOk m rows s d) : EvD K C (tCall (sp_lloose K C) [] E (tCons ta (tCons tb (tCons tc tNil)))) δ (stD (looseM rows s d)) :=
  ev_callM (pre := fun a : Int × List (List Int) × List Ct × Dd => DvOk a.1 a.2.1 a.2.2.1 a.2.2.2) (enc := fun a => [recD a.1 a.2.1, stD a.2.2.1, dD a.2.2.2]) (out := fun a => stD (looseM a.2.1 a.2.2.1 a.2.2.2)) (m, rows, s, d) (ea_cons ha (ea_cons hb (ea_cons hx ea_nil))) rfl h
theorem sc_law_cut_deed : FnScope ["recipe", "state", "deed"] ["recipe", "state", "deed"] (defScope (top 59)) := ⟨rfl, rfl, rfl, by decide +kernel, rfl, by decide +kernel, by decide +kernel⟩
theorem ok_law_cut_deed (D_law_loose : DefOk P w K mg base "_law_loose" 2 ["recipe", "state", "deed"] (sp_lloose K C)) (D_law_put : DefOk P w K mg base "_law_put" 1 ["state", "cell", "thing"] (sp_lput K C)) (F : DefAt K mg "_law_cut_deed" ["recipe", "state", "deed"] (top 59) f fd) : DefOk P w K mg base "_law_cut_deed" 3 ["recipe", "state", "deed"] (sp_lcut K C) := by
  refine okM F sc_law_cut_deed fun cdv A outer s H E hr => ⟨_, (pss_one (ps_ret (pe_def D_law_loose (hr.mono (by first | decide | omega)) (pa_cons (pv 0) (pa_cons (pe_def D_law_put (hr.mono (by first | decide | omega)) (pa_cons (pv 1) (pa_cons (pe_ix (x_tup (K := K)) (pv 2) pe_int (fun _ _ => rfl)) (pa_cons pe_non pa_nil)))) (pa_cons (pv 2) pa_nil)))))), ?_⟩
  rintro ⟨m, rows, s, d⟩ ⟨hv, m8, ok, hl⟩
  have hl : s.length ≤ 60 := hl
  have ok : DdOk rows.length s.length d := ok
  show StR K C _ (startD ["recipe", "state", "deed"] [recD m rows, stD s, dD d]) (stD (looseM rows (cutM s d) d))
  have l1 : (cutM s d).length = s.length := cutM_len
  exact sr_ret (ev_lloose (ev_var rfl) (ev_lput (x := .no) (ev_var rfl) (dd_2 rfl) ev_non ok.in.cell hl) (ev_var rfl) ⟨hv, m8, by rw [l1]; exact ok, by rw [l1]; exact hl⟩)
theorem sc_law_day : FnScope ["recipe", "cells", "course", "breaks", "state", "at", "deed"] ["recipe", "cells", "course", "breaks"] (defScope (top 60)) := ⟨rfl, rfl, rfl, by decide +kernel, rfl, by decide +kernel, by decide +kernel⟩
-- slots: recipe=0 cells=1 course=2 breaks=3 state=4 at=5 deed=6
theorem ok_law_day (B : BFree mg) (D_law_begun : DefOk P w K mg base "_law_begun" 1 ["recipe", "cells"] (sp_lbegun K C)) (D_law_cut_deed : DefOk P w K mg base "_law_cut_deed" 3 ["recipe", "state", "deed"] (sp_lcut K C)) (D_law_loose : DefOk P w K mg base "_law_loose" 2 ["recipe", "state", "deed"] (sp_lloose K C)) (F : DefAt K mg "_law_day" ["recipe", "cells", "course", "breaks"] (top 60) f fd) : DefOk P w K mg base "_law_day" 4 ["recipe", "cells", "course", "breaks"] (sp_lday K C) := by
  refine okM F sc_law_day fun cdv A outer s H E hr => ⟨_, (pss_cons (ps_set (i := 4) sc_law_day.nd rfl (.inl rfl) (pe_def D_law_begun (hr.mono (by first | decide | omega)) (pa_cons (pv 0) (pa_cons (pv 1) pa_nil)))) (pss_cons (ps_for PassesOwn.never rfl (i_enum B (pa_cons (pv 2) pa_nil)) (g_tup (K := K) (n := 2) (pgs_cons (pg_name (i := 5) sc_law_day.nd rfl (.inl rfl)) (pgs_cons (pg_name (i := 6) sc_law_day.nd rfl (.inl rfl)) pgs_nil))) (pss_one (ps_set (i := 4) sc_law_day.nd rfl (.inl rfl) (pe_ifExp (pt_cmpR (o_in (K := K)) (pv 5) (pv 3) (by rfl)) (pe_def D_law_cut_deed (hr.mono (by first | decide | omega)) (pa_cons (pv 0) (pa_cons (pv 4) (pa_cons (pv 6) pa_nil)))) (pe_def D_law_loose (hr.mono (by first | decide | omega)) (pa_cons (pv 0) (pa_cons (pv 4) (pa_cons (pv 6) pa_nil)))))))) (pss_one (ps_ret (pv 4))))), ?_⟩
  rintro ⟨⟨m, rows, cells, co⟩, cs⟩ ⟨ok, cl⟩
  have ok : CoOk m rows cells co := ok
  have l : (begunM m.toNat cells).length = cells := begunM_len (by have := ok.dev.cm; have := ok.dev.val.1; omega)
  have c60 := ok.dev.c60
  show StR K C _ (startD ["recipe", "cells", "course", "breaks", "state", "at", "deed"] [recD m rows, .int cells, coD co, .lst (dI cs)]) (stD (dayM rows (begunM m.toNat cells) co cs))
  refine sr_seq (sx_set (d := stD (begunM m.toNat cells)) (ev_callM (pre := fun a : Int × List (List Int) × Nat => DevOk a.1 a.2.1 a.2.2) (enc := fun a => [recD a.1 a.2.1, .int a.2.2]) (out := fun a => stD (begunM a.1.toNat a.2.2)) (m, rows, cells) (ea_cons (ev_var rfl) (ea_cons (ev_var rfl) ea_nil)) rfl ok.dev)) ?_
  refine sr_seq (δ' := [some (recD m rows), some (.int cells), some (coD co), some (.lst (dI cs)), some (stD (dayM rows (begunM m.toNat cells) co cs)), none, none]) (sx_weak (sx_for (as := co.zipIdx) (g0 := fun (q : Dd × Nat) => D.tup [.int (q.2 : Int), dD q.1]) (δs := fun k => [some (recD m rows), some (.int cells), some (coD co), some (.lst (dI cs)), some (stD ((co.zipIdx.take k).foldl (dayStep rows cs) (begunM m.toNat cells))), none, none]) ?hI (by walk_at "le") (fun n q hq => ⟨_, ega_two (i := 5) (j := 6), ?body⟩)) ?le) (sr_ret (ev_var rfl))
  case le =>
    show LeD _ [_, _, _, _, some (stD ((co.zipIdx.take co.zipIdx.length).foldl _ _)), none, none]
    rw [List.take_length]
    walk_at "le"
  case hI =>
    have e : enuD (co.map dD) = co.zipIdx.map fun (q : Dd × Nat) => D.tup [.int (q.2 : Int), dD q.1] := by
      unfold enuD
      rw [List.zipIdx_map, List.map_map]
      rfl
    rw [← e]
    exact ei_enum (ev_var rfl)
  case body =>
    obtain ⟨d, k⟩ := q
    have hd : d ∈ co := List.fst_mem_of_mem_zipIdx (List.mem_of_getElem? hq)
    have et : co.zipIdx.take (n + 1) = co.zipIdx.take n ++ [(d, k)] := by rw [List.take_succ, hq]; rfl
    have l0 : ((co.zipIdx.take n).foldl (dayStep rows cs) (begunM m.toNat cells)).length = cells := by rw [dayTo_len, l]
    have ne : (co.zipIdx.take (n + 1)).foldl (dayStep rows cs) (begunM m.toNat cells) = dayStep rows cs ((co.zipIdx.take n).foldl (dayStep rows cs) (begunM m.toNat cells)) (d, k) := by
      rw [et, List.foldl_append]
      rfl
    rw [ne]
    generalize (co.zipIdx.take n).foldl (dayStep rows cs) (begunM m.toNat cells) = s1 at l0
    have dk := ok.all d hd
    have dv : DvOk m rows s1 d := ⟨ok.dev.val, ok.dev.m60, by rw [l0]; exact dk, by rw [l0]; exact c60⟩
    refine sx_weak (sx_set (d := stD (dayStep rows cs s1 (d, k))) (ev_if (b := decide ((k : Int) ∈ cs)) (et_B (ev_op (ev_var rfl) (ev_var rfl) r2_in)) (fun h => ?y) (fun h => ?n))) (by walk_at "le")
    case y =>
      unfold dayStep
      rw [if_pos (of_decide_eq_true h)]
      exact ev_callM (pre := fun a : Int × List (List Int) × List Ct × Dd => DvOk a.1 a.2.1 a.2.2.1 a.2.2.2) (enc := fun a => [recD a.1 a.2.1, stD a.2.2.1, dD a.2.2.2]) (out := fun a => stD (looseM a.2.1 (cutM a.2.2.1 a.2.2.2) a.2.2.2)) (m, rows, s1, d) (ea_cons (ev_var rfl) (ea_cons (ev_var rfl) (ea_cons (ev_var rfl) ea_nil))) rfl dv
    case n =>
      unfold dayStep
      rw [if_neg (of_decide_eq_false h)]
      exact ev_lloose (ev_var rfl) (ev_var rfl) (ev_var rfl) dv
end
end Zm


set_option Elab.async false
set_option linter.all false
set_option maxRecDepth 100000
set_option maxHeartbeats 4000000
set_option autoImplicit false
namespace Zm
open PySem PySem.Spec L2
/-! ### text that draws from the purse in slot j and appends to one's own list in slot i; what is known of the slots and the list is told by a promise -/
def But2 (a p : Addr) (H H' : Hp) : Prop := ∀ b u, b ≠ a → b ≠ p → H b = some u → H' b = some u
theorem But2.refl (a p : Addr) (H : Hp) : But2 a p H H := fun _ _ _ _ h => h
theorem But2.trans {a p : Addr} {H H1 H2 : Hp} (h : But2 a p H H1) (g : But2 a p H1 H2) : But2 a p H H2 := fun b u n1 n2 e => g b u n1 n2 (h b u n1 n2 e)
theorem But2.of {a p : Addr} {H H' : Hp} (h : But p H H') : But2 a p H H' := fun b u _ n e => h b u n e
theorem But2.ofS {a p : Addr} {H H' : Hp} (h : Same H H') : But2 a p H H' := fun b u _ _ e => h b u e
structure AtG (K : PySem.W.Frag) (C : Addr) (j i : Nat) (O : Addr → Bool) (H : Hp) (σ : L2.St) (δ : Dl) (p : Addr) (n : Nat) (a : Addr) (ds : List D) : Prop where
  jj : AtJ K C j O H σ δ p n
  ne : a ≠ p
  own : O a = true
  slot : σ[i]? = some (some (.ref a))
  here : ∃ xs, H a = some (.lst xs) ∧ Dats K C (hid O H) ds xs
def StG (K : PySem.W.Frag) (C : Addr) (j i : Nat) (ts : TS) (Φ Ψ : Dl → List D → Prop) (c : Nat) : Prop := ∀ O σ H p n a δ ds, AtG K C j i O H σ δ p n a ds → Φ δ ds → n + c ≤ 1000000 → ∀ Z : Ends, (∀ σ' H' δ' ds', But2 a p H H' → AtG K C j i O H' σ' δ' p (n + c) a ds' → Ψ δ' ds' → Z.nx σ' H') → ts Z σ H
/-- a test that draws, whatever it says -/
def EvJB (K : PySem.W.Frag) (C : Addr) (j : Nat) (tt : TT) (δ : Dl) (c : Nat) : Prop := ∀ O σ H p n, AtJ K C j O H σ δ p n → n + c ≤ 1000000 → ∀ Q : Bool → Hp → Prop, (∀ b H', But p H H' → PurseIs (n + c) H' p → Q b H') → tt σ H Q
section
variable {K : PySem.W.Frag} {C : Addr} {j i r : Nat} {O : Addr → Bool} {H H' : Hp} {σ : L2.St} {δ δ' : Dl} {p a : Addr} {n m c c1 c2 N : Nat} {ds : List D} {Φ Ψ Φ2 Ψ2 : Dl → List D → Prop} {ts ts' : TS} {te ta : TE} {tt : TT} {R : D → Prop} {d d0 : D}
theorem AtG.but (x : AtG K C j i O H σ δ p n a ds) (s : But p H H') (h : PurseIs m H' p) : AtG K C j i O H' σ δ p m a ds := ⟨x.jj.but s h, x.ne, x.own, x.slot, let ⟨xs, h1, h2⟩ := x.here; ⟨xs, s _ _ x.ne h1, h2.same (but_hid s x.jj.own)⟩⟩
theorem AtG.same (x : AtG K C j i O H σ δ p n a ds) (s : Same H H') : AtG K C j i O H' σ δ p n a ds := x.but (But.of s) (x.jj.purse.same s)
theorem AtG.toL (x : AtG K C j i O H σ δ p n a ds) : AtL K C i O H σ δ a ds := ⟨x.jj.at_, x.own, x.slot, x.here⟩
theorem AtG.mono (x : AtG K C j i O H σ δ p n a ds) (h : n ≤ m) : AtG K C j i O H σ δ p m a ds := ⟨⟨x.jj.at_, x.jj.own, x.jj.purse.mono h, x.jj.slot⟩, x.ne, x.own, x.slot, x.here⟩
theorem AtG.set {v : V} (x : AtG K C j i O H σ δ p n a ds) (hj : r ≠ j) (hi : r ≠ i) (hd : Dat K C (hid O H) d v) : AtG K C j i O H (σ.set r (some v)) (δ.set r (some d)) p n a ds := ⟨⟨⟨x.jj.at_.own, x.jj.at_.env.set r hd⟩, x.jj.own, x.jj.purse, by rw [List.getElem?_set_ne hj]; exact x.jj.slot⟩, x.ne, x.own, by rw [List.getElem?_set_ne hi]; exact x.slot, x.here⟩
theorem sg_imp (h : StG K C j i ts Φ Ψ c) (h1 : ∀ δ ds, Φ2 δ ds → Φ δ ds) (h2 : ∀ δ ds, Ψ δ ds → Ψ2 δ ds) (hc : c ≤ c1) : StG K C j i ts Φ2 Ψ2 c1 := fun O σ H p n a δ ds x f hn Z q => h O σ H p n a δ ds x (h1 _ _ f) (by omega) Z fun σ' H' δ' ds' s y g => q σ' H' δ' ds' s (y.mono (by omega)) (h2 _ _ g)
theorem sg_seq (h : StG K C j i ts Φ Ψ c1) (g : StG K C j i ts' Ψ Ψ2 c2) : StG K C j i (tSeq ts ts') Φ Ψ2 (c1 + c2) := fun O σ H p n a δ ds x f hn Z q => h O σ H p n a δ ds x f (by omega) { Z with nx := ts' Z } fun σ1 H1 δ1 ds1 s1 x1 f1 => g O σ1 H1 p _ a δ1 ds1 x1 f1 (by omega) Z fun σ2 H2 δ2 ds2 s2 x2 f2 => q σ2 H2 δ2 ds2 (s1.trans s2) (by rw [← Nat.add_assoc]; exact x2) f2
theorem sg_next (h : ∀ δ ds, Φ δ ds → Ψ δ ds) : StG K C j i tNext Φ Ψ 0 := fun O σ H p n a δ ds x f hn Z q => q σ H δ ds (But2.refl _ _ _) x (h _ _ f)
/-- for each state by itself -/
theorem sg_at (h : ∀ δ0 ds0, Φ δ0 ds0 → StG K C j i ts (fun δ ds => δ = δ0 ∧ ds = ds0) Ψ c) : StG K C j i ts Φ Ψ c := fun O σ H p n a δ ds x f hn Z q => h δ ds f O σ H p n a δ ds x ⟨rfl, rfl⟩ hn Z q
/-- x = te, te draws -/
theorem sg_setJ {δ0 : Dl} {ds0 : List D} (hj : r ≠ j) (hi : r ≠ i) (h : EvJ K C j te δ0 c R) (g : ∀ d, R d → Ψ (δ0.set r (some d)) ds0) : StG K C j i (tAsg te (gName r)) (fun δ ds => δ = δ0 ∧ ds = ds0) Ψ c := fun O σ H p n a δ ds x f hn Z q => by
  obtain ⟨rfl, rfl⟩ := f
  exact h O σ H p n x.jj hn _ fun v H1 d1 s1 p1 r1 hd1 => q _ H1 _ _ (But2.of s1) ((x.but s1 p1).set hj hi hd1) (g d1 r1)
theorem sg_setD {δ0 : Dl} {ds0 : List D} (hj : r ≠ j) (hi : r ≠ i) (h : EvD K C te δ0 d) (g : Ψ (δ0.set r (some d)) ds0) : StG K C j i (tAsg te (gName r)) (fun δ ds => δ = δ0 ∧ ds = ds0) Ψ 0 := fun O σ H p n a δ ds x f hn Z q => by
  obtain ⟨rfl, rfl⟩ := f
  exact h O σ H x.jj.at_ _ fun v H1 s1 hd1 => q _ H1 _ _ (But2.ofS s1) ((x.same s1).set hj hi hd1) g
theorem sg_ifD {δ0 : Dl} {ds0 : List D} {b : Bool} (h : EvT K C tt δ0 b) (h1 : b = true → StG K C j i ts (fun δ ds => δ = δ0 ∧ ds = ds0) Ψ c) (h2 : b = false → StG K C j i ts' (fun δ ds => δ = δ0 ∧ ds = ds0) Ψ c) : StG K C j i (tIfS tt ts ts') (fun δ ds => δ = δ0 ∧ ds = ds0) Ψ c := fun O σ H p n a δ ds x f hn Z q => by
  obtain ⟨rfl, rfl⟩ := f
  refine h O σ H x.jj.at_ _ fun H1 s1 => ?_
  cases b with
  | true => exact h1 rfl O σ H1 p n a _ _ (x.same s1) ⟨rfl, rfl⟩ hn Z fun σ' H' δ' ds' s y g => q σ' H' δ' ds' ((But2.ofS s1).trans s) y g
  | false => exact h2 rfl O σ H1 p n a _ _ (x.same s1) ⟨rfl, rfl⟩ hn Z fun σ' H' δ' ds' s y g => q σ' H' δ' ds' ((But2.ofS s1).trans s) y g
theorem sg_ifB {δ0 : Dl} {ds0 : List D} (h : EvJB K C j tt δ0 c1) (h1 : StG K C j i ts (fun δ ds => δ = δ0 ∧ ds = ds0) Ψ c2) (h2 : StG K C j i ts' (fun δ ds => δ = δ0 ∧ ds = ds0) Ψ c2) : StG K C j i (tIfS tt ts ts') (fun δ ds => δ = δ0 ∧ ds = ds0) Ψ (c1 + c2) := fun O σ H p n a δ ds x f hn Z q => by
  obtain ⟨rfl, rfl⟩ := f
  refine h O σ H p n x.jj (by omega) _ fun b H1 s1 p1 => ?_
  cases b with
  | true => exact h1 O σ H1 p _ a _ _ (x.but s1 p1) ⟨rfl, rfl⟩ (by omega) Z fun σ' H' δ' ds' s y g => q σ' H' δ' ds' ((But2.of s1).trans s) (by rw [← Nat.add_assoc]; exact y) g
  | false => exact h2 O σ H1 p _ a _ _ (x.but s1 p1) ⟨rfl, rfl⟩ (by omega) Z fun σ' H' δ' ds' s y g => q σ' H' δ' ds' ((But2.of s1).trans s) (by rw [← Nat.add_assoc]; exact y) g
/-- x.append(te) -/
theorem sg_app {δ0 : Dl} {ds0 : List D} {e : D} (hl : ds0.length < 100000) (hv : EvD K C te δ0 e) (g : Ψ δ0 (ds0 ++ [e])) : StG K C j i (tDrop (tBM K "list" rAppend (tVar i) (tCons te tNil))) (fun δ ds => δ = δ0 ∧ ds = ds0) Ψ 0 := fun O σ H p n a δ ds x f hn Z q => by
  obtain ⟨rfl, rfl⟩ := f
  obtain ⟨xs0, h0, _⟩ := x.here
  refine ⟨.ref a, x.slot, .inl ⟨rfl, xs0, .inl (.inl h0)⟩, hv O σ H x.jj.at_ _ fun v H1 s1 d1 => ?_⟩
  have x1 := x.same s1
  obtain ⟨xs, h1, h2⟩ := x1.here
  refine ⟨a, xs, v, rfl, rfl, h1, by rw [h2.length]; exact Nat.lt_of_lt_of_le hl (by decide), ?_⟩
  have eh : hid O (upd H1 a (.lst (xs ++ [v]))) = hid O H1 := hid_upd x.own
  exact q σ _ _ _ (fun b u n1 n2 e => by rw [upd_ne n1]; exact s1 _ _ e) ⟨⟨⟨x1.jj.at_.own.upd trivial, by rw [eh]; exact x1.jj.at_.env⟩, x.jj.own, x1.jj.purse.upd x.ne, x.jj.slot⟩, x.ne, x.own, x.slot, xs ++ [v], upd_same, by rw [eh]; exact h2.append (.one d1)⟩ g
theorem but2_hid (s : But2 a p H H') (ha : O a = true) (hp : O p = true) : Same (hid O H) (hid O H') := fun b u e => by
  unfold hid at e ⊢
  by_cases h : O b = true
  · rw [if_pos h] at e
    cases e
  · rw [if_neg h] at e ⊢
    exact s b u (fun z => h (by rw [z]; exact ha)) (fun z => h (by rw [z]; exact hp)) e
/-- for x in range(a drawn number) -/
theorem sg_forR {δ0 : Dl} {ds0 : List D} {Φs : Nat → Dl → List D → Prop} {tb : TS} (hj : r ≠ j) (hi : r ≠ i) (h : EvJ K C j ta δ0 c1 (fun d => ∃ k : Nat, d = .int (k : Int) ∧ k ≤ N)) (hN : N ≤ 1000) (h0 : Φs 0 δ0 ds0)
    (hB : ∀ k, k < N → ∀ δ1 ds1, Φs k δ1 ds1 → StG K C j i tb (fun δ ds => δ = δ1.set r (some (.int (0 + (k : Int)))) ∧ ds = ds1) (Φs (k + 1)) c) : StG K C j i (tFor (iRng1 (tCons ta tNil)) (gName r) tb) (fun δ ds => δ = δ0 ∧ ds = ds0) (fun δ ds => ∃ k, k ≤ N ∧ Φs k δ ds) (c1 + N * c) := fun O σ H p n a δ ds x f hn Z q => by
  obtain ⟨rfl, rfl⟩ := f
  refine h O σ H p n x.jj (by omega) _ fun v H1 d b1 p1 r1 hd => ?_
  obtain ⟨len, rfl, hlen⟩ := r1
  rw [dat_int.mp hd]
  refine ⟨(len : Int), rfl, by omega, by omega, ?_⟩
  have x1 := x.but b1 p1
  have w : WalkD K C O H1 _ (rngD 0 ((len : Int)).toNat) := walk_rng
  have wl : (rngD 0 ((len : Int)).toNat).length = len := by
    unfold rngD
    rw [List.length_map, List.length_range]
    omega
  refine ⟨fun k m σ2 H2 => m = len - k ∧ k ≤ len ∧ But2 a p H1 H2 ∧ ∃ δ2 ds2, AtG K C j i O H2 σ2 δ2 p (n + c1 + k * c) a ds2 ∧ Φs k δ2 ds2, ⟨len, by omega, Nat.zero_le _, But2.refl _ _ _, δ, ds, by rw [Nat.zero_mul]; exact x1, h0⟩, ?_⟩
  rintro k m σ2 H2 ⟨rfl, hk, s2, δ2, ds2, x2, f2⟩
  have hb3 : len * c ≤ N * c := Nat.mul_le_mul_right _ hlen
  by_cases hlt : k < len
  · have hb : (k + 1) * c ≤ len * c := Nat.mul_le_mul_right _ hlt
    have hb2 : (k + 1) * c = k * c + c := Nat.succ_mul _ _
    refine .inr ⟨w.go _ k H2 (but2_hid s2 x.own x.jj.own) x2.jj.at_.own (by rw [wl]; exact hlt), fun σ3 H3 => k + 1 ≤ len ∧ But2 a p H1 H3 ∧ ∃ δ3 ds3, AtG K C j i O H3 σ3 δ3 p (n + c1 + (k + 1) * c) a ds3 ∧ Φs (k + 1) δ3 ds3, fun σ3 H3 hN => ⟨_, by omega, rfl, hN⟩, fun y H3 hy => ?_⟩
    have hia : (rngD 0 ((len : Int)).toNat)[k]? = some (.int (0 + (k : Int))) := by
      unfold rngD
      rw [List.getElem?_map, List.getElem?_range (by omega)]
      rfl
    obtain ⟨s3, d3⟩ := w.yld _ k H2 y H3 _ (but2_hid s2 x.own x.jj.own) x2.jj.at_.own hia hy
    refine hB k (by omega) δ2 ds2 f2 O (σ2.set r (some y)) H3 p _ a _ _ ((x2.same s3).set hj hi d3) ⟨rfl, rfl⟩ (by omega) _ fun σ4 H4 δ4 ds4 s4 x4 f4 => ?_
    have e : n + c1 + k * c + c = n + c1 + (k + 1) * c := by omega
    exact ⟨hlt, (s2.trans (But2.ofS s3)).trans s4, δ4, ds4, by rw [← e]; exact x4, f4⟩
  · have e : k = len := by omega
    subst e
    refine .inl ⟨w.stop _ H2 (but2_hid s2 x.own x.jj.own) x2.jj.at_.own |> fun z => by rw [wl] at z; exact z, q σ2 H2 δ2 ds2 ((But2.of b1).trans s2) (x2.mono (by omega)) ⟨k, hlen, f2⟩⟩
/-- x, y = te, []; ..; return y -/
theorem sp_own (ir : r ≠ i) (hi0 : i ≠ 0) (hr0 : r ≠ 0) (hl : i < δ.length) (h : EvD K C te δ d0) (g : StG K C 0 i ts (fun δ' ds => δ' = (δ.set r (some d0)).set i none ∧ ds = []) Ψ c) (hR : ∀ δ' ds, Ψ δ' ds → R (.lst ds)) : StP K C (tSeq (tPar r i (tCons te (tCons (tLst tNil) tNil))) (tSeq ts (tRet (tVar i)))) δ c R := fun O σ H p n x hn Z q => h O σ H x.at_ _ fun v H1 s1 d1 => by
  refine ⟨by show 0 ≤ sizeLine; decide, fun a fr => ⟨v, .ref a, rfl, ?_⟩⟩
  have pu1 := x.purse.same s1
  have ne : a ≠ p := fun z => by
    rw [z] at fr
    exact pu1.some fr
  have frH : H a = none := back_none s1 fr
  have o1 := x.at_.own.same s1
  have sm : Same (hid O H1) (hid (addO O a) (upd H1 a (.lst []))) := (add_fresh fr).trans (same_hid (same_new fr))
  have x1 : AtG K C 0 i (addO O a) (upd H1 a (.lst [])) ((σ.set r (some v)).set i (some (.ref a))) ((δ.set r (some d0)).set i none) p n a [] := by
    refine ⟨⟨⟨(o1.same (same_new fr)).add ⟨_, upd_same, trivial⟩, ?_⟩, by unfold addO; rw [x.own]; rfl, pu1.same (same_new fr), by rw [List.getElem?_set_ne hi0, List.getElem?_set_ne hr0]; exact x.slot⟩, ne, by unfold addO; simp, List.getElem?_set_self (by rw [List.length_set, x.at_.env.1]; exact hl), [], upd_same, .nil⟩
    exact (((x.at_.env.same (same_hid s1)).same sm).set r (d1.same sm)).unset (some (.ref a)) i
  refine g _ _ _ p n a _ _ x1 ⟨rfl, rfl⟩ hn _ fun σ' H' δ' ds' s2 x2 f2 => ?_
  obtain ⟨xs, k1, k2⟩ := x2.here
  refine ⟨.ref a, x2.slot, q (.ref a) H' (.lst ds') (fun b u nb e => s2 b u (fun z => by rw [z, frH] at e; cases e) nb (same_new fr b u (s1 b u e))) x2.jj.purse (hR _ _ f2) (dat_lst_iff.mpr ⟨a, xs, rfl, ?_, k2.same add_le⟩)⟩
  unfold hid
  rw [if_neg (fun z => x.at_.own a z frH)]
  exact k1
/-- .. the tuple is made first -/
theorem sp_ownT (ir : r ≠ i) (hi0 : i ≠ 0) (hr0 : r ≠ 0) (hl : i < δ.length) (h : EvD K C te δ d0) (g : StG K C 0 i ts (fun δ' ds => δ' = (δ.set r (some d0)).set i none ∧ ds = []) Ψ c) (hR : ∀ δ' ds, Ψ δ' ds → R (.lst ds)) : StP K C (tSeq (tAsg (tTup (tCons te (tCons (tLst tNil) tNil))) (gTup K 2 (gCons (gName r) (gCons (gName i) gNil)))) (tSeq ts (tRet (tVar i)))) δ c R := fun O σ H p n x hn Z q => h O σ H x.at_ _ fun v H1 s1 d1 => by
  refine ⟨by show 0 ≤ sizeLine; decide, fun a fr => ⟨by show 2 ≤ sizeLine; decide, fun T frT => ?_⟩⟩
  have pu1 := x.purse.same s1
  have ne : a ≠ p := fun z => by
    rw [z] at fr
    exact pu1.some fr
  have nT : a ≠ T := fun z => by
    rw [z] at frT
    rw [upd_same] at frT
    cases frT
  have frH : H a = none := back_none s1 fr
  have o1 := x.at_.own.same s1
  have s2 : Same H1 (upd H1 a (.lst [])) := same_new fr
  have s3 : Same (upd H1 a (.lst [])) (upd (upd H1 a (.lst [])) T (.tup [v, .ref a])) := same_new frT
  have s23 := s2.trans s3
  have ea : upd (upd H1 a (.lst [])) T (.tup [v, .ref a]) a = some (.lst []) := s3 _ _ upd_same
  have sm : Same (hid O H1) (hid (addO O a) (upd (upd H1 a (.lst [])) T (.tup [v, .ref a]))) := (add_fresh fr).trans (same_hid s23)
  refine ⟨T, [v, .ref a], rfl, .inl (.inl upd_same), rfl, v, [.ref a], rfl, .ref a, [], rfl, rfl, ?_⟩
  have x1 : AtG K C 0 i (addO O a) (upd (upd H1 a (.lst [])) T (.tup [v, .ref a])) ((σ.set r (some v)).set i (some (.ref a))) ((δ.set r (some d0)).set i none) p n a [] := by
    refine ⟨⟨⟨(o1.same s23).add ⟨_, ea, trivial⟩, ?_⟩, by unfold addO; rw [x.own]; rfl, pu1.same s23, by rw [List.getElem?_set_ne hi0, List.getElem?_set_ne hr0]; exact x.slot⟩, ne, by unfold addO; simp, List.getElem?_set_self (by rw [List.length_set, x.at_.env.1]; exact hl), [], ea, .nil⟩
    exact (((x.at_.env.same (same_hid s1)).same sm).set r (d1.same sm)).unset (some (.ref a)) i
  refine g _ _ _ p n a _ _ x1 ⟨rfl, rfl⟩ hn _ fun σ' H' δ' ds' s4 x2 f2 => ?_
  obtain ⟨xs, k1, k2⟩ := x2.here
  refine ⟨.ref a, x2.slot, q (.ref a) H' (.lst ds') (fun b u nb e => s4 b u (fun z => by rw [z, frH] at e; cases e) nb (s23 b u (s1 b u e))) x2.jj.purse (hR _ _ f2) (dat_lst_iff.mpr ⟨a, xs, rfl, ?_, k2.same add_le⟩)⟩
  unfold hid
  rw [if_neg (fun z => x.at_.own a z frH)]
  exact k1
theorem ej_p (h : EvP K C te δ c R) : EvJ K C 0 te δ c R := fun O σ H p n x hn Q q => h O σ H p n ⟨x.at_, x.own, x.purse, x.slot⟩ hn Q q
theorem ejb_p {B : Bool → Prop} (h : EvPT K C tt δ c B) : EvJB K C 0 tt δ c := fun O σ H p n x hn Q q => h O σ H p n ⟨x.at_, x.own, x.purse, x.slot⟩ hn Q fun b H' s pu _ => q b H' s pu
theorem ept_any {k : Int} {g : Int → Int → Bool} (h : EvP K C te δ c (fun d => ∃ i, d = .int i)) : EvPT K C (tB (tOp (rI0 fun i j => .bl (g i j)) te (tC (.int k)))) δ c (fun _ => True) := fun O σ H p n x hn Q q => h O σ H p n x hn _ fun v H1 d s1 p1 r1 hd => by
  obtain ⟨i, rfl⟩ := r1
  rw [dat_int.mp hd]
  exact ⟨i, k, rfl, rfl, g i k, rfl, q _ H1 s1 p1 trivial⟩
theorem sg_le {δ0 δ1 : Dl} {ds0 : List D} (h : StG K C j i ts (fun δ ds => δ = δ0 ∧ ds = ds0) Ψ c) (l : LeD δ0 δ1) : StG K C j i ts (fun δ ds => δ = δ1 ∧ ds = ds0) Ψ c := fun O σ H p n a δ ds x f hn Z q => by
  obtain ⟨rfl, rfl⟩ := f
  exact h O σ H p n a δ0 ds ⟨⟨x.jj.at_.weak l, x.jj.own, x.jj.purse, x.jj.slot⟩, x.ne, x.own, x.slot, x.here⟩ ⟨rfl, rfl⟩ hn Z q
theorem sp_guardB {B : Bool → Prop} (h : EvPT K C tt δ c1 B) (h1 : StP K C ts δ c2 R) (h2 : StP K C ts' δ c2 R) : StP K C (tSeq (tIfS tt ts tNext) ts') δ (c1 + c2) R := fun O σ H p n x hn Z q => h O σ H p n x (by omega) _ fun b H1 s1 p1 _ => by
  have e : n + c1 + c2 = n + (c1 + c2) := by omega
  cases b with
  | true => exact h1 O σ H1 p _ (x.but s1 p1) (by omega) { Z with nx := ts' Z } fun v H2 d s2 p2 r hd => q v H2 d (s1.trans s2) (by rw [← e]; exact p2) r hd
  | false => exact h2 O σ H1 p _ (x.but s1 p1) (by omega) Z fun v H2 d s2 p2 r hd => q v H2 d (s1.trans s2) (by rw [← e]; exact p2) r hd
theorem ept_andT {t u : TT} {B : Bool → Prop} (h1 : EvT K C t δ true) (h2 : EvPT K C u δ c B) : EvPT K C (tAnd t u) δ c B := fun O σ H p n x hn Q q => h1 O σ H x.at_ _ fun H' s => h2 O σ H' p n (x.but (But.of s) (x.purse.same s)) hn Q fun b H2 s2 p2 hb => q b H2 ((But.of s).trans s2) p2 hb
end
/-! ### defs that draw, told by a model -/
section
variable (K : PySem.W.Frag) (C : Addr) {A : Type}
def SpPM (pre : A → Prop) (enc : A → List D) (c : Nat) (R : A → D → Prop) (m : Nat) : Sp := fun vs H Q _ => vs.length = m + 1 ∧ ∃ O p n a ws, vs = .ref p :: ws ∧ OIn O H ∧ O p = true ∧ PurseIs n H p ∧ n + c ≤ 1000000 ∧ Dats K C (hid O H) (enc a) ws ∧ pre a ∧
  ∀ v H' d, But p H H' → PurseIs (n + c) H' p → R a d → Dat K C (hid O H') d v → Q v H'
end
section
variable {K : PySem.W.Frag} {C : Addr} {A : Type} {δ : Dl} {tr : TA} {E : XK} {pre : A → Prop} {enc : A → List D} {R : A → D → Prop} {c m : Nat}
theorem ej_callPM {j : Nat} (a : A) (ha : EvA K C tr δ (enc a)) (hn : (enc a).length = m) (hp : pre a) : EvJ K C j (tCall (SpPM K C pre enc c R m) [] E (tCons (tVar j) tr)) δ c (R a) := fun O σ H p n x hn2 Q q =>
  ⟨_, x.slot, ha O σ H x.at_ _ fun vs H1 s1 d1 => by
    show SpPM K C pre enc c R m ((V.ref p :: vs) ++ []) H1 Q E
    rw [List.append_nil]
    exact ⟨by rw [List.length_cons, d1.length, hn], O, p, n, a, vs, rfl, x.at_.own.same s1, x.own, x.purse.same s1, hn2, d1, hp, fun v H' d b pu r hd => q v H' d ((But.of s1).trans b) pu r hd⟩⟩
theorem ep_callPM (a : A) (ha : EvA K C tr δ (enc a)) (hn : (enc a).length = m) (hp : pre a) : EvP K C (tCall (SpPM K C pre enc c R m) [] E (tCons (tVar 0) tr)) δ c (R a) := fun O σ H p n x hn2 Q q => ej_callPM (j := 0) a ha hn hp O σ H p n ⟨x.at_, x.own, x.purse, x.slot⟩ hn2 Q q
end
section
open PyProof.Rows
variable {P : Program} {w : World} {K : PySem.W.Frag} {C : Addr} {mg : Str → Option Value} {base : Heap} {x : Str} {k : Nat} {ps N : List Str} {st : Stmt} {fa : Addr} {fd : FuncData} {A : Type} {pre : A → Prop} {enc : A → List D} {c m : Nat} {R : A → D → Prop}
theorem okPM (F : DefAt K mg x ps st fa fd) (S : FnScope N ps (defScope st)) (hm : ps.length = m + 1) (hl : ∀ a, (enc a).length = m)
    (hbody : ∀ (cdv : Value) (A' : Around) (outer : List Env) (s : Shared) (H : Hp) (E : XK), Room k (A'.deeper (envOfC x (defScope st) s.heap.objs.size fa cdv)) →
      ∃ t, PSs (cxOf CX0 P w K mg base N x (defScope st) fa cdv A' outer s H E).nox (defBody st) t ∧ ∀ a, pre a → StP K C t (none :: ((enc a).map some ++ List.replicate (N.length - (m + 1)) none)) c (R a)) : DefOk P w K mg base x (k + 1) ps (SpPM K C pre enc c R m) := by
  refine F.ok S (fun vs H Q E h => by rw [h.1, hm]) (fun cdv A' outer s H vs Q E hr h => ?_)
  obtain ⟨t, h1, h2⟩ := hbody cdv A' outer s H E hr
  obtain ⟨hl', O, p, n, a, ws, rfl, o, op, pu, hn, hd, hp, hq⟩ := h
  have hlm : (enc a).length = m := hl a
  refine ⟨t, h1, h2 a hp O _ H p n ⟨⟨o, ?_, fun i d e => ?_⟩, op, pu, ?_⟩ hn _ fun v H' d b pu r hd => hq v H' d b pu r hd⟩
  · have e := (at_start (N := N) o (Dats.cons (d := .raw (.ref p)) (dat_raw.mpr rfl) hd)).env.1
    rw [e]
    unfold startD
    simp only [List.length_append, List.length_cons, List.length_map, List.length_replicate, hlm]
    omega
  · have a' := at_start (N := N) o (Dats.cons (d := .raw (.ref p)) (dat_raw.mpr rfl) hd)
    cases i with
    | zero => cases e
    | succ i =>
      refine a'.env.2 (i + 1) d ?_
      unfold startD
      rw [List.map_cons, List.cons_append, List.getElem?_cons_succ, List.length_cons, hlm]
      exact e
  · unfold L2.start
    rfl
end
end Zm


set_option Elab.async false
set_option linter.all false
set_option maxRecDepth 100000
set_option maxHeartbeats 4000000
set_option autoImplicit false
namespace Zm
open PySem PySem.Spec L2
local macro_rules | `(tactic| walk_at "le") => `(tactic| first | exact le0 | (refine leS ?_; walk_at "le") | (refine leN ?_; walk_at "le"))
abbrev encRC (a : Int × List (List Int) × Nat) : List D := [recD a.1 a.2.1, .int a.2.2]
abbrev R_dd (a : Int × List (List Int) × Nat) (d : D) : Prop := ∃ x : Dd, d = dD x ∧ DdOk a.2.1.length a.2.2 x
abbrev sp_ldrawn (K : PySem.W.Frag) (C : Addr) : Sp := SpPM K C (fun a : Int × List (List Int) × Nat => 1 ≤ a.2.1.length ∧ a.2.1.length ≤ 60 ∧ 1 ≤ a.2.2 ∧ a.2.2 ≤ 60) encRC 3 R_dd 2
structure LdOk (m : Int) (rows : List (List Int)) (s : List Ct) : Prop where
  val : ValidR m rows
  m60 : m ≤ 60
  n60 : rows.length ≤ 60
  s60 : s.length ≤ 60
abbrev R_rd (a : Int × List (List Int) × List Ct) (d : D) : Prop := d = .non ∨ ∃ x : Dd, d = dD x ∧ DdOk a.2.1.length a.2.2.length x ∧ wrongs a.2.1 a.2.2 x = []
abbrev sp_lright_deed (K : PySem.W.Frag) (C : Addr) : Sp := SpPM K C (fun a : Int × List (List Int) × List Ct => LdOk a.1 a.2.1 a.2.2) (fun a => [recD a.1 a.2.1, stD a.2.2]) 2 R_rd 2
abbrev encRCM (a : Int × List (List Int) × Nat × Nat) : List D := [recD a.1 a.2.1, .int a.2.2.1, .int a.2.2.2]
abbrev R_rc (a : Int × List (List Int) × Nat × Nat) (d : D) : Prop := ∃ co : List Dd, d = coD co ∧ co.length ≤ a.2.2.2 ∧ (∀ x ∈ co, DdOk a.2.1.length a.2.2.1 x) ∧ RightC a.2.1 (begunM a.1.toNat a.2.2.1) co
abbrev R_lc (a : Int × List (List Int) × Nat × Nat) (d : D) : Prop := ∃ co : List Dd, d = coD co ∧ co.length ≤ a.2.2.2 ∧ (∀ x ∈ co, DdOk a.2.1.length a.2.2.1 x)
structure LcOk (m : Int) (rows : List (List Int)) (cells most : Nat) : Prop where
  dev : DevOk m rows cells
  n60 : rows.length ≤ 60
  most : 1 ≤ most ∧ most ≤ 20
abbrev sp_lright_course (K : PySem.W.Frag) (C : Addr) : Sp := SpPM K C (fun a : Int × List (List Int) × Nat × Nat => LcOk a.1 a.2.1 a.2.2.1 a.2.2.2) encRCM 100 R_rc 3
abbrev sp_lloose_course (K : PySem.W.Frag) (C : Addr) : Sp := SpPM K C (fun a : Int × List (List Int) × Nat × Nat => LcOk a.1 a.2.1 a.2.2.1 a.2.2.2) encRCM 200 R_lc 3
theorem shN_wrongs {rows : List (List Int)} {s : List Ct} {d : Dd} : ShN 2 (.lst (wrongs rows s d)) := by
  have nl : ShN 0 (.str sLacks) := shN_lit (by decide +kernel) (by decide +kernel)
  have nn : ShN 0 (.str ("nothing" : Str)) := shN_lit (by decide +kernel) (by decide +kernel)
  have ns : ShN 0 (.str ("same" : Str)) := shN_lit (by decide +kernel) (by decide +kernel)
  have one : ∀ {e : D}, ShN 0 e → ShN 1 (.tup [e]) := fun h => shN_tup fun x hx => by rw [List.mem_singleton.mp hx]; exact h
  refine shN_lst fun e he => ?_
  cases d with
  | make b c =>
    obtain ⟨o, _, rfl⟩ := List.mem_map.mp he
    exact shN_two nl shN_int
  | copy a c =>
    rcases List.mem_append.mp he with he | he
    · split at he
      · rw [List.mem_singleton.mp he]
        exact one nn
      · cases he
    · split at he
      · rw [List.mem_singleton.mp he]
        exact one ns
      · cases he
theorem eqD_emp {ds : List D} : eqD (.lst ds) (.lst []) = ds.isEmpty := by
  rw [eqD_lst]
  cases ds with
  | nil => exact eqD_nil
  | cons d ds =>
    rw [toPys, toPys, PyData.eqvAll]
    rfl
theorem shp_emp : shp (.lst []) = true := (shN_lst (n := 0) fun d hd => by cases hd).shp (by decide)
section
variable {P : Program} {w : World} {K : PySem.W.Frag} {mg : Str → Option Value} {base : Heap} {f C : Addr} {fd : FuncData}
theorem ev_lenRows {δ : Dl} {i : Nat} {m : Int} {rows : List (List Int)} (h : δ[i]? = some (some (recD m rows))) : EvD K C (tCB (fun xs H Q => ∃ p ys, xs = [V.ref p] ∧ (SqL K H p ys ∨ SqT K H p ys) ∧ Q (.int ys.length) H) (tCons (tOp (rIxL K) (tVar i) (tC (.int 1))) tNil)) δ (.int (rows.length : Int)) := ev_is (ev_cb (ea_cons (rec_1 h) ea_nil) rc_lenL) (by rw [List.length_map])
theorem ep_nat {δ : Dl} {E : XK} {te : TE} {n : Nat} (h : EvD K C te δ (.int (n : Int))) (h0 : 0 < n) (h1 : n < 1000000) : EvP K C (tCall spDraw [] E (tCons (tVar 0) (tCons te tNil))) δ 1 (fun d => ∃ k : Nat, d = .int (k : Int) ∧ k < n) := ep_imp (ep_draw h (by omega) (by omega)) (fun d hd => by
  obtain ⟨i, rfl, i0, i1⟩ := hd
  obtain ⟨k, rfl⟩ := Int.eq_ofNat_of_zero_le i0
  exact ⟨k, rfl, by omega⟩) (Nat.le_refl _)
theorem sc_law_drawn_deed : FnScope ["purse", "recipe", "cells"] ["purse", "recipe", "cells"] (defScope (top 54)) := ⟨rfl, rfl, rfl, by decide +kernel, rfl, by decide +kernel, by decide +kernel⟩
theorem ok_law_drawn_deed (B : BFree mg) (D_law_draw : DefOk P w K mg base "_law_draw" 2 ["purse", "many"] spDraw) (F : DefAt K mg "_law_drawn_deed" ["purse", "recipe", "cells"] (top 54) f fd) : DefOk P w K mg base "_law_drawn_deed" 3 ["purse", "recipe", "cells"] (sp_ldrawn K C) := by
  refine okPM F sc_law_drawn_deed rfl (fun _ => rfl) fun cdv A outer s H E hr => ⟨_, (pss_cons (ps_if (pt_cmpR op_lt (pe_def D_law_draw (hr.mono (by first | decide | omega)) (pa_cons (pv 0) (pa_cons pe_int pa_nil))) pe_int (nomark _)) (pss_one (ps_ret (pe_tup (pa_cons pe_str (pa_cons (pe_def D_law_draw (hr.mono (by first | decide | omega)) (pa_cons (pv 0) (pa_cons (c_len (K := K) B (pa_cons (pe_ix (x_list (K := K)) (pv 1) pe_int (fun _ _ => rfl)) pa_nil)) pa_nil))) (pa_cons (pe_def D_law_draw (hr.mono (by first | decide | omega)) (pa_cons (pv 0) (pa_cons (pv 2) pa_nil))) pa_nil)))))) pss_nil) (pss_one (ps_ret (pe_tup (pa_cons pe_str (pa_cons (pe_def D_law_draw (hr.mono (by first | decide | omega)) (pa_cons (pv 0) (pa_cons (pv 2) pa_nil))) (pa_cons (pe_def D_law_draw (hr.mono (by first | decide | omega)) (pa_cons (pv 0) (pa_cons (pv 2) pa_nil))) pa_nil))))))), ?_⟩
  rintro ⟨m, rows, cells⟩ ⟨n1, n6, c1, c6⟩
  have n1 : 1 ≤ rows.length := n1
  have n6 : rows.length ≤ 60 := n6
  have c1 : 1 ≤ cells := c1
  have c6 : cells ≤ 60 := c6
  show StP K C _ [none, some (recD m rows), some (.int cells)] 3 (R_dd (m, rows, cells))
  refine sp_imp (c := 1 + 2) (sp_guardB (c1 := 1) (c2 := 2) (ept_any (ep_imp (ep_draw ev_int (by decide) (by decide)) (fun d hd => by obtain ⟨i, rfl, _⟩ := hd; exact ⟨i, rfl⟩) (Nat.le_refl _))) (sp_ret ?one) (sp_ret ?two)) (fun d h => h) (by decide)
  case one =>
    refine ep_imp (c := 0 + (1 + (1 + 0))) (ep_tup (epa_cons (ep_d ev_str) (epa_cons (ep_nat (ev_lenRows rfl) n1 (by omega)) (epa_cons (ep_nat (ev_var rfl) c1 (by omega)) epa_nil))) (fun ds h => ?_)) (fun d h => ?_) (by decide)
    · obtain ⟨d, es, rfl, _, e, es', rfl, _, g, es2, rfl, _, rfl⟩ := h
      show 3 ≤ 100000
      decide
    · obtain ⟨ds, rfl, d, es, rfl, rfl, e, es', rfl, ⟨b, rfl, hb⟩, g, es2, rfl, ⟨c, rfl, hc⟩, rfl⟩ := h
      exact ⟨.make b c, rfl, hb, hc⟩
  case two =>
    refine ep_imp (c := 0 + (1 + (1 + 0))) (ep_tup (epa_cons (ep_d ev_str) (epa_cons (ep_nat (ev_var rfl) c1 (by omega)) (epa_cons (ep_nat (ev_var rfl) c1 (by omega)) epa_nil))) (fun ds h => ?_)) (fun d h => ?_) (by decide)
    · obtain ⟨d, es, rfl, _, e, es', rfl, _, g, es2, rfl, _, rfl⟩ := h
      show 3 ≤ 100000
      decide
    · obtain ⟨ds, rfl, d, es, rfl, rfl, e, es', rfl, ⟨b, rfl, hb⟩, g, es2, rfl, ⟨c, rfl, hc⟩, rfl⟩ := h
      exact ⟨.copy b c, rfl, hb, hc⟩
theorem ev_every {δ : Dl} {E : XK} {ta tb : TE} {m : Int} {rows : List (List Int)} {cells : Nat} (ha : EvD K C ta δ (recD m rows)) (hb : EvD K C tb δ (.int (cells : Int))) (h1 : rows.length ≤ 60) (h2 : cells ≤ 60) : EvD K C (tCall (sp_levery K C) [] E (tCons ta (tCons tb tNil))) δ (coD (everyM rows.length cells)) :=
  ev_callM (pre := fun a : Int × List (List Int) × Nat => a.2.1.length ≤ 60 ∧ a.2.2 ≤ 60) (enc := fun a => [recD a.1 a.2.1, .int a.2.2]) (out := fun a => coD (everyM a.2.1.length a.2.2)) (m, rows, cells) (ea_cons ha (ea_cons hb ea_nil)) rfl ⟨h1, h2⟩
theorem ev_lwrongs {δ : Dl} {E : XK} {ta tb tc : TE} {m : Int} {rows : List (List Int)} {s : List Ct} {d : Dd} (ha : EvD K C ta δ (recD m rows)) (hb : EvD K C tb δ (stD s)) (hx : EvD K C tc δ (dD d)) (h : DvOk m rows s d) : EvD K C (tCall (sp_lwrongs K C) [] E (tCons ta (tCons tb (tCons tc tNil)))) δ (.lst (wrongs rows s d)) :=
  ev_callM (pre := fun a : Int × List (List Int) × List Ct × Dd => DvOk a.1 a.2.1 a.2.2.1 a.2.2.2) (enc := fun a => [recD a.1 a.2.1, stD a.2.2.1, dD a.2.2.2]) (out := fun a => .lst (wrongs a.2.1 a.2.2.1 a.2.2.2)) (m, rows, s, d) (ea_cons ha (ea_cons hb (ea_cons hx ea_nil))) rfl h
theorem coD_filter {l : List Dd} {p : Dd → Bool} : D.lst ((l.filter p).map fun x => dD x) = coD (l.filter p) := rfl
theorem sc_law_right_deed : FnScope ["purse", "recipe", "state", "every", "makes", "deed"] ["purse", "recipe", "state"] (defScope (top 55)) := ⟨rfl, rfl, rfl, by decide +kernel, rfl, by decide +kernel, by decide +kernel⟩
theorem ok_law_right_deed (B : BFree mg) (D_law_every_deed : DefOk P w K mg base "_law_every_deed" 1 ["recipe", "cells"] (sp_levery K C)) (D_law_wrongs : DefOk P w K mg base "_law_wrongs" 1 ["recipe", "state", "deed"] (sp_lwrongs K C)) (D_law_one_of : DefOk P w K mg base "_law_one_of" 3 ["purse", "some"] (sp_one K C)) (D_law_draw : DefOk P w K mg base "_law_draw" 2 ["purse", "many"] spDraw) (F : DefAt K mg "_law_right_deed" ["purse", "recipe", "state"] (top 55) f fd) : DefOk P w K mg base "_law_right_deed" 4 ["purse", "recipe", "state"] (sp_lright_deed K C) := by
  refine okPM F sc_law_right_deed rfl (fun _ => rfl) fun cdv A outer s H E hr => ⟨_, (pss_cons (ps_setLc (i := 3) (own := [("deed", 5)]) rfl sc_law_right_deed.nd rfl rfl (sw_true rfl rfl rfl (by decide +kernel)) (i_list (K := K) (pe_def D_law_every_deed (hr.mono (by first | decide | omega)) (pa_cons (pv 1) (pa_cons (c_len (K := K) B (pa_cons (pv 2) pa_nil)) pa_nil)))) (blkOk_by (own := [("deed", 5)]) (N := ["purse", "recipe", "state", "every", "makes", "deed"]) (sc := (defScope (top 55))) (by decide +kernel)) (fun _ _ _ _ _ => pg_name (i := 5) sc_law_right_deed.nd rfl (.inl rfl)) (fun _ _ _ _ _ => pts_one (pt_cmpR (o_eq (K := K) (by exact hr.units)) (pe_def D_law_wrongs (hr.mono (by first | decide | omega)) (pa_cons (pv 1) (pa_cons (pv 2) (pa_cons (pv 5) pa_nil)))) (pe_lst pa_nil) (nomark _))) (fun _ _ _ _ _ => (pv 5))) (pss_cons (ps_setLc (i := 4) (own := [("deed", 5)]) rfl sc_law_right_deed.nd rfl rfl (sw_true rfl rfl rfl (by decide +kernel)) (i_list (K := K) (pv 3)) (blkOk_by (own := [("deed", 5)]) (N := ["purse", "recipe", "state", "every", "makes", "deed"]) (sc := (defScope (top 55))) (by decide +kernel)) (fun _ _ _ _ _ => pg_name (i := 5) sc_law_right_deed.nd rfl (.inl rfl)) (fun _ _ _ _ _ => pts_one (PW.pt (pw_and (pt_cmpR (o_eq (K := K) (by exact hr.units)) (pe_ix (x_tup (K := K)) (pv 5) pe_int (fun _ _ => rfl)) pe_str (nomark _)) (pw_and1 (pt_cmpR (o_notInD (K := K) hr) (pe_tup (pa_cons pe_str (pa_cons (pe_ix (x_tup (K := K)) (pv 5) pe_int (fun _ _ => rfl)) pa_nil))) (pv 2) (by rfl)))))) (fun _ _ _ _ _ => (pv 5))) (pss_cons (ps_if (pt_cmpR (o_eq (K := K) (by exact hr.units)) (pv 3) (pe_lst pa_nil) (nomark _)) (pss_one (ps_ret pe_non)) pss_nil) (pss_one (ps_ret (pe_def D_law_one_of (hr.mono (by first | decide | omega)) (pa_cons (pv 0) (pa_cons (pe_ifExp (PW.pt (pw_and (pt_cmpR (o_ne (K := K) (by exact hr.units)) (pv 4) (pe_lst pa_nil) (nomark _)) (pw_and1 (pt_cmpR op_gt (pe_def D_law_draw (hr.mono (by first | decide | omega)) (pa_cons (pv 0) (pa_cons pe_int pa_nil))) pe_int (nomark _))))) (pv 4) (pv 3)) pa_nil)))))))), ?_⟩
  rintro ⟨m, rows, s⟩ ⟨hv, m60, n60, s60⟩
  have hv : ValidR m rows := hv
  have n60 : rows.length ≤ 60 := n60
  have s60 : s.length ≤ 60 := s60
  show StP K C _ [none, some (recD m rows), some (stD s), none, none, none] 2 (R_rd (m, rows, s))
  let E1 := (everyM rows.length s.length).filter fun d => (wrongs rows s d).isEmpty
  let M1 := E1.filter fun d => d.isMake && !decide (Ct.new (d.src : Int) ∈ s)
  have el := every_len n60 s60
  have e1l : E1.length ≤ 7200 := Nat.le_trans (List.length_filter_le _ _) el
  have m1l : M1.length ≤ 7200 := Nat.le_trans (List.length_filter_le _ _) e1l
  have e1 : ∀ x ∈ E1, DdOk rows.length s.length x ∧ wrongs rows s x = [] := fun x hx => by
    obtain ⟨h1, h2⟩ := List.mem_filter.mp hx
    exact ⟨every_mem.mp h1, List.isEmpty_iff.mp h2⟩
  have fin : ∀ l : List Dd, (∀ x ∈ l, x ∈ E1) → ∀ d, d ∈ l.map dD → R_rd (m, rows, s) d := fun l hl d hd => by
    obtain ⟨x, hx, rfl⟩ := List.mem_map.mp hd
    exact .inr ⟨x, rfl, e1 x (hl x hx)⟩
  refine sp_imp (c := 0 + (0 + 2)) (sp_set (R1 := fun d => d = coD E1) (by decide) (ep_d (ev_is (en_lc (as := everyM rows.length s.length) (g0 := dD) (p := fun d => (wrongs rows s d).isEmpty) (f := dD) (ei_list (ev_every (ev_var rfl) (ev_is (ev_cb (ea_cons (ev_var rfl) ea_nil) rc_lenL) (congrArg (fun (k : Nat) => D.int (k : Int)) (List.length_map _))) n60 s60)) (fun a ha => eg_name (by decide)) (fun d hd => et_is (et_B (ev_op (ev_lwrongs (ev_var rfl) (ev_var rfl) (ev_var rfl) ⟨hv, m60, every_mem.mp hd, s60⟩) (en_lst ea_nil (by show 0 ≤ 100000; decide)).toD (r2_eq (shN_wrongs.shp (by decide)) shp_emp))) eqD_emp) (fun d hd _ => ev_var rfl) (by omega)).toD rfl)) ?_) (fun d h => h) (by decide)
  rintro _ rfl
  refine sp_set (R1 := fun d => d = coD M1) (by decide) (ep_d (ev_is (en_lc (as := E1) (g0 := dD) (p := fun d => d.isMake && !decide (Ct.new (d.src : Int) ∈ s)) (f := dD) (ei_list (ev_var rfl)) (fun a ha => eg_name (by decide)) (fun d hd => et_and (dd_make rfl) (fun _ => et_B (ev_op (en_tup (ea_cons ev_str (ea_cons (dd_1 rfl) ea_nil)) (by show 2 ≤ 100000; decide)).toD (ev_var rfl) (r2_notInC (.new (d.src : Int)) s)))) (fun d hd _ => ev_var rfl) (by omega)).toD rfl)) ?_
  rintro _ rfl
  refine sp_guard (b := E1.isEmpty) (et_is (et_B (ev_op (ev_var rfl) (en_lst ea_nil (by show 0 ≤ 100000; decide)).toD (r2_eq (shp_co E1) shp_emp))) (by rw [eqD_emp, List.isEmpty_map])) (fun h => ?_) (fun h => ?_)
  · exact sp_ret (ep_imp (ep_d ev_non) (fun d hd => .inl hd) (by decide))
  have e1n : E1 ≠ [] := fun z => by rw [z] at h; cases h
  have ne1 : ∀ {δ : Dl} {i : Nat} {l : List Dd}, δ[i]? = some (some (coD l)) → EvT K C (tB (tOp (rNeD K) (tVar i) (tLst tNil))) δ (!l.isEmpty) := fun {δ i l} hi => et_is (et_B (ev_op (ev_var hi) (en_lst ea_nil (by show 0 ≤ 100000; decide)).toD (r2_ne (shp_co l) shp_emp))) (by rw [eqD_emp, List.isEmpty_map])
  refine sp_ret (ep_imp (c := 1 + 0 + 1) (ep_callP (c1 := 1 + 0) (c2 := 1) (Rs := fun ds => ∃ l : List Dd, ds = [coD l] ∧ l ≠ [] ∧ l.length ≤ 7200 ∧ ∀ x ∈ l, x ∈ E1) (epa_imp (epa_cons (R1 := fun d => ∃ l : List Dd, d = coD l ∧ l ≠ [] ∧ l.length ≤ 7200 ∧ ∀ x ∈ l, x ∈ E1) (c1 := 1) ?pick epa_nil) (fun ds hd => ?g1) (Nat.le_refl _)) (fun ds hd => ?g2)) (fun d hd => ?g3) (Nat.le_refl _))
  case g1 =>
    obtain ⟨d, es, rfl, ⟨l, rfl, h1, h2, h3⟩, rfl⟩ := hd
    exact ⟨l, rfl, h1, h2, h3⟩
  case g2 =>
    obtain ⟨l, rfl, h1, h2, _⟩ := hd
    exact ⟨rfl, l.map dD, rfl, fun z => h1 (List.map_eq_nil_iff.mp z), by rw [List.length_map]; omega⟩
  case g3 =>
    obtain ⟨ds, ⟨l, rfl, h1, h2, h3⟩, hd⟩ := hd
    exact fin l h3 d hd
  case pick =>
    by_cases hm : M1 = []
    · exact ep_imp (ep_ifB (b := false) (et_is (et_and (a := false) (b := false) (et_is (ne1 rfl) (by rw [hm]; rfl)) (fun h => by cases h)) rfl) (fun h => by cases h) (fun _ => ep_d (ev_var rfl))) (fun d hd => ⟨E1, hd, e1n, e1l, fun x hx => hx⟩) (by decide)
    · have hm' : (!M1.isEmpty) = true := by
        cases q : M1 with
        | nil => exact absurd q hm
        | cons _ _ => rfl
      exact ep_imp (c := 1 + 0) (ep_if (B := fun _ => True) (ept_andT (et_is (ne1 rfl) hm') (ept_any (ep_imp (ep_draw ev_int (by decide) (by decide)) (fun d hd => by obtain ⟨i, rfl, _⟩ := hd; exact ⟨i, rfl⟩) (Nat.le_refl _)))) (ep_imp (ep_d (ev_var rfl)) (fun d hd => ⟨M1, hd, hm, m1l, fun x hx => (List.mem_filter.mp hx).1⟩) (Nat.le_refl _)) (ep_imp (ep_d (ev_var rfl)) (fun d hd => ⟨E1, hd, e1n, e1l, fun x hx => hx⟩) (Nat.le_refl _))) (fun d h => h) (by decide)
end
end Zm


set_option Elab.async false
set_option linter.all false
set_option maxRecDepth 100000
set_option maxHeartbeats 4000000
set_option autoImplicit false
namespace Zm
open PySem PySem.Spec L2
local macro_rules | `(tactic| walk_at "le") => `(tactic| first | exact le0 | (refine leS ?_; walk_at "le") | (refine leN ?_; walk_at "le"))
theorem leD_set {δ' δ : Dl} {r : Nat} {x : Option D} (l : LeD δ' δ) : LeD (δ'.set r x) (δ.set r x) := ⟨by rw [List.length_set, List.length_set, l.1], fun i d e => by
  by_cases h : r = i
  · subst h
    rw [List.getElem?_set] at e ⊢
    rw [if_pos rfl] at e ⊢
    rw [← l.1]
    exact e
  · rw [List.getElem?_set_ne h] at e ⊢
    exact l.2 i d e⟩
section
variable {P : Program} {w : World} {K : PySem.W.Frag} {mg : Str → Option Value} {base : Heap} {f C : Addr} {fd : FuncData}
theorem ev_notNDd {δ : Dl} {te : TE} {x : Dd} (h : EvD K C te δ (dD x)) : EvD K C (tNotN te) δ (.bl true) := by
  cases x with
  | make b c => exact ev_notNT h
  | copy b c => exact ev_notNT h
theorem ev_lbegun {δ : Dl} {E : XK} {ta tb : TE} {m : Int} {rows : List (List Int)} {cells : Nat} (ha : EvD K C ta δ (recD m rows)) (hb : EvD K C tb δ (.int (cells : Int))) (h : DevOk m rows cells) : EvD K C (tCall (sp_lbegun K C) [] E (tCons ta (tCons tb tNil))) δ (stD (begunM m.toNat cells)) :=
  ev_callM (pre := fun a : Int × List (List Int) × Nat => DevOk a.1 a.2.1 a.2.2) (enc := fun a => [recD a.1 a.2.1, .int a.2.2]) (out := fun a => stD (begunM a.1.toNat a.2.2)) (m, rows, cells) (ea_cons ha (ea_cons hb ea_nil)) rfl h
theorem ev_lbehind {δ : Dl} {E : XK} {ta tb : TE} {s : List Ct} {d : Dd} (ha : EvD K C ta δ (stD s)) (hb : EvD K C tb δ (dD d)) (h : DdIn s.length d) (hl : s.length ≤ 60) : EvD K C (tCall (sp_lbehind K C) [] E (tCons ta (tCons tb tNil))) δ (stD (behindM s d)) :=
  ev_callM (pre := fun a : List Ct × Dd => DdIn a.1.length a.2 ∧ a.1.length ≤ 60) (enc := fun a => [stD a.1, dD a.2]) (out := fun a => stD (behindM a.1 a.2)) (s, d) (ea_cons ha (ea_cons hb ea_nil)) rfl ⟨h, hl⟩
theorem sc_law_right_course : FnScope ["purse", "recipe", "cells", "most", "turn", "state", "found", "deed"] ["purse", "recipe", "cells", "most"] (defScope (top 56)) := ⟨rfl, rfl, rfl, by decide +kernel, rfl, by decide +kernel, by decide +kernel⟩
-- slots: purse=0 recipe=1 cells=2 most=3 turn=4 state=5 found=6 deed=7
theorem ok_law_right_course (B : BFree mg) (D_law_begun : DefOk P w K mg base "_law_begun" 1 ["recipe", "cells"] (sp_lbegun K C)) (D_law_draw : DefOk P w K mg base "_law_draw" 2 ["purse", "many"] spDraw) (D_law_right_deed : DefOk P w K mg base "_law_right_deed" 4 ["purse", "recipe", "state"] (sp_lright_deed K C)) (D_law_behind_deed : DefOk P w K mg base "_law_behind_deed" 2 ["state", "deed"] (sp_lbehind K C)) (F : DefAt K mg "_law_right_course" ["purse", "recipe", "cells", "most"] (top 56) f fd) : DefOk P w K mg base "_law_right_course" 5 ["purse", "recipe", "cells", "most"] (sp_lright_course K C) := by
  refine okPM F sc_law_right_course rfl (fun _ => rfl) fun cdv A outer s H E hr => ⟨_, (pss_cons (ps_par (i := 5) (j := 6) rfl sc_law_right_course.nd rfl rfl (by decide) rfl rfl (pa_cons (pe_def D_law_begun (hr.mono (by first | decide | omega)) (pa_cons (pv 1) (pa_cons (pv 2) pa_nil))) (pa_cons (pe_lst pa_nil) pa_nil)) (by rfl)) (pss_cons (ps_for PassesOwn.never rfl (i_rng1 B (pa_cons (pe_def D_law_draw (hr.mono (by first | decide | omega)) (pa_cons (pv 0) (pa_cons (pe_op op_add (pv 3) pe_int) pa_nil))) pa_nil)) (pg_name (i := 4) sc_law_right_course.nd rfl (.inl rfl)) (pss_cons (ps_set (i := 7) sc_law_right_course.nd rfl (.inl rfl) (pe_def D_law_right_deed (hr.mono (by first | decide | omega)) (pa_cons (pv 0) (pa_cons (pv 1) (pa_cons (pv 5) pa_nil))))) (pss_one (ps_if (pt_cmp (pc_notN (pv 7)) rfl) (pss_cons (ps_expr (pe_bm PySem.F.plainAttrs_list PySem.F.slot_list_append PySem.F.type_list_append mt_append (pv 6) (pa_cons (pv 7) pa_nil))) (pss_one (ps_set (i := 5) sc_law_right_course.nd rfl (.inl rfl) (pe_def D_law_behind_deed (hr.mono (by first | decide | omega)) (pa_cons (pv 5) (pa_cons (pv 7) pa_nil)))))) pss_nil)))) (pss_one (ps_ret (pv 6))))), ?_⟩
  rintro ⟨m, rows, cells, most⟩ ⟨dev, n60, hm⟩
  have dev : DevOk m rows cells := dev
  have n60 : rows.length ≤ 60 := n60
  have hm : 1 ≤ most ∧ most ≤ 20 := hm
  have c60 := dev.c60
  have sl : (begunM m.toNat cells).length = cells := begunM_len (by have := dev.cm; have := dev.val.1; omega)
  show StP K C _ [none, some (recD m rows), some (.int cells), some (.int most), none, none, none, none] 100 (R_rc (m, rows, cells, most))
  let δc := fun co : List Dd => ([none, some (recD m rows), some (.int cells), some (.int most), none, some (stD (runM (begunM m.toNat cells) co)), none, none] : Dl)
  let Φs : Nat → Dl → List D → Prop := fun k δ ds => ∃ co : List Dd, LeD (δc co) δ ∧ ds = co.map dD ∧ co.length ≤ k ∧ (∀ x ∈ co, DdOk rows.length cells x) ∧ RightC rows (begunM m.toNat cells) co
  have hmul : most * 2 ≤ 20 * 2 := Nat.mul_le_mul_right _ hm.2
  refine sp_imp (c := 1 + most * 2) (sp_own (i := 6) (r := 5) (Ψ := fun δ ds => ∃ k, k ≤ most ∧ Φs k δ ds) (by decide) (by decide) (by decide) (by show 6 < 8; decide) (ev_lbegun (ev_var rfl) (ev_var rfl) dev) (sg_forR (r := 4) (N := most) (Φs := Φs) (c1 := 1) (c := 2) (by decide) (by decide) (ej_p (ep_imp (ep_nat (n := most + 1) (ev_is (ev_op (ev_var rfl) ev_int r2_Ii) (congrArg D.int (by omega))) (by omega) (by omega)) (fun d hd => by obtain ⟨k, rfl, hk⟩ := hd; exact ⟨k, rfl, by omega⟩) (Nat.le_refl _))) (by omega) ⟨[], by show LeD [_, _, _, _, _, _, _, _] [_, _, _, _, _, _, _, _]; walk_at "le", rfl, Nat.le_refl _, (fun x hx => by cases hx), trivial⟩ ?body) ?fin) (fun d h => h) (by omega)
  case fin =>
    rintro δ' ds' ⟨k, hk, co, _, rfl, hl, hall, hr⟩
    exact ⟨co, rfl, by show co.length ≤ most; omega, hall, hr⟩
  case body =>
    rintro k hk δ1 ds1 ⟨co, le, rfl, hl, hall, hr⟩
    have rl : (runM (begunM m.toNat cells) co).length = cells := by rw [runM_len, sl]
    refine sg_le (δ0 := (δc co).set 4 (some (.int (0 + (k : Int))))) ?_ (leD_set le)
    refine sg_seq (c1 := 2) (c2 := 0) (sg_setJ (Ψ := fun δ ds => ∃ d, R_rd (m, rows, runM (begunM m.toNat cells) co) d ∧ δ = ((δc co).set 4 (some (.int (0 + (k : Int))))).set 7 (some d) ∧ ds = co.map dD) (by decide) (by decide) (ej_callPM (pre := fun a : Int × List (List Int) × List Ct => LdOk a.1 a.2.1 a.2.2) (enc := fun a => [recD a.1 a.2.1, stD a.2.2]) (R := R_rd) (m, rows, runM (begunM m.toNat cells) co) (ea_cons (ev_var rfl) (ea_cons (ev_var rfl) ea_nil)) rfl ⟨dev.val, dev.m60, n60, by show (runM (begunM m.toNat cells) co).length ≤ 60; omega⟩) (fun d hd => ⟨d, hd, rfl, rfl⟩)) (sg_at ?_)
    rintro δ3 ds3 ⟨d, hd, rfl, rfl⟩
    rcases hd with rfl | ⟨x, rfl, hx, hw⟩
    · refine sg_ifD (b := false) (et_B (ev_notNN (ev_var rfl))) (fun h => by cases h) (fun _ => sg_next ?_)
      rintro δ ds ⟨rfl, rfl⟩
      exact ⟨co, by show LeD [_, _, _, _, _, _, _, _] [_, _, _, _, _, _, _, _]; walk_at "le", rfl, by omega, hall, hr⟩
    · have hx : DdOk rows.length (runM (begunM m.toNat cells) co).length x := hx
      have hw : wrongs rows (runM (begunM m.toNat cells) co) x = [] := hw
      have dl : (co.map dD).length < 100000 := by rw [List.length_map]; omega
      refine sg_ifD (b := true) (et_B (ev_notNDd (ev_var rfl))) (fun _ => sg_seq (c1 := 0) (c2 := 0) (sg_app (Ψ := fun δ ds => δ = ((δc co).set 4 (some (.int (0 + (k : Int))))).set 7 (some (dD x)) ∧ ds = co.map dD ++ [dD x]) dl (ev_var rfl) ⟨rfl, rfl⟩) (sg_setD (by decide) (by decide) (ev_lbehind (ev_var rfl) (ev_var rfl) hx.in (by omega)) ?_)) (fun h => by cases h)
      refine ⟨co ++ [x], ?_, by rw [List.map_append]; rfl, by rw [List.length_append]; show co.length + 1 ≤ k + 1; omega, fun y hy => ?_, right_snoc.mpr ⟨hr, hw⟩⟩
      · show LeD [_, _, _, _, _, some (stD (runM (begunM m.toNat cells) (co ++ [x]))), _, _] [_, _, _, _, _, _, _, _]
        rw [runM_snoc]
        walk_at "le"
      · rcases List.mem_append.mp hy with hy | hy
        · exact hall y hy
        · rw [List.mem_singleton.mp hy, ← rl]
          exact hx
abbrev encM3 (a : Int × Int × Int) : List D := [.int a.1, .int a.2.1, .int a.2.2]
abbrev R_sd (a : Int × Int × Int) (d : D) : Prop := ∃ m rows, ∃ cells : Nat, d = .lst [recD m rows, .int (cells : Int)] ∧ RecOk a.1 a.2.1 m rows ∧ 1 ≤ cells ∧ m ≤ cells ∧ (cells : Int) ≤ (if 1 > m then 1 else m) + a.2.2
abbrev sp_lsmall (K : PySem.W.Frag) (C : Addr) : Sp := SpPM K C (fun a : Int × Int × Int => 1 ≤ a.1 ∧ a.1 ≤ 8 ∧ 0 ≤ a.2.1 ∧ a.2.1 ≤ 8 ∧ 0 ≤ a.2.2 ∧ a.2.2 ≤ 10) encM3 401 R_sd 3
theorem sc_law_small_device : FnScope ["purse", "most_new", "most_old", "more", "recipe"] ["purse", "most_new", "most_old", "more"] (defScope (top 57)) := ⟨rfl, rfl, rfl, by decide +kernel, rfl, by decide +kernel, by decide +kernel⟩
theorem ok_law_small_device (B : BFree mg) (D_law_recipe : DefOk P w K mg base "_law_recipe" 4 ["purse", "most_new", "most_old"] (sp_recipe K C)) (D_law_draw : DefOk P w K mg base "_law_draw" 2 ["purse", "many"] spDraw) (F : DefAt K mg "_law_small_device" ["purse", "most_new", "most_old", "more"] (top 57) f fd) : DefOk P w K mg base "_law_small_device" 5 ["purse", "most_new", "most_old", "more"] (sp_lsmall K C) := by
  refine okPM F sc_law_small_device rfl (fun _ => rfl) fun cdv A outer s H E hr => ⟨_, (pss_cons (ps_set (i := 4) sc_law_small_device.nd rfl (.inl rfl) (pe_def D_law_recipe (hr.mono (by first | decide | omega)) (pa_cons (pv 0) (pa_cons (pv 1) (pa_cons (pv 2) pa_nil))))) (pss_one (ps_ret (pe_lst (pa_cons (pv 4) (pa_cons (pe_op op_add (c_max2 (K := K) B (pa_cons (pe_ix (x_list (K := K)) (pv 4) pe_int (fun _ _ => rfl)) (pa_cons pe_int pa_nil))) (pe_def D_law_draw (hr.mono (by first | decide | omega)) (pa_cons (pv 0) (pa_cons (pe_op op_add (pv 3) pe_int) pa_nil)))) pa_nil)))))), ?_⟩
  rintro ⟨mn, mo, more⟩ ⟨n1, n8, o0, o8, r0, r10⟩
  have n1 : 1 ≤ mn := n1
  have o0 : 0 ≤ mo := o0
  have r0 : 0 ≤ more := r0
  have r10 : more ≤ 10 := r10
  show StP K C _ [none, some (.int mn), some (.int mo), some (.int more), none] 401 (R_sd (mn, mo, more))
  refine sp_imp (c := 400 + 1) (sp_set (R1 := fun d => ∃ m rows, d = recD m rows ∧ RecOk mn mo m rows) (by decide) (ep_call (ds := [.int mn, .int mo]) (ea_cons (ev_var rfl) (ea_cons (ev_var rfl) ea_nil)) rfl ⟨mn, mo, rfl, n1, n8, o0, o8⟩) ?_) (fun d h => h) (by decide)
  rintro _ ⟨m, rows, rfl, ok⟩
  have m0 : 0 ≤ m := ok.1
  refine sp_ret (ep_imp (c := 0 + (0 + 1 + 0)) (ep_lst (epa_cons (ep_d (ev_var rfl)) (epa_cons (ep_op (R := fun d => ∃ k : Nat, d = .int ((if 1 > m then 1 else m) + (k : Int)) ∧ (k : Int) ≤ more) (ep_d (ev_cb (ea_cons (rec_0 rfl) (ea_cons ev_int ea_nil)) rc_max2)) (ep_draw (m := more + 1) (ev_is (ev_op (ev_var rfl) ev_int r2_Ii) rfl) (by omega) (by omega)) (fun d e r1 r2 => ?_)) epa_nil)) (fun ds h => ?_)) (fun d h => ?_) (by decide))
  · subst r1
    obtain ⟨i, rfl, i0, i1⟩ := r2
    obtain ⟨k, rfl⟩ := Int.eq_ofNat_of_zero_le i0
    exact ⟨_, r2_Ii, k, rfl, by omega⟩
  · obtain ⟨d, es, rfl, _, e, es', rfl, _, rfl⟩ := h
    show 2 ≤ 100000
    decide
  · obtain ⟨ds, rfl, d, es, rfl, rfl, e, es', rfl, ⟨k, rfl, hk⟩, rfl⟩ := h
    obtain ⟨c, hc⟩ : ∃ c : Nat, (if 1 > m then 1 else m) + (k : Int) = (c : Int) := Int.eq_ofNat_of_zero_le (by split <;> omega)
    rw [hc]
    refine ⟨m, rows, c, rfl, ok, ?_, ?_, ?_⟩
    · split at hc <;> omega
    · split at hc <;> omega
    · show (c : Int) ≤ (if 1 > m then 1 else m) + more
      omega
end
end Zm


set_option Elab.async false
set_option linter.all false
set_option maxRecDepth 100000
set_option maxHeartbeats 4000000
set_option autoImplicit false
namespace Zm
open PySem PySem.Spec L2
local macro_rules | `(tactic| walk_at "le") => `(tactic| first | exact le0 | (refine leS ?_; walk_at "le") | (refine leN ?_; walk_at "le"))
section
variable {P : Program} {w : World} {K : PySem.W.Frag} {mg : Str → Option Value} {base : Heap} {f C : Addr} {fd : FuncData}
theorem sc_law_loose_course : FnScope ["purse", "recipe", "cells", "most", "turn", "state", "found", "deed", "some", "late"] ["purse", "recipe", "cells", "most"] (defScope (top 61)) := ⟨rfl, rfl, rfl, by decide +kernel, rfl, by decide +kernel, by decide +kernel⟩
-- slots: purse=0 recipe=1 cells=2 most=3 turn=4 state=5 found=6 deed=7 some=8 late=9
theorem ok_law_loose_course (B : BFree mg) (D_law_begun : DefOk P w K mg base "_law_begun" 1 ["recipe", "cells"] (sp_lbegun K C)) (D_law_draw : DefOk P w K mg base "_law_draw" 2 ["purse", "many"] spDraw) (D_law_drawn_deed : DefOk P w K mg base "_law_drawn_deed" 3 ["purse", "recipe", "cells"] (sp_ldrawn K C)) (D_law_every_deed : DefOk P w K mg base "_law_every_deed" 1 ["recipe", "cells"] (sp_levery K C)) (D_law_loose : DefOk P w K mg base "_law_loose" 2 ["recipe", "state", "deed"] (sp_lloose K C)) (D_law_one_of : DefOk P w K mg base "_law_one_of" 3 ["purse", "some"] (sp_one K C)) (F : DefAt K mg "_law_loose_course" ["purse", "recipe", "cells", "most"] (top 61) f fd) : DefOk P w K mg base "_law_loose_course" 4 ["purse", "recipe", "cells", "most"] (sp_lloose_course K C) := by
  refine okPM F sc_law_loose_course rfl (fun _ => rfl) fun cdv A outer s H E hr => ⟨_, (pss_cons (ps_asg (pe_tup (pa_cons (pe_def D_law_begun (hr.mono (by first | decide | omega)) (pa_cons (pv 1) (pa_cons (pv 2) pa_nil))) (pa_cons (pe_lst pa_nil) pa_nil))) (g_tup (K := K) (n := 2) (pgs_cons (pg_name (i := 5) sc_law_loose_course.nd rfl (.inr rfl)) (pgs_cons (pg_name (i := 6) sc_law_loose_course.nd rfl (.inl rfl)) pgs_nil)))) (pss_cons (ps_for PassesOwn.never rfl (i_rng1 B (pa_cons (pe_op op_add pe_int (pe_def D_law_draw (hr.mono (by first | decide | omega)) (pa_cons (pv 0) (pa_cons (pv 3) pa_nil)))) pa_nil)) (pg_name (i := 4) sc_law_loose_course.nd rfl (.inl rfl)) (pss_cons (ps_set (i := 7) sc_law_loose_course.nd rfl (.inl rfl) (pe_def D_law_drawn_deed (hr.mono (by first | decide | omega)) (pa_cons (pv 0) (pa_cons (pv 1) (pa_cons (pv 2) pa_nil))))) (pss_cons (ps_if (pt_cmpR op_gt (pe_def D_law_draw (hr.mono (by first | decide | omega)) (pa_cons (pv 0) (pa_cons pe_int pa_nil))) pe_int (nomark _)) (pss_cons (ps_setLc (i := 8) (own := [("late", 9)]) rfl sc_law_loose_course.nd rfl rfl (sw_true rfl rfl rfl (by decide +kernel)) (i_list (K := K) (pe_def D_law_every_deed (hr.mono (by first | decide | omega)) (pa_cons (pv 1) (pa_cons (pv 2) pa_nil)))) (blkOk_by (own := [("late", 9)]) (N := ["purse", "recipe", "cells", "most", "turn", "state", "found", "deed", "some", "late"]) (sc := (defScope (top 61))) (by decide +kernel)) (fun _ _ _ _ _ => pg_name (i := 9) sc_law_loose_course.nd rfl (.inl rfl)) (fun _ _ _ _ _ => pts_one (PW.pt (pw_and (pt_cmpR (o_ne (K := K) (by exact hr.units)) (pe_def D_law_loose (hr.mono (by first | decide | omega)) (pa_cons (pv 1) (pa_cons (pv 5) (pa_cons (pv 9) pa_nil)))) (pv 5) (nomark _)) (pw_and1 (pt_cmp (pc_notN (pe_ix (x_list (K := K)) (pe_def D_law_loose (hr.mono (by first | decide | omega)) (pa_cons (pv 1) (pa_cons (pv 5) (pa_cons (pv 9) pa_nil)))) (pe_ix (x_tup (K := K)) (pv 9) pe_int (fun _ _ => rfl)) (fun _ _ => rfl))) rfl))))) (fun _ _ _ _ _ => (pv 9))) (pss_one (ps_set (i := 7) sc_law_loose_course.nd rfl (.inl rfl) (pe_ifExp (pt_cmpR (o_ne (K := K) (by exact hr.units)) (pv 8) (pe_lst pa_nil) (nomark _)) (pe_def D_law_one_of (hr.mono (by first | decide | omega)) (pa_cons (pv 0) (pa_cons (pv 8) pa_nil))) (pv 7))))) pss_nil) (pss_cons (ps_expr (pe_bm PySem.F.plainAttrs_list PySem.F.slot_list_append PySem.F.type_list_append mt_append (pv 6) (pa_cons (pv 7) pa_nil))) (pss_one (ps_set (i := 5) sc_law_loose_course.nd rfl (.inr rfl) (pe_def D_law_loose (hr.mono (by first | decide | omega)) (pa_cons (pv 1) (pa_cons (pv 5) (pa_cons (pv 7) pa_nil)))))))))) (pss_one (ps_ret (pv 6))))), ?_⟩
  rintro ⟨m, rows, cells, most⟩ ⟨dev, n60, hm⟩
  have dev : DevOk m rows cells := dev
  have n60 : rows.length ≤ 60 := n60
  have hm : 1 ≤ most ∧ most ≤ 20 := hm
  have c60 := dev.c60
  have c1 := dev.c1
  have n1 := dev.val.2.1
  have sl : (begunM m.toNat cells).length = cells := begunM_len (by have := dev.cm; have := dev.val.1; omega)
  have el := every_len n60 c60
  show StP K C _ [none, some (recD m rows), some (.int cells), some (.int most), none, none, none, none, none, none] 200 (R_lc (m, rows, cells, most))
  let δc := fun st : List Ct => ([none, some (recD m rows), some (.int cells), some (.int most), none, some (stD st), none, none, none, none] : Dl)
  let Φs : Nat → Dl → List D → Prop := fun k δ ds => ∃ (co : List Dd) (st : List Ct), LeD (δc st) δ ∧ st.length = cells ∧ ds = co.map dD ∧ co.length ≤ k ∧ (∀ x ∈ co, DdOk rows.length cells x)
  have hmul : most * 5 ≤ 20 * 5 := Nat.mul_le_mul_right _ hm.2
  refine sp_imp (c := 1 + most * 5) (sp_ownT (i := 6) (r := 5) (Ψ := fun δ ds => ∃ k, k ≤ most ∧ Φs k δ ds) (by decide) (by decide) (by decide) (by show 6 < 10; decide) (ev_lbegun (ev_var rfl) (ev_var rfl) dev) (sg_forR (r := 4) (N := most) (Φs := Φs) (c1 := 1) (c := 5) (by decide) (by decide) (ej_p (ep_imp (c := 0 + 1) (ep_op (R := fun d => ∃ k : Nat, d = .int (k : Int) ∧ k ≤ most) (ep_d ev_int) (ep_nat (n := most) (ev_var rfl) (by omega) (by omega)) (fun d e r1 r2 => ?add)) (fun d h => h) (by decide))) (by omega) ⟨[], begunM m.toNat cells, by show LeD [_, _, _, _, _, _, _, _, _, _] [_, _, _, _, _, _, _, _, _, _]; walk_at "le", sl, rfl, Nat.le_refl _, (fun x hx => by cases hx)⟩ ?body) ?fin) (fun d h => h) (by omega)
  case add =>
    subst r1
    obtain ⟨k, rfl, hk⟩ := r2
    exact ⟨_, r2_Ii, k + 1, by congr 1; omega, by omega⟩
  case fin =>
    rintro δ' ds' ⟨k, hk, co, st, _, _, rfl, hl, hall⟩
    exact ⟨co, rfl, by show co.length ≤ most; omega, hall⟩
  case body =>
    rintro k hk δ1 ds1 ⟨co, st, le, stl, rfl, hl, hall⟩
    have dl : (co.map dD).length < 100000 := by rw [List.length_map]; omega
    refine sg_le (δ0 := (δc st).set 4 (some (.int (0 + (k : Int))))) ?_ (leD_set le)
    let δ2 : Dl := (δc st).set 4 (some (.int (0 + (k : Int))))
    -- the deed, whichever it is
    let Ψ1 : Dl → List D → Prop := fun δ ds => ∃ x : Dd, DdOk rows.length cells x ∧ LeD (δ2.set 7 (some (dD x))) δ ∧ ds = co.map dD
    refine sg_seq (c1 := 3) (c2 := 2) (Ψ := fun δ ds => ∃ x : Dd, DdOk rows.length cells x ∧ δ = δ2.set 7 (some (dD x)) ∧ ds = co.map dD) (sg_setJ (by decide) (by decide) (ej_callPM (pre := fun a : Int × List (List Int) × Nat => 1 ≤ a.2.1.length ∧ a.2.1.length ≤ 60 ∧ 1 ≤ a.2.2 ∧ a.2.2 ≤ 60) (enc := encRC) (R := R_dd) (m, rows, cells) (ea_cons (ev_var rfl) (ea_cons (ev_var rfl) ea_nil)) rfl ⟨n1, n60, c1, c60⟩) (fun d hd => by obtain ⟨x, rfl, hx⟩ := hd; exact ⟨x, hx, rfl, rfl⟩)) (sg_at ?_)
    rintro δ3 ds3 ⟨x, hx, rfl, rfl⟩
    refine sg_seq (c1 := 2) (c2 := 0) (Ψ := Ψ1) (sg_ifB (c1 := 1) (c2 := 1) (ejb_p (ept_any (ep_imp (ep_draw ev_int (by decide) (by decide)) (fun d hd => by obtain ⟨i, rfl, _⟩ := hd; exact ⟨i, rfl⟩) (Nat.le_refl _)))) ?yes (sg_imp (sg_next (Ψ := Ψ1) (Φ := fun δ ds => δ = δ2.set 7 (some (dD x)) ∧ ds = co.map dD) ?nope) (fun _ _ h => h) (fun _ _ h => h) (by decide))) (sg_at ?rest)
    case nope =>
      rintro δ ds ⟨rfl, rfl⟩
      exact ⟨x, hx, by show LeD [_, _, _, _, _, _, _, _, _, _] [_, _, _, _, _, _, _, _, _, _]; walk_at "le", rfl⟩
    case rest =>
      rintro δ4 ds4 ⟨y, hy, le4, rfl⟩
      have yk : DvOk m rows st y := ⟨dev.val, dev.m60, by rw [stl]; exact hy, by rw [stl]; exact c60⟩
      refine sg_le (δ0 := δ2.set 7 (some (dD y))) (sg_seq (c1 := 0) (c2 := 0) (sg_app (Ψ := fun δ ds => δ = δ2.set 7 (some (dD y)) ∧ ds = co.map dD ++ [dD y]) dl (ev_var rfl) ⟨rfl, rfl⟩) (sg_setD (by decide) (by decide) (ev_lloose (ev_var rfl) (ev_var rfl) (ev_var rfl) yk) ?_)) le4
      refine ⟨co ++ [y], looseM rows st y, by show LeD [_, _, _, _, _, _, _, _, _, _] [_, _, _, _, _, _, _, _, _, _]; walk_at "le", by rw [looseM_len, stl], by rw [List.map_append]; rfl, by rw [List.length_append]; show co.length + 1 ≤ k + 1; omega, fun z hz => ?_⟩
      rcases List.mem_append.mp hz with hz | hz
      · exact hall z hz
      · rw [List.mem_singleton.mp hz]
        exact hy
    case yes =>
      let S := (everyM rows.length cells).filter fun d => !decide (looseM rows st d = st) && !decide ((looseM rows st d).getD d.cell .no = .no)
      have sL : S.length ≤ 7200 := Nat.le_trans (List.length_filter_le _ _) el
      have sM : ∀ z ∈ S, DdOk rows.length cells z := fun z hz => every_mem.mp (List.mem_filter.mp hz).1
      refine sg_seq (c1 := 0) (c2 := 1) (Ψ := fun δ ds => δ = (δ2.set 7 (some (dD x))).set 8 (some (coD S)) ∧ ds = co.map dD) (sg_setD (by decide) (by decide) (ev_is (z := coD S) (en_lc (as := everyM rows.length cells) (g0 := dD) (p := fun d => !decide (looseM rows st d = st) && !decide ((looseM rows st d).getD d.cell .no = .no)) (f := dD) (ei_list (ev_every (ev_var rfl) (ev_var rfl) n60 c60)) (fun a ha => eg_name (by decide)) (fun d hd => ?test) (fun d hd _ => ev_var rfl) (by omega)).toD rfl) ⟨rfl, rfl⟩) (sg_setJ (by decide) (by decide) (R := fun d => ∃ y : Dd, DdOk rows.length cells y ∧ d = dD y) ?draw (fun d hd => ?fin2))
      case test =>
        have hd' := every_mem.mp hd
        have dk : DvOk m rows st d := ⟨dev.val, dev.m60, by rw [stl]; exact hd', by rw [stl]; exact c60⟩
        refine et_and (a := !decide (looseM rows st d = st)) (et_is (et_B (ev_op (ev_lloose (ev_var rfl) (ev_var rfl) (ev_var rfl) dk) (ev_var rfl) (r2_ne (shp_st _) (shp_st _)))) (by rw [eqD_st])) (fun _ => et_B (ev_notNC (get_st (ev_lloose (ev_var rfl) (ev_var rfl) (ev_var rfl) dk) (dd_2 rfl) ?_)))
        rw [looseM_len, stl]
        exact hd'.in.cell
      case draw =>
        refine ej_p ?_
        by_cases hS : S = []
        · exact ep_imp (ep_ifB (b := false) (et_is (et_B (ev_op (ev_var rfl) (en_lst ea_nil (by show 0 ≤ 100000; decide)).toD (r2_ne (shp_co S) shp_emp))) (by rw [eqD_emp, hS]; rfl)) (fun h => by cases h) (fun _ => ep_d (ev_var rfl))) (fun d hd => ⟨x, hx, hd⟩) (by decide)
        · exact ep_imp (ep_ifB (b := true) (et_is (et_B (ev_op (ev_var rfl) (en_lst ea_nil (by show 0 ≤ 100000; decide)).toD (r2_ne (shp_co S) shp_emp))) (by
            rw [eqD_emp, List.isEmpty_map]
            cases q : S with
            | nil => exact absurd q hS
            | cons _ _ => rfl)) (fun _ => ep_call (ds := [coD S]) (ea_cons (ev_var rfl) ea_nil) rfl ⟨S.map dD, rfl, fun z => hS (List.map_eq_nil_iff.mp z), by rw [List.length_map]; omega⟩) (fun h => by cases h)) (fun d hd => by
            have hd' : d ∈ S.map dD := hd
            obtain ⟨y, hy, rfl⟩ := List.mem_map.mp hd'
            exact ⟨y, sM y hy, rfl⟩) (by decide)
      case fin2 =>
        obtain ⟨y, hy, rfl⟩ := hd
        exact ⟨y, hy, by show LeD [_, _, _, _, _, _, _, _, _, _] [_, _, _, _, _, _, _, _, _, _]; walk_at "le", rfl⟩
end
end Zm


set_option Elab.async false
set_option linter.all false
set_option maxRecDepth 100000
set_option maxHeartbeats 4000000
set_option autoImplicit false
namespace Zm
open PySem PySem.Spec PyProof.Rows L2
/-! ### list(range(a, b, c)) -/
def rgVC (a c : Int) (n : Nat) : List V := (List.range n).map fun (i : Nat) => V.int (a + (i : Nat) * c)
theorem vals_rgC {a c : Int} {n : Nat} {acc : Array Value} (h : ItemsOf (fun i v => ∃ t, v = .int (a + i * c) t) acc n) : Vals (rgVC a c n) acc.toList := by
  have e : acc.toList.length = n := by rw [Array.length_toList]; exact h.1
  unfold rgVC
  rw [← e]
  refine vals_of_get acc.toList _ fun j u hj => ?_
  obtain ⟨t, rfl⟩ := h.2 j u (by rw [← hj, Array.getElem?_toList])
  exact ⟨t, rfl⟩
def tLstRg3 (ta : TA) : TE := fun σ H Q => ta σ H fun vs H1 => ∃ (i j c : Int) (n : Nat), vs = [.int i, .int j, .int c] ∧ RgC i j c n ∧ n ≤ 100000 ∧ ∀ q, H1 q = none → Q (.ref q) (upd H1 q (.lst (rgVC i c n)))
section
variable {X : Cx} {a b c : Expr} {ta : TA} {p p2 pos pos2 : Pos}
theorem c_listRg3 (bf : BFree X.mg) (ha : PA X [a, b, c] ta) (hg : Gl X "list" := by rfl) (hg2 : Gl X "range" := by rfl) (hc : X.calm = true := by rfl)
    (hs : starEach [a, b, c] X.env = (false, eval a X.env) :: starEach [b, c] X.env := by rfl) (hpl : (backTo pos2 (starEach [b, c] X.env)).any (·.1) = false := by rfl)
    (na : starEach [(Expr.Call (.Name "range" p2) [a, b, c] [] pos2)] X.env = (false, eval (Expr.Call (.Name "range" p2) [a, b, c] [] pos2) X.env) :: starEach [] X.env := by rfl) :
    PE X (.Call (.Name "list" p) [.Call (.Name "range" p2) [a, b, c] [] pos2] [] pos) (tLstRg3 ta) := by
  refine ⟨fun pins s σ H Q I h => ?_⟩
  refine Call_ (ld_blt I hg (bf _ (by decide)) boot_list (PyProof.Rows.callWith_type1 (args_cons (thn (Q := fun x s1 => ∃ r i j k n t u v H1, x = .ref r ∧ IsRange s1.heap r i j k t u v ∧ Inv X pins σ H1 s1 ∧ RgC i j k n ∧ n ≤ 100000 ∧ ∀ q, H1 q = none → Q (.ref q) (upd H1 q (.lst (rgVC i k n)))) ?rng fun x s1 ⟨r, i, j, k, n, t, u, v, H1, ex, hr, I1, ok, hn, q⟩ => args_nil ?_) na) na))
  case rng =>
    refine Call_ (ld_blt I hg2 (bf _ (by decide)) boot_range (PyProof.Rows.callWith_type1 (thn (ha.run pos2 pins s σ H _ I h) fun us s1 ⟨vs, H1, I1, r1, q1⟩ => ?_) hs hpl))
    obtain ⟨i, j, k, n, e, ⟨c0, c1, c2, c3⟩, hn, q⟩ := q1
    subst e
    cases r1 with
    | cons r rr =>
      cases rr with
      | cons r' rr =>
        cases rr with
        | cons r'' rr =>
          cases rr
          obtain ⟨t, rfl⟩ := r
          obtain ⟨t', rfl⟩ := r'
          obtain ⟨t'', rfl⟩ := r''
          refine call_range_3 c0 ?_ (.inl (PyProof.noPylong_small c1))
          exact ⟨_, i, j, k, n, _, _, _, H1, rfl, IsRange.new _ _ _ _ _ _ _, I1.kept fun b u e => Heap.get?_push_of_some _ e, ⟨c0, c1, c2, c3⟩, hn, q⟩
  subst ex
  obtain ⟨c0, c1, c2, c3⟩ := ok
  refine call_list_range (n := n) (I1.ok.hd hc) hr c2 c3 (by omega) fun h' tk acc c' hk e' hi => ?_
  refine ⟨.ref s1.heap.objs.size, upd H1 s1.heap.objs.size (.lst (rgVC i k n)), I1.laid hk (Nat.le_refl _) (show ObjOk X.prog X.w _ _ _ (.lst (rgVC i k n)) from ⟨?_, acc.toList, c', vals_rgC hi, ?_⟩), rfl, q _ (I1.hok.fresh (Nat.le_refl _))⟩
  · unfold rgVC
    rw [List.length_map, List.length_range, sizeLine_eq]
    omega
  · rw [Array.toArray_toList]
    exact e'
end
def rgC (a c : Int) (n : Nat) : List Int := (List.range n).map fun (i : Nat) => a + (i : Int) * c
theorem en_listRg3 {K : PySem.W.Frag} {C : Addr} {δ : Dl} {ta : TA} {i j c : Int} {n : Nat} (h : EvA K C ta δ [.int i, .int j, .int c]) (hr : RgC i j c n) (hn : n ≤ 100000) : EvN K C (tLstRg3 ta) δ (.lst (dI (rgC i c n))) := fun O σ H nn Q q => h O σ H nn _ fun vs H1 s1 d1 => by
  obtain ⟨x, y, z, rfl, h1, h2, h3⟩ := dats_three.mp d1
  refine ⟨i, j, c, n, by rw [dat_int.mp h1, dat_int.mp h2, dat_int.mp h3], hr, hn, fun p hp => q p _ (s1.trans (same_new hp)) (back_none s1 hp) (dat_lst_iff.mpr ⟨p, _, rfl, hid_new (nn.same s1).own hp, dats_ints.mpr ?_⟩)⟩
  unfold rgVC rgC
  rw [List.map_map]
  rfl
/-! ### a told list that is new, judged, and then spoilt -/
theorem sx_told {K : PySem.W.Frag} {C : Addr} {δ δ' : Dl} {te tv : TE} {tt : TT} {tsr tb : TS} {i : Nat} {ds : List D} {e : D} (hi : i < δ.length) (hl : ds.length < 100000) (h : EvN K C te δ (.lst ds)) (ht : EvT K C tt (δ.set i (some (.lst ds))) false) (hv : EvD K C tv (δ.set i none) e) (g : StX K C tb (δ.set i none) δ') :
    StX K C (tSeq (tAsg te (gName i)) (tSeq (tIfS tt tsr tNext) (tSeq (tDrop (tBM K "list" rAppend (tVar i) (tCons tv tNil))) tb))) δ δ' := fun O σ H n Z q => h O σ H n _ fun p H1 s1 hp d1 => by
  have sl : σ.length = δ.length := n.env.1
  have n1 : At K C O H1 (σ.set i (some (.ref p))) (δ.set i (some (.lst ds))) := ⟨(n.same s1).own, (n.same s1).env.set i d1⟩
  refine ht O _ H1 n1 _ fun H2 s2 => ?_
  obtain ⟨p', xs, e1, h1, h2⟩ := dat_lst_iff.mp d1
  cases e1
  have h1' := s2 _ _ (hid_same _ _ h1)
  have n0 : At K C O H2 (σ.set i (some (.ref p))) (δ.set i none) := ⟨(n.same (s1.trans s2)).own, (n.same (s1.trans s2)).env.unset (some (.ref p)) i⟩
  refine ⟨.ref p, List.getElem?_set_self (by rw [sl]; exact hi), .inl ⟨rfl, xs, .inl (.inl h1')⟩, hv O _ H2 n0 _ fun v H3 s3 d3 => ⟨p, xs, v, rfl, rfl, s3 _ _ h1', by rw [h2.length]; exact Nat.lt_of_lt_of_le hl (by decide), ?_⟩⟩
  have s03 : Same H (upd H3 p (.lst (xs ++ [v]))) := fun b u hb => by
    rw [upd_ne (ne_of_none hb hp)]
    exact s3 _ _ (s2 _ _ (s1 _ _ hb))
  have n4 : At K C O (upd H3 p (.lst (xs ++ [v]))) (σ.set i (some (.ref p))) (δ.set i none) := ⟨(n.same s03).own, (n.same s03).env.unset (some (.ref p)) i⟩
  exact g O _ _ n4 Z fun σ' H' s' y => q σ' H' (s03.trans s') y
end Zm


set_option Elab.async false
set_option linter.all false
set_option maxRecDepth 100000
set_option maxHeartbeats 4000000
set_option autoImplicit false
namespace Zm
open PySem PySem.Spec L2
section
variable {K : PySem.W.Frag} {C : Addr} {δ δ' : Dl} {ta tb te : TE} {tt : TT} {ts : TS} {R : D → Prop} {c i j : Nat} {d e : D} {ds : List D}
theorem dats_flat {H : Hp} {xs : List V} (h : Dats K C H ds xs) : ∀ n, Dats K C H (List.replicate n ds).flatten (List.replicate n xs).flatten
  | 0 => .nil
  | n + 1 => by
    rw [List.replicate_succ, List.replicate_succ, List.flatten_cons, List.flatten_cons]
    exact h.append (dats_flat h n)
/-- xs * n -/
theorem r2_repL {n : Nat} (hn : n ≤ 1000) (hl : ds.length * n ≤ 100000) : R2N K C rRep (.lst ds) (.int (n : Int)) (.lst (List.replicate n ds).flatten) := fun O H x y o hx hy Q q => by
  obtain ⟨a, xs, rfl, h1, h2⟩ := dat_lst_iff.mp hx
  refine ⟨a, (n : Int), xs, rfl, dat_int.mp hy, hid_same _ _ h1, by omega, by omega, by rw [Int.toNat_natCast, h2.length]; exact Nat.le_trans hl (by decide), fun p hp => ?_⟩
  refine q p _ (same_new hp) hp (new_lst o hp ?_)
  rw [Int.toNat_natCast]
  exact dats_flat h2 n
/-- x, y = te, tf: the tuple is made first -/
theorem sp_asg2D (hi : i ≠ 0) (hj : j ≠ 0) (ha : EvA K C (tCons ta (tCons tb tNil)) δ [d, e]) (g : StP K C ts ((δ.set i (some d)).set j (some e)) c R) : StP K C (tSeq (tAsg (tTup (tCons ta (tCons tb tNil))) (gTup K 2 (gCons (gName i) (gCons (gName j) gNil)))) ts) δ c R := fun O σ H p n x hn Z q => by
  refine ha O σ H x.at_ (fun vs H1 => vs.length ≤ sizeLine ∧ ∀ T, H1 T = none → gTup K 2 (gCons (gName i) (gCons (gName j) gNil)) (.ref T) σ (upd H1 T (.tup vs)) (ts Z)) fun vs H1 s1 d1 => ?_
  obtain ⟨v, w, rfl, h1, h2⟩ := dats_two.mp d1
  refine ⟨by show 2 ≤ sizeLine; decide, fun T frT => ?_⟩
  have s2 : Same H1 (upd H1 T (.tup [v, w])) := same_new frT
  have s := s1.trans s2
  refine ⟨T, [v, w], rfl, .inl (.inl upd_same), rfl, v, [w], rfl, w, [], rfl, rfl, ?_⟩
  have x1 := x.but (But.of s) (x.purse.same s)
  exact g O _ _ p n ⟨⟨x1.at_.own, (x1.at_.env.set i (h1.same (same_hid s2))).set j (h2.same (same_hid s2))⟩, x1.own, x1.purse, by rw [List.getElem?_set_ne hj, List.getElem?_set_ne hi]; exact x1.slot⟩ hn Z fun v' H2 d' s3 p2 r hd => q v' H2 d' ((But.of s).trans s3) p2 r hd
theorem sp_sr (h : StR K C ts δ d) : StP K C ts δ 0 (fun z => z = d) := fun O σ H p n x hn Z q => h O σ H x.at_ Z fun v H' s hd => q v H' d (But.of s) (x.purse.same s) rfl hd
/-- draw == k, whatever it says -/
theorem ept_eqAny {k : Int} (h : EvP K C te δ c (fun d => ∃ i, d = .int i)) : EvPT K C (tB (tOp (rEqD K) te (tC (.int k)))) δ c (fun _ => True) := fun O σ H p n x hn Q q => h O σ H p n x hn _ fun v H1 d1 s1 p1 r1 hd => by
  obtain ⟨i, rfl⟩ := r1
  have x1 := x.but s1 p1
  show rEqD K v (V.int k) H1 fun x H' => ∃ c, x = V.bl c ∧ Q c H'
  refine r2_eq (K := K) (C := C) (d := .int i) (e := .int k) shp_int shp_int O H1 v (.int k) x1.at_.own hd (dat_int.mpr rfl) _ fun z H2 s2 dz => ?_
  exact ⟨_, dat_bl.mp dz, q _ H2 (s1.trans (But.of s2)) (p1.same s2) trivial⟩
end
theorem picks_ints {α : Type} {B : Bool → Prop} {g : α → Int} {as : List α} {ds : List D} (h : Picks B (fun a d => d = .int (g a)) as ds) : ∃ ms : List Int, ds = dI ms ∧ (∀ x ∈ ms, ∃ a ∈ as, x = g a) ∧ ms.length ≤ as.length := by
  induction h with
  | nil => exact ⟨[], rfl, (fun x hx => by cases hx), Nat.le_refl _⟩
  | skip _ _ ih =>
    obtain ⟨ms, rfl, h1, h2⟩ := ih
    exact ⟨ms, rfl, fun x hx => by
      obtain ⟨a, ha, e⟩ := h1 x hx
      exact ⟨a, List.mem_append_left _ ha, e⟩, by rw [List.length_append]; omega⟩
  | take hp hr ih =>
    rename_i a as ds d
    obtain ⟨ms, rfl, h1, h2⟩ := ih
    subst hr
    refine ⟨ms ++ [g a], ?_, fun x hx => ?_, ?_⟩
    · unfold dI
      rw [List.map_append]
      rfl
    · rcases List.mem_append.mp hx with hx | hx
      · obtain ⟨b, hb, e⟩ := h1 x hx
        exact ⟨b, List.mem_append_left _ hb, e⟩
      · rw [List.mem_singleton.mp hx]
        exact ⟨a, List.mem_append_right _ (List.mem_singleton.mpr rfl), rfl⟩
    · rw [List.length_append, List.length_append]
      exact Nat.add_le_add h2 (Nat.le_refl _)
theorem picks_lists {α β : Type} {B : Bool → Prop} {g : β → D} {Pb : β → Prop} {as : List α} {ds : List D} (h : Picks B (fun _ d => ∃ b, d = g b ∧ Pb b) as ds) : ∃ bs : List β, ds = bs.map g ∧ (∀ b ∈ bs, Pb b) ∧ bs.length ≤ as.length := by
  induction h with
  | nil => exact ⟨[], rfl, (fun x hx => by cases hx), Nat.le_refl _⟩
  | skip _ _ ih =>
    obtain ⟨ms, rfl, h1, h2⟩ := ih
    exact ⟨ms, rfl, h1, by rw [List.length_append]; omega⟩
  | take hp hr ih =>
    obtain ⟨ms, rfl, h1, h2⟩ := ih
    obtain ⟨b, rfl, hb⟩ := hr
    refine ⟨ms ++ [b], by rw [List.map_append]; rfl, fun x hx => ?_, by rw [List.length_append, List.length_append]; exact Nat.add_le_add h2 (Nat.le_refl _)⟩
    rcases List.mem_append.mp hx with hx | hx
    · exact h1 x hx
    · rw [List.mem_singleton.mp hx]
      exact hb
/-! ### right courses, cut anywhere -/
theorem set_take {α : Type} {s : List α} {c : Nat} {x : α} : (s.set c x).take c = s.take c := by
  rw [List.take_set_of_le (Nat.le_refl c)]
theorem set_drop {α : Type} {s : List α} {c : Nat} {x : α} : (s.set c x).drop (c + 1) = s.drop (c + 1) := List.drop_set_of_lt (Nat.lt_succ_self c)
theorem others_sub {s : List Ct} {c : Nat} {o : Ct} (h : o ∈ s.take c ++ s.drop (c + 1)) : o ∈ s := (List.mem_append.mp h).elim List.mem_of_mem_take List.mem_of_mem_drop
theorem right_make {rows : List (List Int)} {s : List Ct} {b c : Nat} (h : wrongs rows s (.make b c) = []) : ∀ o ∈ rowM rows b, Ct.old o ∈ s.take c ++ s.drop (c + 1) := fun o ho => by
  have e := List.filter_eq_nil_iff.mp (List.map_eq_nil_iff.mp h) o ho
  by_cases q : Ct.old o ∈ s.take c ++ s.drop (c + 1)
  · exact q
  · exact absurd (by rw [decide_eq_false q]; rfl) e
theorem right_copy {rows : List (List Int)} {s : List Ct} {a c : Nat} (h : wrongs rows s (.copy a c) = []) : s.getD a .no ≠ .no ∧ a ≠ c := by
  obtain ⟨h1, h2⟩ := List.append_eq_nil_iff.mp h
  refine ⟨fun z => ?_, fun z => ?_⟩
  · rw [if_pos z] at h1
    cases h1
  · rw [if_pos z] at h2
    cases h2
theorem getD_set_ne {s : List Ct} {a c : Nat} {x : Ct} (h : a ≠ c) : (s.set c x).getD a .no = s.getD a .no := by
  rw [List.getD_eq_getElem?_getD, List.getD_eq_getElem?_getD, List.getElem?_set_ne (Ne.symm h)]
/-- a right deed that is cut does what it does -/
theorem right_cut {rows : List (List Int)} {s : List Ct} {d : Dd} (h : wrongs rows s d = []) : looseM rows s d = behindM s d ∧ looseM rows (cutM s d) d = behindM s d := by
  cases d with
  | make b c =>
    have r := right_make h
    constructor
    · show (if ∀ o ∈ rowM rows b, Ct.old o ∈ s then _ else _) = s.set c (.new b)
      rw [if_pos (fun o ho => others_sub (r o ho))]
    · show (if ∀ o ∈ rowM rows b, Ct.old o ∈ s.set c .no then (s.set c .no).set c (.new b) else _) = s.set c (.new b)
      rw [if_pos, List.set_set]
      intro o ho
      refine others_sub (c := c) ?_
      rw [set_take, set_drop]
      exact r o ho
  | copy a c =>
    obtain ⟨_, ne⟩ := right_copy h
    constructor
    · rfl
    · show (s.set c .no).set c ((s.set c .no).getD a .no) = s.set c (s.getD a .no)
      rw [getD_set_ne ne, List.set_set]
/-- done again it is right, and changes nothing -/
theorem right_again {rows : List (List Int)} {s : List Ct} {d : Dd} (h : wrongs rows s d = []) : wrongs rows (behindM s d) d = [] ∧ behindM (behindM s d) d = behindM s d := by
  cases d with
  | make b c =>
    constructor
    · show ((rowM rows b).filter fun o => !decide (Ct.old o ∈ (s.set c (.new b)).take c ++ (s.set c (.new b)).drop (c + 1))).map _ = []
      rw [set_take, set_drop]
      exact h
    · show (s.set c (.new b)).set c (.new b) = s.set c (.new b)
      rw [List.set_set]
  | copy a c =>
    obtain ⟨h1, ne⟩ := right_copy h
    constructor
    · show (if (s.set c (s.getD a .no)).getD a .no = .no then _ else []) ++ (if a = c then _ else []) = []
      rw [getD_set_ne ne, if_neg h1, if_neg ne]
      rfl
    · show (s.set c (s.getD a .no)).set c ((s.set c (s.getD a .no)).getD a .no) = s.set c (s.getD a .no)
      rw [getD_set_ne ne, List.set_set]
theorem day_right {rows : List (List Int)} {cuts : List Int} : ∀ {co : List Dd} {s : List Ct} {k : Nat}, RightC rows s co → (co.zipIdx k).foldl (dayStep rows cuts) s = runM s co
  | [], _, _, _ => rfl
  | d :: co, s, k, h => by
    obtain ⟨h1, h2⟩ := right_cut h.1
    rw [List.zipIdx_cons, List.foldl_cons]
    have e : dayStep rows cuts s (d, k) = behindM s d := by
      unfold dayStep
      split
      · exact h2
      · exact h1
    rw [e, day_right h.2]
    rfl
theorem right_app {rows : List (List Int)} : ∀ {co : List Dd} {s : List Ct} {d : Dd} {j : Nat}, RightC rows s (co ++ [d]) → RightC rows s (co ++ [d] ++ List.replicate j d) ∧ runM s (co ++ [d] ++ List.replicate j d) = runM s (co ++ [d])
  | co, s, d, 0, h => by
    rw [List.replicate_zero, List.append_nil]
    exact ⟨h, rfl⟩
  | co, s, d, j + 1, h => by
    obtain ⟨h1, h2⟩ := right_app (j := j) h
    have e : List.replicate (j + 1) d = List.replicate j d ++ [d] := List.replicate_succ'
    rw [e, ← List.append_assoc, right_snoc, runM_snoc, h2]
    have w := (right_snoc.mp h).2
    rw [runM_snoc]
    obtain ⟨a1, a2⟩ := right_again w
    exact ⟨⟨h1, a1⟩, a2⟩
end Zm


set_option Elab.async false
set_option linter.all false
set_option maxRecDepth 100000
set_option maxHeartbeats 4000000
set_option autoImplicit false
namespace Zm
open PySem PySem.Spec L2
local macro_rules | `(tactic| walk_at "le") => `(tactic| first | exact le0 | (refine leS ?_; walk_at "le") | (refine leN ?_; walk_at "le"))
theorem plain_cD {n : Nat} (c : Ct) : Plain (n + 2) (cD c) := by
  have st : ∀ {s : Str}, ShN 0 (.str s) → Plain (n + 1) (.str s) := fun h => h.shp (by decide)
  cases c with
  | no => trivial
  | old b => exact ⟨by show 2 ≤ 100000; decide, fun e he => by
      simp only [List.mem_cons, List.mem_nil_iff, or_false] at he
      rcases he with rfl | rfl
      · exact st shN_old
      · trivial⟩
  | new b => exact ⟨by show 2 ≤ 100000; decide, fun e he => by
      simp only [List.mem_cons, List.mem_nil_iff, or_false] at he
      rcases he with rfl | rfl
      · exact st shN_new
      · trivial⟩
theorem plain_dD {n : Nat} (c : Dd) : Plain (n + 2) (dD c) := by
  have st : ∀ {s : Str}, ShN 0 (.str s) → Plain (n + 1) (.str s) := fun h => h.shp (by decide)
  cases c with
  | make b c => exact ⟨by show 3 ≤ 100000; decide, fun e he => by
      simp only [List.mem_cons, List.mem_nil_iff, or_false] at he
      rcases he with rfl | rfl | rfl
      · exact st shN_make
      · trivial
      · trivial⟩
  | copy b c => exact ⟨by show 3 ≤ 100000; decide, fun e he => by
      simp only [List.mem_cons, List.mem_nil_iff, or_false] at he
      rcases he with rfl | rfl | rfl
      · exact st shN_copy
      · trivial
      · trivial⟩
theorem plain_st {n : Nat} {s : List Ct} (h : s.length ≤ 100000) : Plain (n + 3) (stD s) := ⟨by rw [List.length_map]; exact h, fun e he => by
  obtain ⟨c, _, rfl⟩ := List.mem_map.mp he
  exact plain_cD c⟩
theorem plain_co {n : Nat} {s : List Dd} (h : s.length ≤ 100000) : Plain (n + 3) (coD s) := ⟨by rw [List.length_map]; exact h, fun e he => by
  obtain ⟨c, _, rfl⟩ := List.mem_map.mp he
  exact plain_dD c⟩
theorem plain_is {n : Nat} {s : List Int} (h : s.length ≤ 100000) : Plain (n + 2) (.lst (dI s)) := ⟨by unfold dI; rw [List.length_map]; exact h, fun e he => by
  obtain ⟨c, _, rfl⟩ := List.mem_map.mp he
  trivial⟩
theorem plain_three {n : Nat} {a b c : D} (h1 : Plain n a) (h2 : Plain n b) (h3 : Plain n c) : Plain (n + 1) (.lst [a, b, c]) := ⟨by show 3 ≤ 100000; decide, fun e he => by
  simp only [List.mem_cons, List.mem_nil_iff, or_false] at he
  rcases he with rfl | rfl | rfl
  · exact h1
  · exact h2
  · exact h3⟩
abbrev encDays (a : Int × List (List Int) × Nat × List Dd) : List D := [.rcp a.1 a.2.1, recD a.1 a.2.1, .int a.2.2.1, coD a.2.2.2]
abbrev sp_days (K : PySem.W.Frag) (C : Addr) : Sp := SpPM K C (fun a : Int × List (List Int) × Nat × List Dd => CoOk a.1 a.2.1 a.2.2.1 a.2.2.2 ∧ a.2.2.2.length ≤ 20) encDays 80 (fun _ d => d = .bl true) 4
theorem cut_n {α : Type} {xs : List α} {k : Nat} : cutD xs none (some (k : Int)) = xs.take k := by
  unfold cutD HT.sIx
  have h1 : ¬ ((k : Int) < 0) := by omega
  show (xs.drop 0).take ((if (k : Int) < 0 then _ else min (k : Int).toNat xs.length) - 0) = _
  rw [if_neg h1, List.drop_zero, Nat.sub_zero, Int.toNat_natCast]
  rcases Nat.le_total k xs.length with h | h
  · rw [Nat.min_eq_left h]
  · rw [Nat.min_eq_right h, List.take_length, List.take_of_length_le h]
theorem dI_take {ns : List Int} {k : Nat} : (dI ns).take k = dI (ns.take k) := by
  unfold dI
  rw [List.map_take]
theorem dI_app {a b : List Int} : dI a ++ dI b = dI (a ++ b) := by
  unfold dI
  rw [List.map_append]
theorem dI_rep {a : List Int} {n : Nat} : (List.replicate n (dI a)).flatten = dI (List.replicate n a).flatten := by
  unfold dI
  rw [List.map_flatten, List.map_replicate]
/-- the lists of cuts that are asked first -/
def cutLists (ns : List Int) : List (List Int) := [[], ns.take 6, (ns.take 3 ++ ns).take 6, (List.replicate 3 (ns.take 1)).flatten, (List.replicate 10 ns).flatten.take 10]
theorem cutLists_sub {ns : List Int} (hl : ns.length ≤ 20) : ∀ L ∈ cutLists ns, (∀ x ∈ L, x ∈ ns) ∧ L.length ≤ 20 := fun L hL => by
  unfold cutLists at hL
  have rp : ∀ {n : Nat} {l : List Int} {x : Int}, x ∈ (List.replicate n l).flatten → x ∈ l := fun h => by
    obtain ⟨l', h1, h2⟩ := List.mem_flatten.mp h
    rwa [(List.mem_replicate.mp h1).2] at h2
  simp only [List.mem_cons, List.mem_nil_iff, or_false] at hL
  rcases hL with rfl | rfl | rfl | rfl | rfl
  · exact ⟨fun x hx => (by cases hx), Nat.zero_le _⟩
  · exact ⟨fun x hx => List.mem_of_mem_take hx, by rw [List.length_take]; omega⟩
  · exact ⟨fun x hx => (List.mem_append.mp (List.mem_of_mem_take hx)).elim List.mem_of_mem_take id, by rw [List.length_take]; omega⟩
  · refine ⟨fun x hx => List.mem_of_mem_take (rp hx), ?_⟩
    rw [List.length_flatten, List.map_replicate, List.sum_replicate_nat, List.length_take]
    omega
  · exact ⟨fun x hx => rp (List.mem_of_mem_take hx), by rw [List.length_take]; omega⟩
section
variable {P : Program} {w : World} {K : PySem.W.Frag} {mg : Str → Option Value} {base : Heap} {f C : Addr} {fd : FuncData}
theorem exa26 {δ : Dl} {ta tb : TE} {d : D} (ha : EvD K C ta δ d) (hb : EvD K C tb δ d) (hp : Plain 5 d) : EvT K C (tNot (tB (tCall (sp_exact K C 5) [] E0 (tCons ta (tCons tb tNil))))) δ false := et_is (et_not (et_B (ev_is (z := .bl true) (ev_call (ds := [d, d]) (ea_cons ha (ea_cons hb ea_nil)) rfl ⟨_, rfl, hp⟩) rfl))) rfl
theorem en_day {δ : Dl} {E : XK} {ta tb tc td : TE} {m : Int} {rows : List (List Int)} {cells : Nat} {co : List Dd} {cs : List Int} (ha : EvD K C ta δ (.rcp m rows)) (hb : EvD K C tb δ (.int (cells : Int))) (hc : EvD K C tc δ (coD co)) (hd : EvD K C td δ (.lst (dI cs))) (h : CoOk m rows cells co) (hk : CutsOk co.length cs) : EvN K C (tCall (sp_day K C) [] E (tCons ta (tCons tb (tCons tc (tCons td tNil))))) δ (stD (dayM rows (begunM m.toNat cells) co cs)) :=
  en_callM (pre := fun a : (Int × List (List Int) × Nat × List Dd) × List Int => CoOk a.1.1 a.1.2.1 a.1.2.2.1 a.1.2.2.2 ∧ CutsOk a.1.2.2.2.length a.2) (enc := fun a => encCo a.1 ++ [.lst (dI a.2)]) (out := fun a => stD (dayM a.1.2.1 (begunM a.1.1.toNat a.1.2.2.1) a.1.2.2.2 a.2)) ((m, rows, cells, co), cs) (ea_cons ha (ea_cons hb (ea_cons hc (ea_cons hd ea_nil)))) rfl ⟨h, hk⟩
theorem sc_law_days_right : FnScope ["purse", "made", "recipe", "cells", "course", "lists", "some", "spots", "handed", "breaks", "due", "told", "turn", "at"] ["purse", "made", "recipe", "cells", "course"] (defScope (top 62)) := ⟨rfl, rfl, rfl, by decide +kernel, rfl, by decide +kernel, by decide +kernel⟩
-- slots: purse=0 made=1 recipe=2 cells=3 course=4 lists=5 some=6 spots=7 handed=8 breaks=9 due=10 told=11 turn=12 at=13
theorem ok_law_days_right (B : BFree mg) (D_law_draw : DefOk P w K mg base "_law_draw" 2 ["purse", "many"] spDraw) (D_law_day : DefOk P w K mg base "_law_day" 4 ["recipe", "cells", "course", "breaks"] (sp_lday K C)) (D_day : DefOk P w K mg base "day" 7 ["recipe", "cells", "course", "cuts"] (sp_day K C)) (D_law_exact : DefOk P w K mg base "_law_exact" 5 ["mine", "theirs"] (sp_exact K C 5)) (F : DefAt K mg "_law_days_right" ["purse", "made", "recipe", "cells", "course"] (top 62) f fd) : DefOk P w K mg base "_law_days_right" 8 ["purse", "made", "recipe", "cells", "course"] (sp_days K C) := by
  refine okPM F sc_law_days_right rfl (fun _ => rfl) fun cdv A outer s H E hr => ⟨_, (pss_cons (ps_asg (pe_tup (pa_cons (c_listRg1 B (c_len (K := K) B (pa_cons (pv 4) pa_nil))) (pa_cons (c_list (K := K) B (pa_cons (pv 4) pa_nil)) pa_nil))) (g_tup (K := K) (n := 2) (pgs_cons (pg_name (i := 7) sc_law_days_right.nd rfl (.inr rfl)) (pgs_cons (pg_name (i := 8) sc_law_days_right.nd rfl (.inl rfl)) pgs_nil)))) (pss_cons (ps_set (i := 5) sc_law_days_right.nd rfl (.inl rfl) (pe_op op_cat (pe_lst (pa_cons (pe_lst pa_nil) (pa_cons (pe_slice (x_sl (K := K)) (pv 7) po_none (po_some pe_int)) (pa_cons (pe_slice (x_sl (K := K)) (pe_op op_cat (pe_slice (x_sl (K := K)) (pv 7) po_none (po_some pe_int)) (pv 7)) po_none (po_some pe_int)) (pa_cons (pe_op op_rep (pe_slice (x_sl (K := K)) (pv 7) po_none (po_some pe_int)) pe_int) (pa_cons (pe_slice (x_sl (K := K)) (pe_op op_rep (pv 7) pe_int) po_none (po_some pe_int)) pa_nil)))))) (pe_lc (own := [("turn", 12)]) rfl sc_law_days_right.nd (i_rng1 B (pa_cons pe_int pa_nil)) (blkOk_by (own := [("turn", 12)]) (N := ["purse", "made", "recipe", "cells", "course", "lists", "some", "spots", "handed", "breaks", "due", "told", "turn", "at"]) (sc := (defScope (top 62))) (by decide +kernel)) (fun _ _ _ _ _ => pg_name (i := 12) sc_law_days_right.nd rfl (.inl rfl)) (fun _ _ _ _ _ => pts_nil) (fun _ _ _ _ _ => (pe_lc (own := [("at", 13)]) rfl sc_law_days_right.nd (i_list (K := K) (pv 7)) (blkOk_by (own := [("at", 13)]) (N := ["purse", "made", "recipe", "cells", "course", "lists", "some", "spots", "handed", "breaks", "due", "told", "turn", "at"]) (sc := (relS _ (defScope (top 62)))) (by decide +kernel)) (fun _ _ _ _ _ => pg_name (i := 13) sc_law_days_right.nd rfl (.inl rfl)) (fun _ _ _ _ _ => pts_one (pt_cmpR (o_eq (K := K) (by exact hr.units)) (pe_def D_law_draw (hr.mono (by first | decide | omega)) (pa_cons (pv 0) (pa_cons pe_int pa_nil))) pe_int (nomark _))) (fun _ _ _ _ _ => (pv 13))))))) (pss_cons (ps_for PassesOwn.never rfl (i_list (K := K) (pv 5)) (pg_name (i := 6) sc_law_days_right.nd rfl (.inl rfl)) (pss_cons (ps_set (i := 9) sc_law_days_right.nd rfl (.inl rfl) (c_sorted (K := K) B (pa_cons (pv 6) pa_nil))) (pss_cons (ps_set (i := 10) sc_law_days_right.nd rfl (.inl rfl) (pe_def D_law_day (hr.mono (by first | decide | omega)) (pa_cons (pv 2) (pa_cons (pv 3) (pa_cons (pv 4) (pa_cons (pv 9) pa_nil)))))) (pss_cons (ps_set (i := 11) sc_law_days_right.nd rfl (.inl rfl) (pe_def D_day (hr.mono (by first | decide | omega)) (pa_cons (pv 1) (pa_cons (pv 3) (pa_cons (pv 8) (pa_cons (pv 9) pa_nil)))))) (pss_cons (ps_if (pt_not (pt_val (pe_def D_law_exact (hr.mono (by first | decide | omega)) (pa_cons (pe_lst (pa_cons (pv 11) (pa_cons (pv 8) (pa_cons (pv 9) pa_nil)))) (pa_cons (pe_lst (pa_cons (pv 10) (pa_cons (pv 4) (pa_cons (c_sorted (K := K) B (pa_cons (pv 6) pa_nil)) pa_nil)))) pa_nil))))) (pss_one (ps_ret pe_bl)) pss_nil) (pss_cons (ps_expr (pe_bm PySem.F.plainAttrs_list PySem.F.slot_list_append PySem.F.type_list_append mt_append (pv 11) (pa_cons pe_str pa_nil))) (pss_one (ps_if (pt_not (pt_val (pe_def D_law_exact (hr.mono (by first | decide | omega)) (pa_cons (pe_def D_day (hr.mono (by first | decide | omega)) (pa_cons (pv 1) (pa_cons (pv 3) (pa_cons (pv 8) (pa_cons (pv 9) pa_nil))))) (pa_cons (pv 10) pa_nil))))) (pss_one (ps_ret pe_bl)) pss_nil)))))))) (pss_one (ps_ret pe_bl))))), ?_⟩
  rintro ⟨m, rows, cells, co⟩ ⟨ok, l20⟩
  have ok : CoOk m rows cells co := ok
  have l20 : co.length ≤ 20 := l20
  have sl : (begunM m.toNat cells).length = cells := begunM_len (by have := ok.dev.cm; have := ok.dev.val.1; omega)
  have c60 := ok.dev.c60
  show StP K C _ [none, some (.rcp m rows), some (recD m rows), some (.int cells), some (coD co), none, none, none, none, none, none, none, none, none] 80 (fun d => d = .bl true)
  let ns := rgI 0 (co.length : Int)
  have nl : ns.length = co.length := by
    show (rgI 0 (co.length : Int)).length = _
    rw [rgI_len]
    omega
  have nb : ∀ x ∈ ns, 0 ≤ x ∧ x < (co.length : Int) := fun x hx => rgI_mem.mp hx
  have lenC : ∀ {δ : Dl}, δ[4]? = some (some (coD co)) → EvD K C (tCB (fun xs H Q => ∃ p ys, xs = [V.ref p] ∧ (SqL K H p ys ∨ SqT K H p ys) ∧ Q (.int ys.length) H) (tCons (tVar 4) tNil)) δ (.int (co.length : Int)) := fun h => ev_is (ev_cb (ea_cons (ev_var h) ea_nil) rc_lenL) (congrArg (fun (k : Nat) => D.int (k : Int)) (List.length_map _))
  refine sp_asg2D (by decide) (by decide) (d := .lst (dI ns)) (e := coD co) (ea_cons (en_listRg1 (j := (co.length : Int)) (lenC rfl) (RgOk.of_le (by omega) (by omega) (by omega) (by omega))).toD (ea_cons (en_cb (ea_cons (ev_var rfl) ea_nil) rn_listL).toD ea_nil)) ?_
  have cut : ∀ {δ : Dl} {k : Nat} {l : List Int} {te : TE}, EvD K C te δ (.lst (dI l)) → EvD K C (tSl (rSlL K) te tNoPart (tPart (tC (.int (k : Int))))) δ (.lst (dI (l.take k))) := fun {δ k l te} h => ev_is (en_sl h eo_none (eo_some ev_int)).toD (by rw [cut_n, dI_take])
  refine sp_imp (c := 0 + 80 + 0) (sp_set (c1 := 0 + 80) (R1 := fun d => ∃ Ls : List (List Int), d = rowsL Ls ∧ Ls.length ≤ 9 ∧ ∀ L ∈ Ls, (∀ x ∈ L, x ∈ ns) ∧ L.length ≤ 20) (by decide) (ep_op (R1 := fun d => d = rowsL (cutLists ns)) (R2 := fun d => ∃ Ls : List (List Int), d = rowsL Ls ∧ Ls.length ≤ 4 ∧ ∀ L ∈ Ls, (∀ x ∈ L, x ∈ ns) ∧ L.length ≤ 20) (ep_d ?first) ?second (fun d e r1 r2 => ?cat)) (fun d hd => ?loop)) (fun d h => h) (by decide)
  case cat =>
    subst r1
    obtain ⟨Ls, rfl, h1, h2⟩ := r2
    refine ⟨_, R2N.toD (r2_cat ?_), cutLists ns ++ Ls, by show _ = D.lst _; rw [List.map_append], ?_, fun L hL => ?_⟩
    · rw [List.length_map, List.length_map]
      show 5 + Ls.length ≤ 100000
      omega
    · rw [List.length_append]
      show 5 + Ls.length ≤ 9
      omega
    · rcases List.mem_append.mp hL with h | h
      · exact cutLists_sub (by omega) L h
      · exact h2 L h
  case first =>
    refine ev_is (en_lst (ea_cons (en_lst ea_nil (by show 0 ≤ 100000; decide)).toD (ea_cons (cut (k := 6) (ev_var rfl)) (ea_cons (cut (k := 6) (ev_is (z := .lst (dI (ns.take 3 ++ ns))) (ev_op (cut (k := 3) (ev_var rfl)) (ev_var rfl) (R2N.toD (r2_cat ?l1))) (by rw [dI_app]))) (ea_cons (ev_is (z := .lst (dI (List.replicate 3 (ns.take 1)).flatten)) (ev_op (cut (k := 1) (ev_var rfl)) ev_int (R2N.toD (r2_repL (n := 3) (by decide) ?l2))) (by rw [dI_rep])) (ea_cons (cut (k := 10) (ev_is (z := .lst (dI (List.replicate 10 ns).flatten)) (ev_op (ev_var rfl) ev_int (R2N.toD (r2_repL (n := 10) (by decide) ?l3))) (by rw [dI_rep]))) ea_nil))))) (by show 5 ≤ 100000; decide)).toD rfl
    case l1 =>
      unfold dI
      rw [List.length_map, List.length_map, List.length_take]
      omega
    case l2 =>
      unfold dI
      rw [List.length_map, List.length_take]
      omega
    case l3 =>
      unfold dI
      rw [List.length_map]
      omega
  case second =>
    refine ep_imp (c := 4 * (0 + 20)) (ep_lcR (n := 4) (N := 4) (ct := 0) (ce := 20) (B := fun b => b = true) (Re := fun _ d => ∃ L : List Int, d = .lst (dI L) ∧ ((∀ x ∈ L, x ∈ ns) ∧ L.length ≤ 20)) ev_int (by decide) (by decide) (by decide) (by decide) (by decide) (fun k hk => ept_d et_yes) (fun k hk => ?inner)) (fun d hd => ?o6) (by decide)
    case inner =>
      refine ep_imp (c := 0 + 20 * (1 + 0)) (ep_lc (c1 := 0) (ct := 1) (ce := 0) (α := Int) (g0 := D.int) (B := fun _ => True) (Re := fun a d => d = .int (id a)) (Rs := fun as => as = ns) (fun O σ H p n x hn Z q => epi_of (ei_list (ds := dI ns) (ev_var rfl)) O σ H p n x hn Z fun J H' ds s pu r w => q J H' ds s pu ⟨ns, r, rfl⟩ w) (by decide) 20 (fun as h => by rw [h, nl]; exact l20) (by decide) (fun as h a ha => eg_name (by decide)) (fun as h a ha => ept_eqAny (ep_imp (ep_draw ev_int (by decide) (by decide)) (fun d hd => by obtain ⟨i, rfl, _⟩ := hd; exact ⟨i, rfl⟩) (Nat.le_refl _))) (fun as h a ha => ep_d (ev_var rfl))) (fun d hd => ?_) (by decide)
      obtain ⟨as, ds, rfl, rfl, hp⟩ := hd
      obtain ⟨ms, rfl, h1, h2⟩ := picks_ints hp
      exact ⟨ms, rfl, fun x hx => by
        obtain ⟨a, ha, rfl⟩ := h1 x hx
        exact ha, by omega⟩
    case o6 =>
      obtain ⟨ds, rfl, hp⟩ := hd
      obtain ⟨Ls, rfl, h1, h2⟩ := picks_lists hp
      exact ⟨Ls, rfl, by rw [List.length_range] at h2; exact h2, h1⟩
  case loop =>
    obtain ⟨Ls, rfl, l9, hL⟩ := hd
    refine sp_sr (sr_seq (δ' := [none, some (.rcp m rows), some (recD m rows), some (.int cells), some (coD co), none, none, none, some (coD co), none, none, none, none, none]) (sx_weak (sx_for (as := Ls) (g0 := fun r => D.lst (dI r)) (δs := fun _ => [none, some (.rcp m rows), some (recD m rows), some (.int cells), some (coD co), none, none, none, some (coD co), none, none, none, none, none]) (ei_list (ev_var rfl)) (by walk_at "le") (fun k L hk => ⟨_, ega_name, ?body⟩)) (by walk_at "le")) (sr_ret ev_bl))
    obtain ⟨h1, h2⟩ := hL L (List.mem_of_getElem? hk)
    have ck : CutsOk co.length (srt L) := ⟨fun x hx => nb x (h1 x ((srt_perm L).mem_iff.mp hx)), srt_le L, by rw [(srt_perm L).length_eq]; omega⟩
    have dl : (dayM rows (begunM m.toNat cells) co (srt L)).length = cells := by
      unfold dayM
      rw [dayTo_len, sl]
    have ps : ∀ {n : Nat}, Plain (n + 3) (stD (dayM rows (begunM m.toNat cells) co (srt L))) := plain_st (by omega)
    have pb : ∀ {n : Nat}, Plain (n + 2) (.lst (dI (srt L))) := plain_is (by rw [(srt_perm L).length_eq]; omega)
    refine sx_seq (sx_set (en_cb (ea_cons (ev_var rfl) ea_nil) rn_sorted).toD) ?_
    refine sx_seq (sx_set (d := stD (dayM rows (begunM m.toNat cells) co (srt L))) (ev_callM (pre := fun a : (Int × List (List Int) × Nat × List Dd) × List Int => CoOk a.1.1 a.1.2.1 a.1.2.2.1 a.1.2.2.2 ∧ a.2.length ≤ 1000) (enc := fun a => [recD a.1.1 a.1.2.1, .int a.1.2.2.1, coD a.1.2.2.2, .lst (dI a.2)]) (out := fun a => stD (dayM a.1.2.1 (begunM a.1.1.toNat a.1.2.2.1) a.1.2.2.2 a.2)) ((m, rows, cells, co), srt L) (ea_cons (ev_var rfl) (ea_cons (ev_var rfl) (ea_cons (ev_var rfl) (ea_cons (ev_var rfl) ea_nil)))) rfl ⟨ok, ck.2.2⟩)) ?_
    refine sx_told (i := 11) (ds := (dayM rows (begunM m.toNat cells) co (srt L)).map cD) (e := .str "spoilt") (by show 11 < 14; decide) (by rw [List.length_map]; omega) (en_day (ev_var rfl) (ev_var rfl) (ev_var rfl) (ev_var rfl) ok ck) (exa26 (d := .lst [stD (dayM rows (begunM m.toNat cells) co (srt L)), coD co, .lst (dI (srt L))]) (en_lst (ea_cons (ev_var rfl) (ea_cons (ev_var rfl) (ea_cons (ev_var rfl) ea_nil))) (by show 3 ≤ 100000; decide)).toD (en_lst (ea_cons (ev_var rfl) (ea_cons (ev_var rfl) (ea_cons (en_cb (ea_cons (ev_var rfl) ea_nil) rn_sorted).toD ea_nil))) (by show 3 ≤ 100000; decide)).toD (plain_three (n := 4) (ps (n := 1)) (plain_co (n := 1) (by omega)) (pb (n := 2)))) ev_str ?_
    exact sx_weak (sx_if (b := false) (exa26 (en_day (ev_var rfl) (ev_var rfl) (ev_var rfl) (ev_var rfl) ok ck).toD (ev_var rfl) (ps (n := 2))) (fun h => by cases h) (fun _ => sx_next)) (by walk_at "le")
end
end Zm


set_option Elab.async false
set_option linter.all false
set_option maxRecDepth 100000
set_option maxHeartbeats 4000000
set_option autoImplicit false
namespace Zm
open PySem PySem.Spec L2
theorem wipeD_lenC : ∀ {vs : List Nat} {δ : Dl}, (wipeD δ vs).length = δ.length := by
  intro vs
  induction vs with
  | nil => intro δ; rfl
  | cons v vs ih => intro δ; show ((wipeD δ vs).set v none).length = _; rw [List.length_set, ih]
/-! ### more of draws, the purse in any slot -/
section
variable {K : PySem.W.Frag} {C : Addr} {i j l c c1 c2 : Nat} {δ δ' : Dl} {ta te : TE} {tt : TT} {tr : TA} {ts : TS} {R R1 R2 : D → Prop} {Rs P : List D → Prop}
/-- [x for x in range(n) if a draw says so] -/
theorem ej_lcT {N : Nat} {k : Int} {vs : List Nat} (hk : k = (N : Int)) (h : EvD K C ta δ (.int k)) (h0 : j ∉ vs) (hi : i ∈ vs) (hil : i < δ.length) (hN2 : N ≤ 1000)
    (hT : ∀ a : Nat, a < N → EvJB K C j tt ((wipeD δ vs).set i (some (.int (0 + (a : Int))))) c) : EvJ K C j (tLc (iRng1 (tCons ta tNil)) (gName i) tt (tVar i) vs) δ (N * c) (fun d => ∃ ms : List Int, d = .lst (dI ms) ∧ ms.length ≤ N ∧ ms.Pairwise (· < ·) ∧ ∀ x ∈ ms, 0 ≤ x ∧ x < N) := fun O σ H p n x hn Q q => by
  subst hk
  refine ei_rng1 (ea_cons h ea_nil) (by omega) (by omega) O σ H x.at_ _ fun J H1 s1 w Da hD => ?_
  have x1 := x.same s1
  have np : Da ≠ p := fun z => by rw [z] at hD; exact x1.purse.some hD
  have wl : (rngD 0 (N : Int).toNat).length = N := by unfold rngD; rw [List.length_map, List.length_range]; omega
  have key : ∀ H2, But p H1 H2 → Same (hid O H1) (hid (addO O Da) H2) := fun H2 s => (add_fresh hD).trans (but_hid s (by unfold addO; rw [x.own]; rfl))
  have opx : addO O Da p = true := by unfold addO; rw [x.own]; rfl
  refine ⟨fun i m H2 => m = N - i ∧ i ≤ N ∧ But p H1 H2 ∧ PurseIs (n + i * c) H2 p ∧ ∃ (ms : List Int), H2 Da = some (.lst (ms.map V.int)) ∧ ms.length ≤ i ∧ ms.Pairwise (· < ·) ∧ ∀ x ∈ ms, 0 ≤ x ∧ x < i,
    ⟨N, by omega, Nat.zero_le _, But.of (same_new hD), by rw [Nat.zero_mul]; exact x1.purse.same (same_new hD), [], upd_same, Nat.le_refl _, .nil, fun e h => (by cases h)⟩, ?_⟩
  rintro a m H2 ⟨rfl, hi2, s2, p2, ms, ha, hln, hup, hall⟩
  have o2 : OIn (addO O Da) H2 := (but_own x1.at_.own s2 p2).add ⟨_, ha, trivial⟩
  by_cases hlt : a < N
  · have hia : (rngD 0 (N : Int).toNat)[a]? = some (.int (0 + (a : Int))) := by
      unfold rngD
      rw [List.getElem?_map, List.getElem?_range (by omega)]
      rfl
    have hb : (a + 1) * c ≤ N * c := Nat.mul_le_mul_right _ (by omega)
    have hb2 : (a + 1) * c = a * c + c := Nat.succ_mul _ _
    refine .inr ⟨w.go _ a H2 (key H2 s2) o2 (by rw [wl]; exact hlt), fun H3 => a + 1 ≤ N ∧ But p H1 H3 ∧ PurseIs (n + (a + 1) * c) H3 p ∧ ∃ (ms : List Int), H3 Da = some (.lst (ms.map V.int)) ∧ ms.length ≤ a + 1 ∧ ms.Pairwise (· < ·) ∧ ∀ x ∈ ms, 0 ≤ x ∧ x < (a + 1 : Nat),
      fun H' hN => ⟨_, by omega, rfl, hN⟩, fun y H3 hy => ?_⟩
    obtain ⟨s3, d3⟩ := w.yld _ a H2 y H3 _ (key H2 s2) o2 hia hy
    have s13 := s2.trans (But.of s3)
    have n3 : At K C (addO O Da) H3 (L2.wipe σ vs) (wipeD δ vs) := ⟨o2.same s3, (x1.at_.env.same (key H3 s13)).wipe vs⟩
    refine eg_name hi _ _ _ _ n3 d3 _ fun σ4 hw n4 => ⟨by rw [hw, wipe_wipe], ?_⟩
    have slot4 : σ4[j]? = some (some (.ref p)) := by
      have e1 := congrArg (fun s : L2.St => s[j]?) hw
      simp only [wipe_get] at e1
      rw [if_neg (fun q => h0 q.1), if_neg (fun q => h0 q.1), if_neg (fun q => h0 q.1)] at e1
      rw [e1]
      exact x.slot
    have x4 : AtJ K C j (addO O Da) H3 σ4 _ p (n + a * c) := ⟨n4, opx, p2.same s3, slot4⟩
    refine hT a hlt _ _ _ _ _ x4 (by omega) _ fun b H5 s5 p5 => ?_
    have s25 : But p H2 H5 := (But.of s3).trans s5
    have e5 : n + a * c + c = n + (a + 1) * c := by omega
    cases b with
    | false =>
      refine iteF ⟨hlt, s2.trans s25, by rw [← e5]; exact p5, ms, s25 _ _ np ha, by omega, hup, fun x hx => ?_⟩
      have := hall x hx
      omega
    | true =>
      refine iteT ?_
      have x5 := x4.but s5 p5
      obtain ⟨v, hv, dv⟩ := x5.at_.env.2 i (.int (0 + (a : Int))) (List.getElem?_set_self (by rw [wipeD_lenC]; exact hil))
      rw [dat_int.mp dv] at hv
      refine ⟨_, hv, ms.map V.int, s25 _ _ np ha, Nat.lt_of_le_of_lt (by rw [List.length_map]; omega : (ms.map V.int).length ≤ 1000) (by decide), hlt, fun b u nb eb => ?_, (p5.mono (by omega)).upd np, ms ++ [0 + (a : Int)], ?_, by rw [List.length_append]; show ms.length + 1 ≤ a + 1; omega, ?_, ?_⟩
      · rw [upd_ne (ne_of_none eb hD)]
        exact s2.trans s25 b u nb eb
      · rw [upd_same, List.map_append]
        rfl
      · refine List.pairwise_append.mpr ⟨hup, List.pairwise_singleton _ _, fun x hx y hy => ?_⟩
        rw [List.mem_singleton.mp hy]
        have := hall x hx
        omega
      · intro x hx
        rcases List.mem_append.mp hx with hx | hx
        · have := hall x hx
          omega
        · rw [List.mem_singleton.mp hx]
          omega
  · have e : a = N := by omega
    subst e
    refine .inl ⟨by rw [← wl]; exact w.stop _ H2 (key H2 s2) o2, ?_⟩
    refine q _ _ (.lst (dI ms)) ((But.of s1).trans s2) p2 ⟨ms, rfl, hln, hup, hall⟩ (dat_lst_iff.mpr ⟨Da, _, rfl, ?_, dats_ints.mpr rfl⟩)
    unfold hid
    rw [if_neg (fun z => x1.at_.own Da z hD)]
    exact ha
/-- a tuple of drawn things -/
theorem ej_tup (ha : EvJA K C j tr δ c Rs) (hl : ∀ ds, Rs ds → ds.length ≤ 100000) : EvJ K C j (tTup tr) δ c (fun d => ∃ ds, d = .tup ds ∧ Rs ds) := fun O σ H p n x hn Q q =>
  ha O σ H p n x hn _ fun vs H1 ds s1 p1 r1 hd1 => ⟨by rw [hd1.length]; exact Nat.le_trans (hl ds r1) (by decide), fun l hl => by
    have o1 := but_own x.at_.own s1 p1
    exact q _ _ (.tup ds) (s1.trans (But.of (same_new hl))) (p1.same (same_new hl)) ⟨ds, rfl, r1⟩ (new_tup o1 hl hd1)⟩
theorem eij_tup (h : EvJ K C j te δ c (fun d => ∃ ds, d = .tup ds ∧ P ds)) : EvIJ K C j (iTup K te) δ c P := fun O σ H p n x hn R q => h O σ H p n x hn _ fun v H1 d b1 pu r d1 => by
  obtain ⟨ds, rfl, hp⟩ := r
  obtain ⟨a, xs, rfl, h1, h2⟩ := dat_tup_iff.mp d1
  have key : ∀ O' H', Same (hid O H1) (hid O' H') → SqT K H' a xs ∧ Dats K C (hid O' H') ds xs := fun O' H' s => ⟨sqT_of (s _ _ h1), h2.same s⟩
  refine ⟨a, rfl, ⟨xs, sqT_of h1⟩, q _ _ ds b1 pu hp ⟨fun O' i H' s o hi => ?_, fun O' i H' x H2 d s o hi y => ?_, fun O' H' s o => ?_⟩⟩
  · exact ⟨xs, xs[i]'(by rw [h2.length]; exact hi), (key O' H' s).1, by simp [h2.length, hi]⟩
  · obtain ⟨e, y⟩ := y
    subst e
    obtain ⟨k1, k2⟩ := key O' _ s
    obtain ⟨w, g1, g2⟩ := k2.get hi
    have g3 := y xs k1
    rw [g1] at g3
    cases g3
    exact ⟨Same.refl _, g2⟩
  · exact ⟨xs, (key O' H' s).1, by rw [h2.length]; exact Nat.le_refl _⟩
/-- x, y = a drawn list of two -/
theorem sj_unpL (hi : i ≠ j) (hl : l ≠ j) (h : EvJ K C j te δ c1 (fun d => ∃ a b, d = .lst [a, b] ∧ P [a, b])) (g : ∀ a b, P [a, b] → StJ K C j ts ((δ.set i (some a)).set l (some b)) δ' c2) : StJ K C j (tSeq (tAsg te (gLst K 2 (gCons (gName i) (gCons (gName l) gNil)))) ts) δ δ' (c1 + c2) := fun O σ H p n x hn Z q => h O σ H p n x (by omega) _ fun v H1 d s1 p1 r1 hd => by
  obtain ⟨a, b, rfl, hp⟩ := r1
  obtain ⟨t, xs, rfl, h1, h3⟩ := dat_lst_iff.mp hd
  obtain ⟨y, z, rfl, h4, h5⟩ := dats_two.mp h3
  have x1 := x.but s1 p1
  have e : n + c1 + c2 = n + (c1 + c2) := by omega
  exact ⟨t, [y, z], rfl, sqL_of h1, rfl, y, [z], rfl, z, [], rfl, rfl, g a b hp O _ H1 p _ ⟨⟨x1.at_.own, (x1.at_.env.set i h4).set l h5⟩, x1.own, x1.purse, by rw [List.getElem?_set_ne hl, List.getElem?_set_ne hi]; exact x1.slot⟩ (by omega) Z fun σ' H' s' y => q σ' H' (s1.trans s') (by rw [← e]; exact y)⟩
/-- x, y = two drawn things -/
theorem sj_parJ (hi : i ≠ j) (hl : l ≠ j) (h : EvJA K C j tr δ c1 (fun ds => ∃ a b, ds = [a, b] ∧ R1 a ∧ R2 b)) (g : ∀ a b, R1 a → R2 b → StJ K C j ts ((δ.set i (some a)).set l (some b)) δ' c2) : StJ K C j (tSeq (tPar i l tr) ts) δ δ' (c1 + c2) := fun O σ H p n x hn Z q => h O σ H p n x (by omega) _ fun vs H1 ds s1 p1 r1 hd => by
  obtain ⟨a, b, rfl, r1, r2⟩ := r1
  obtain ⟨v, w, rfl, h1, h2⟩ := dats_two.mp hd
  have x1 := x.but s1 p1
  have e : n + c1 + c2 = n + (c1 + c2) := by omega
  exact ⟨v, w, rfl, g a b r1 r2 O _ H1 p _ ⟨⟨x1.at_.own, (x1.at_.env.set i h1).set l h2⟩, x1.own, x1.purse, by rw [List.getElem?_set_ne hl, List.getElem?_set_ne hi]; exact x1.slot⟩ (by omega) Z fun σ' H' s' y => q σ' H' (s1.trans s') (by rw [← e]; exact y)⟩
theorem ejb_eqAny {k : Int} (h : EvJ K C j te δ c (fun d => ∃ i, d = .int i)) : EvJB K C j (tB (tOp (rEqD K) te (tC (.int k)))) δ c := fun O σ H p n x hn Q q => h O σ H p n x hn _ fun v H1 d1 s1 p1 r1 hd => by
  obtain ⟨i, rfl⟩ := r1
  have x1 := x.but s1 p1
  show rEqD K v (V.int k) H1 fun x H' => ∃ c, x = V.bl c ∧ Q c H'
  refine r2_eq (K := K) (C := C) (d := .int i) (e := .int k) shp_int shp_int O H1 v (.int k) x1.at_.own hd (dat_int.mpr rfl) _ fun z H2 s2 dz => ?_
  exact ⟨_, dat_bl.mp dz, q _ H2 (s1.trans (But.of s2)) (p1.same s2)⟩
/-- law(script): purse = _law_purse(script, 0); ..; return True -/
theorem law_run1 {N : List Str} {tb : TS} {δ' : Dl} {c : Nat} {a : Addr} {ns : List Int} {H : Hp} {Q : VK} {nx : L2.St → Hp → Prop} (hN : 2 ≤ N.length) (hb : StJ K C 1 tb (List.replicate N.length none) δ' c) (hc : c ≤ 1000000) (hS : SqL K H a (ns.map V.int)) (hQ : ∀ H', Q (.bl true) H') :
    tSeq (tAsg (tCall (spPurse K) [] E0 (tCons (tVar 0) (tCons (tC (.int 0)) tNil))) (gName 1)) (tSeq tb (tRet (tC (.bl true)))) { nx := nx, rt := Q } (L2.start N [.ref a]) H := by
  refine ⟨_, ?_, a, ns, rfl, hS, fun p H1 s1 hp pu => ?_⟩
  · rfl
  have sl : (L2.start N [.ref a]).length = N.length := by
    unfold L2.start
    rw [List.length_append, List.length_map, List.length_replicate]
    show 1 + (N.length - 1) = _
    omega
  have x0 : AtJ K C 1 (fun b => decide (b = p)) H1 ((L2.start N [.ref a]).set 1 (some (.ref p))) (List.replicate N.length none) p 0 := ⟨⟨⟨fun b hb e => by
    have eb : b = p := of_decide_eq_true hb
    subst eb
    exact pu.some e, fun b o hb e => by
    have eb : b = p := of_decide_eq_true hb
    subst eb
    obtain ⟨_, _, _, _, e2, _⟩ := pu
    rw [e2] at e
    cases e
    trivial⟩, by rw [List.length_set, sl, List.length_replicate], fun k d hk => by
      rw [List.getElem?_replicate] at hk
      split at hk <;> cases hk⟩, decide_eq_true rfl, pu, by rw [List.getElem?_set_self (by rw [sl]; omega)]⟩
  exact hb _ _ _ p 0 x0 (by omega) _ fun σ' H' b y => hQ _
end
/-! ### a course whose last deed is done again and again -/
def longM (co : List Dd) : List Dd := (co ++ (List.replicate 40 (co.drop (co.length - 1))).flatten).take 40
theorem long_snoc {c : List Dd} {d : Dd} (h : c.length + 1 ≤ 40) : longM (c ++ [d]) = c ++ [d] ++ List.replicate (40 - (c.length + 1)) d := by
  have e1 : (c ++ [d]).drop ((c ++ [d]).length - 1) = [d] := by
    rw [List.length_append]
    show (c ++ [d]).drop (c.length + 1 - 1) = [d]
    rw [Nat.add_sub_cancel, List.drop_left]
  have e2 : ∀ n, (List.replicate n [d]).flatten = List.replicate n d := fun n => by
    induction n with
    | zero => rfl
    | succ n ih => rw [List.replicate_succ, List.flatten_cons, ih]; rfl
  unfold longM
  rw [e1, e2, List.take_append, List.take_of_length_le (by rw [List.length_append]; show c.length + 1 ≤ 40; omega), List.take_replicate, List.length_append]
  congr 2
  show min (40 - (c.length + 1)) 40 = _
  omega
theorem long_ok {rows : List (List Int)} {s : List Ct} {co : List Dd} (h : RightC rows s co) (ne : co ≠ []) (hl : co.length ≤ 40) : RightC rows s (longM co) ∧ runM s (longM co) = runM s co ∧ (longM co).length = 40 ∧ ∀ x ∈ longM co, x ∈ co := by
  obtain ⟨c, d, rfl⟩ : ∃ c d, co = c ++ [d] := ⟨co.dropLast, co.getLast ne, (List.dropLast_concat_getLast ne).symm⟩
  have hl' : c.length + 1 ≤ 40 := by rw [List.length_append] at hl; exact hl
  rw [long_snoc hl']
  obtain ⟨h1, h2⟩ := right_app (j := 40 - (c.length + 1)) h
  refine ⟨h1, h2, ?_, fun x hx => ?_⟩
  · rw [List.length_append, List.length_append, List.length_replicate]
    show c.length + 1 + _ = 40
    omega
  · rcases List.mem_append.mp hx with hx | hx
    · exact hx
    · rw [(List.mem_replicate.mp hx).2]
      exact List.mem_append_right _ (List.mem_singleton.mpr rfl)
end Zm


set_option Elab.async false
set_option linter.all false
set_option maxRecDepth 100000
set_option maxHeartbeats 4000000
set_option autoImplicit false
namespace Zm
open PySem PySem.Spec L2
def spPurses (K : PySem.W.Frag) : Sp := fun vs H Q _ => ∃ (a : Addr) (ns : List Int), vs = [.ref a, .int 1] ∧ SqL K H a (ns.map V.int) ∧
  ∀ l p H', Same H H' → H l = none → H p = none → l ≠ p → PurseIs 0 H' p → H' l = some (.lst [.ref p]) → Q (.ref l) H'
def spLaw (K : PySem.W.Frag) : Sp := fun vs H Q _ => ∃ (a : Addr) (ns : List Int), vs = [.ref a] ∧ SqL K H a (ns.map V.int) ∧ ∀ H', Q (.bl true) H'
section
variable {P : Program} {w : World} {K : PySem.W.Frag} {mg : Str → Option Value} {base : Heap} {f C : Addr} {fd : FuncData}
theorem DefAt.okFn {k : Nat} {x : Str} {N ps : List Str} {st : Stmt} {sp : Sp} (F : DefAt K mg x ps st f fd) (S : FnScope N ps (defScope st)) (len : ∀ vs H Q E, sp vs H Q E → vs.length = ps.length)
    (hbody : ∀ (cdv : Value) (A : Around) (outer : List Env) (s : Shared) (H : Hp) (vs : List V) (Q : VK) (E : XK), Room k (A.deeper (PyProof.Rows.envOfC x (defScope st) s.heap.objs.size f cdv)) → sp vs H Q E →
      ∃ t, PSs (cxOf CX0 P w K mg base N x (defScope st) f cdv A outer s H E).nox (defBody st) t ∧ t { nx := fun _ H' => Q .non H', rt := Q } (L2.start N vs) H) : FnOk P w K mg base CX0 (k + 1) f fd ps sp := F.fn.ok S len fun cdv A outer s H vs Q E hr h => by
  obtain ⟨t, h1, h2⟩ := hbody cdv A outer s H vs Q E hr h
  exact ⟨t, PSs.nox h1, h2⟩
theorem sj_run {K : PySem.W.Frag} {C : Addr} {j c n : Nat} {ts : TS} {δ δ' : Dl} {O : Addr → Bool} {σ : L2.St} {H : Hp} {p : Addr} {Z : Ends} (h : StJ K C j ts δ δ' c) (x : AtJ K C j O H σ δ p n) (hn : n + c ≤ 1000000)
    (q : ∀ σ' H', But p H H' → AtJ K C j O H' σ' δ' p (n + c) → Z.nx σ' H') : ts Z σ H := h O σ H p n x hn Z q
theorem law_run {K : PySem.W.Frag} {C : Addr} {N : List Str} {tb : TS} {δ' : Dl} {c : Nat} {a : Addr} {ns : List Int} {H : Hp} {Q : VK} {nx : L2.St → Hp → Prop} (hN : 2 ≤ N.length) (hb : StJ K C 1 tb (List.replicate N.length none) δ' c) (hc : c ≤ 1000000) (hS : SqL K H a (ns.map V.int)) (hQ : ∀ H', Q (.bl true) H') :
    tSeq (tFor (iList K (tCall (spPurses K) [] E0 (tCons (tVar 0) (tCons (tC (.int 1)) tNil)))) (gName 1) tb) (tRet (tC (.bl true))) { nx := nx, rt := Q } (L2.start N [.ref a]) H := by
  refine ⟨_, ?_, a, ns, rfl, hS, fun l p H1 s1 hl hp ne pu hl1 => ⟨l, rfl, ⟨_, .inl (.inl hl1)⟩, ?_⟩⟩
  · rfl
  refine ⟨fun i m σ2 H2 => m = 1 - i ∧ i ≤ 1 ∧ H2 l = some (.lst [.ref p]) ∧ (i = 0 → σ2 = L2.start N [.ref a] ∧ H2 = H1), ⟨1, rfl, by decide, hl1, fun _ => ⟨rfl, rfl⟩⟩, ?_⟩
  rintro i m σ2 H2 ⟨rfl, hi, hl2, h0⟩
  by_cases hlt : i = 1
  · subst hlt
    exact .inl ⟨⟨_, .inl (.inl hl2), by show 1 ≤ 1; decide⟩, hQ _⟩
  · have ei : i = 0 := by omega
    subst ei
    obtain ⟨rfl, rfl⟩ := h0 rfl
    refine .inr ⟨⟨_, _, .inl (.inl hl2), rfl⟩, fun _ H3 => H3 l = some (.lst [.ref p]), fun σ3 H3 h3 => ⟨0, by decide, rfl, by decide, h3, fun q => by cases q⟩, fun x H3 y => ?_⟩
    obtain ⟨rfl, y⟩ := y
    have ex := y _ (.inl (.inl hl2))
    cases (show V.ref p = x by simpa using ex)
    have sl : (L2.start N [.ref a]).length = N.length := by
      unfold L2.start
      rw [List.length_append, List.length_map, List.length_replicate]
      show 1 + (N.length - 1) = _
      omega
    have x0 : AtJ K C 1 (fun b => decide (b = p)) H3 ((L2.start N [.ref a]).set 1 (some (.ref p))) (List.replicate N.length none) p 0 := ⟨⟨⟨fun b hb e => by
      have eb : b = p := of_decide_eq_true hb
      subst eb
      exact pu.some e, fun b o hb e => by
      have eb : b = p := of_decide_eq_true hb
      subst eb
      obtain ⟨_, _, _, _, e2, _⟩ := pu
      rw [e2] at e
      cases e
      trivial⟩, by rw [List.length_set, sl, List.length_replicate], fun k d hk => by
        rw [List.getElem?_replicate] at hk
        split at hk <;> cases hk⟩, decide_eq_true rfl, pu, by rw [List.getElem?_set_self (by rw [sl]; omega)]⟩
    exact sj_run hb x0 (by omega) (fun σ' H' b y => b _ _ ne hl2)
end
end Zm


set_option Elab.async false
set_option linter.all false
set_option maxRecDepth 100000
set_option maxHeartbeats 4000000
set_option autoImplicit false
namespace Zm
open PySem PySem.Spec L2
local macro_rules | `(tactic| walk_at "le") => `(tactic| first | exact le0 | (refine leS ?_; walk_at "le") | (refine leN ?_; walk_at "le"))
theorem dd_more {n c c' : Nat} {d : Dd} (h : DdOk n c d) (l : c ≤ c') : DdOk n c' d := by
  cases d with
  | make b x => exact ⟨h.1, Nat.lt_of_lt_of_le h.2 l⟩
  | copy a x => exact ⟨Nat.lt_of_lt_of_le h.1 l, Nat.lt_of_lt_of_le h.2 l⟩
theorem row_lenU {m : Int} {r : List Int} (h : RowOk m r) : r.length ≤ m.toNat := by
  have := up_len h.1 h.2
  omega
theorem cut_last {α : Type} {xs : List α} : cutD xs (some (-1)) none = xs.drop (xs.length - 1) := by
  have e1 : HT.sIx xs.length 0 (some (-1)) = xs.length - 1 := by
    unfold HT.sIx
    simp only
    rw [if_pos (by decide)]
    omega
  have e2 : HT.sIx xs.length xs.length none = xs.length := rfl
  unfold cutD
  rw [e1, e2]
  exact List.take_of_length_le (by rw [List.length_drop]; exact Nat.le_refl _)
section
variable {P : Program} {w : World} {K : PySem.W.Frag} {mg : Str → Option Value} {base : Heap} {f C : Addr} {fd : FuncData}
theorem ej_days {δ : Dl} {E : XK} {tm tr tc td : TE} {m : Int} {rows : List (List Int)} {cells : Nat} {co : List Dd} (h1 : EvD K C tm δ (.rcp m rows)) (h2 : EvD K C tr δ (recD m rows)) (h3 : EvD K C tc δ (.int (cells : Int))) (h4 : EvD K C td δ (coD co)) (ok : CoOk m rows cells co) (l : co.length ≤ 20) : EvJT K C 1 (tNot (tB (tCall (sp_days K C) [] E (tCons (tVar 1) (tCons tm (tCons tr (tCons tc (tCons td tNil)))))))) δ 80 false :=
  ejt_not (b := true) (ejt_B (ej_callPM (j := 1) (pre := fun a : Int × List (List Int) × Nat × List Dd => CoOk a.1 a.2.1 a.2.2.1 a.2.2.2 ∧ a.2.2.2.length ≤ 20) (enc := encDays) (R := fun _ d => d = .bl true) (m, rows, cells, co) (ea_cons h1 (ea_cons h2 (ea_cons h3 (ea_cons h4 ea_nil)))) rfl ⟨ok, l⟩))
theorem sc_law : FnScope ["script", "purse", "turn", "made", "long", "last", "breaks", "recipe", "cells", "right", "loose", "at"] ["script"] (defScope (top 63)) := ⟨rfl, rfl, rfl, by decide +kernel, rfl, by decide +kernel, by decide +kernel⟩
-- slots: script=0 purse=1 turn=2 made=3 long=4 last=5 breaks=6 recipe=7 cells=8 right=9 loose=10 at=11
theorem ok_law (B : BFree mg) (D_law_purse : DefOk P w K mg base "_law_purse" 1 ["script", "at"] (spPurse K)) (D_law_small_device : DefOk P w K mg base "_law_small_device" 5 ["purse", "most_new", "most_old", "more"] (sp_lsmall K C)) (D_law_made : DefOk P w K mg base "_law_made" 7 ["recipe"] (sp_made K C)) (D_law_right_course : DefOk P w K mg base "_law_right_course" 5 ["purse", "recipe", "cells", "most"] (sp_lright_course K C)) (D_law_loose_course : DefOk P w K mg base "_law_loose_course" 4 ["purse", "recipe", "cells", "most"] (sp_lloose_course K C))
    (D_law_days_right : DefOk P w K mg base "_law_days_right" 8 ["purse", "made", "recipe", "cells", "course"] (sp_days K C)) (D_law_exact : DefOk P w K mg base "_law_exact" 5 ["mine", "theirs"] (sp_exact K C 5)) (D_day : DefOk P w K mg base "day" 7 ["recipe", "cells", "course", "cuts"] (sp_day K C)) (D_states : DefOk P w K mg base "states" 8 ["recipe", "cells", "course"] (sp_states K C)) (D_law_draw : DefOk P w K mg base "_law_draw" 2 ["purse", "many"] spDraw)
    (F : DefAt K mg "law" ["script"] (top 63) f fd) : FnOk P w K mg base CX0 9 f fd ["script"] (spLaw K) := by
  refine DefAt.okFn F sc_law (fun vs H Q E h => ?_) (fun cdv A outer s H vs Q E hr h => ?_)
  · obtain ⟨a, ns, rfl, _⟩ := h
    rfl
  obtain ⟨a, ns, rfl, hS, hQ⟩ := h
  refine ⟨_, (pss_cons (ps_set (i := 1) sc_law.nd rfl (.inr rfl) (pe_def D_law_purse (hr.mono (by first | decide | omega)) (pa_cons (pv 0) (pa_cons pe_int pa_nil)))) (pss_cons (ps_for PassesOwn.never rfl (i_rng1 B (pa_cons pe_int pa_nil)) (pg_name (i := 2) sc_law.nd rfl (.inl rfl)) (pss_cons (ps_asg (pe_def D_law_small_device (hr.mono (by first | decide | omega)) (pa_cons (pv 1) (pa_cons pe_int (pa_cons pe_int (pa_cons pe_int pa_nil))))) (g_lstT (K := K) (n := 2) (pgs_cons (pg_name (i := 7) sc_law.nd rfl (.inl rfl)) (pgs_cons (pg_name (i := 8) sc_law.nd rfl (.inl rfl)) pgs_nil)))) (pss_cons (ps_set (i := 3) sc_law.nd rfl (.inl rfl) (pe_def D_law_made (hr.mono (by first | decide | omega)) (pa_cons (pv 7) pa_nil))) (pss_cons (ps_par (i := 9) (j := 10) rfl sc_law.nd rfl rfl (by decide) rfl rfl (pa_cons (pe_def D_law_right_course (hr.mono (by first | decide | omega)) (pa_cons (pv 1) (pa_cons (pv 7) (pa_cons (pv 8) (pa_cons pe_int pa_nil))))) (pa_cons (pe_def D_law_loose_course (hr.mono (by first | decide | omega)) (pa_cons (pv 1) (pa_cons (pv 7) (pa_cons (pv 8) (pa_cons pe_int pa_nil))))) pa_nil)) (by rfl)) (pss_cons (ps_if (PW.pt (pw_or (pt_not (pt_val (pe_def D_law_days_right (hr.mono (by first | decide | omega)) (pa_cons (pv 1) (pa_cons (pv 3) (pa_cons (pv 7) (pa_cons (pe_op op_add (pv 8) pe_int) (pa_cons (pv 10) pa_nil)))))))) (pw_or (pt_not (pt_val (pe_def D_law_days_right (hr.mono (by first | decide | omega)) (pa_cons (pv 1) (pa_cons (pv 3) (pa_cons (pv 7) (pa_cons (pv 8) (pa_cons (pv 10) pa_nil)))))))) (pw_or1 (pt_not (pt_val (pe_def D_law_days_right (hr.mono (by first | decide | omega)) (pa_cons (pv 1) (pa_cons (pv 3) (pa_cons (pv 7) (pa_cons (pv 8) (pa_cons (pv 9) pa_nil)))))))))))) (pss_one (ps_ret pe_bl)) pss_nil) (pss_cons (ps_set (i := 4) sc_law.nd rfl (.inl rfl) (pe_slice (x_sl (K := K)) (pe_op op_cat (pv 9) (pe_op op_rep (pe_slice (x_sl (K := K)) (pv 9) (po_some (pe_un un_neg pe_int)) po_none) pe_int)) po_none (po_some pe_int))) (pss_cons (ps_if (PW.pt (pw_and (pt_cmpR (o_ne (K := K) (by exact hr.units)) (pv 9) (pe_lst pa_nil) (nomark _)) (pw_and1 (pt_not (pt_val (pe_def D_law_exact (hr.mono (by first | decide | omega)) (pa_cons (pe_def D_day (hr.mono (by first | decide | omega)) (pa_cons (pv 3) (pa_cons (pv 8) (pa_cons (pv 4) (pa_cons (c_listRg3 B (pa_cons pe_int (pa_cons pe_int (pa_cons pe_int pa_nil)))) pa_nil))))) (pa_cons (pe_ix (x_list (K := K)) (pe_def D_states (hr.mono (by first | decide | omega)) (pa_cons (pv 3) (pa_cons (pv 8) (pa_cons (pv 9) pa_nil)))) (pe_un un_neg pe_int) (fun _ _ => rfl)) pa_nil)))))))) (pss_one (ps_ret pe_bl)) pss_nil) (pss_cons (ps_set (i := 5) sc_law.nd rfl (.inl rfl) (pe_ix (x_list (K := K)) (pe_def D_states (hr.mono (by first | decide | omega)) (pa_cons (pv 3) (pa_cons (pv 8) (pa_cons (pv 9) pa_nil)))) (pe_un un_neg pe_int) (fun _ _ => rfl))) (pss_one (ps_for PassesOwn.never rfl (i_tup (K := K) (pe_tup (pa_cons (pe_lst pa_nil) (pa_cons (c_listRg1 B (c_len (K := K) B (pa_cons (pv 9) pa_nil))) (pa_cons (pe_lc (own := [("at", 11)]) rfl sc_law.nd (i_rng1 B (pa_cons (c_len (K := K) B (pa_cons (pv 9) pa_nil)) pa_nil)) (blkOk_by (own := [("at", 11)]) (N := ["script", "purse", "turn", "made", "long", "last", "breaks", "recipe", "cells", "right", "loose", "at"]) (sc := (defScope (top 63))) (by decide +kernel)) (fun _ _ _ _ _ => pg_name (i := 11) sc_law.nd rfl (.inl rfl)) (fun _ _ _ _ _ => pts_one (pt_cmpR (o_eq (K := K) (by exact hr.units)) (pe_def D_law_draw (hr.mono (by first | decide | omega)) (pa_cons (pv 1) (pa_cons pe_int pa_nil))) pe_int (nomark _))) (fun _ _ _ _ _ => (pv 11))) pa_nil))))) (pg_name (i := 6) sc_law.nd rfl (.inl rfl)) (pss_one (ps_if (pt_not (pt_val (pe_def D_law_exact (hr.mono (by first | decide | omega)) (pa_cons (pe_def D_day (hr.mono (by first | decide | omega)) (pa_cons (pv 3) (pa_cons (pv 8) (pa_cons (pv 9) (pa_cons (pv 6) pa_nil))))) (pa_cons (pv 5) pa_nil))))) (pss_one (ps_ret pe_bl)) pss_nil)))))))))))) (pss_one (ps_ret pe_bl)))), ?_⟩
  let δN : Dl := [none, none, none, none, none, none, none, none, none, none, none, none]
  refine law_run1 (C := C) (c := 3 * 2000) (δ' := δN) (by decide) ?_ (by decide) hS hQ
  show StJ K C 1 _ δN _ _
  refine sj_for (r := 2) (as := List.range 3) (g0 := fun (k : Nat) => D.int (0 + (k : Int))) (c := 2000) (δ' := δN) (by decide) (ei_rng1 (j := 3) (ea_cons ev_int ea_nil) (by decide) (by decide)) (by walk_at "le") (fun turn _ => ?_)
  refine sj_le (c1 := 401 + (0 + (100 + (200 + 0) + (240 + (0 + (0 + (0 + 20))))))) (δ2 := δN) (sj_unpL (i := 7) (l := 8) (P := fun ds => ∃ m rows, ∃ cells : Nat, ds = [recD m rows, .int (cells : Int)] ∧ RecOk 4 3 m rows ∧ 1 ≤ cells ∧ m ≤ cells ∧ (cells : Int) ≤ (if 1 > m then 1 else m) + 2) (by decide) (by decide) (ej_imp (ej_callPM (j := 1) (pre := fun a : Int × Int × Int => 1 ≤ a.1 ∧ a.1 ≤ 8 ∧ 0 ≤ a.2.1 ∧ a.2.1 ≤ 8 ∧ 0 ≤ a.2.2 ∧ a.2.2 ≤ 10) (enc := encM3) (R := R_sd) (4, 3, 2) (ea_cons ev_int (ea_cons ev_int (ea_cons ev_int ea_nil))) rfl ⟨by decide, by decide, by decide, by decide, by decide, by decide⟩) (fun d hd => ?dev) (Nat.le_refl _)) (fun da db hd => ?body)) (by walk_at "le") (by decide)
  case dev =>
    obtain ⟨m, rows, cells, rfl, h1, h2, h3, h4⟩ := hd
    exact ⟨_, _, rfl, m, rows, cells, rfl, h1, h2, h3, h4⟩
  obtain ⟨m, rows, cells, e, rok, c1, cm, cx⟩ := hd
  obtain ⟨rfl, rfl⟩ : da = recD m rows ∧ db = .int (cells : Int) := by
    have := List.cons.inj e
    exact ⟨this.1, (List.cons.inj this.2).1⟩
  have m0 : 0 ≤ m := rok.1
  have m3 : m ≤ 3 := rok.2.1
  have n1 : 1 ≤ rows.length := rok.2.2.1
  have n4 : (rows.length : Int) ≤ 4 := rok.2.2.2.1
  have hv : ValidR m rows := ⟨m0, n1, by omega, fun r hr => ⟨rok.2.2.2.2 r hr, by have := row_lenU (rok.2.2.2.2 r hr); omega⟩⟩
  have c5 : cells ≤ 5 := by
    split at cx <;> omega
  have dev : DevOk m rows cells := ⟨hv, by omega, c1, cm, by omega⟩
  have dev1 : DevOk m rows (cells + 1) := ⟨hv, by omega, by omega, by omega, by omega⟩
  have sl : (begunM m.toNat cells).length = cells := begunM_len (by omega)
  refine sj_seq (sj_set (d := .rcp m rows) (by decide) (EvF.toD (ef_is (ef_call (ds := [recD m rows]) (ea_cons (ev_var rfl) ea_nil) rfl ⟨_, _, rfl, hv⟩) (f_made_eq m rows)))) ?_
  refine sj_parJ (i := 9) (l := 10) (R1 := R_rc (m, rows, cells, 6)) (R2 := R_lc (m, rows, cells, 6)) (by decide) (by decide) ?pair (fun dr dl hR hL => ?rest)
  case pair =>
    have ok6 : LcOk m rows cells 6 := ⟨dev, by omega, by decide, by decide⟩
    exact fun O σ H p n x hn Q q => eja_cons (ej_callPM (j := 1) (pre := fun a : Int × List (List Int) × Nat × Nat => LcOk a.1 a.2.1 a.2.2.1 a.2.2.2) (enc := encRCM) (R := R_rc) (m, rows, cells, 6) (ea_cons (ev_var rfl) (ea_cons (ev_var rfl) (ea_cons ev_int ea_nil))) rfl ok6) (eja_cons (ej_callPM (j := 1) (pre := fun a : Int × List (List Int) × Nat × Nat => LcOk a.1 a.2.1 a.2.2.1 a.2.2.2) (enc := encRCM) (R := R_lc) (m, rows, cells, 6) (ea_cons (ev_var rfl) (ea_cons (ev_var rfl) (ea_cons ev_int ea_nil))) rfl ok6) eja_nil) O σ H p n x hn Q fun vs H' ds b pu r hd => q vs H' ds b pu (by
      obtain ⟨d, es, rfl, r1, e, es', rfl, r2, rfl⟩ := r
      exact ⟨d, e, rfl, r1, r2⟩) hd
  obtain ⟨co, rfl, l6, call, right⟩ := hR
  obtain ⟨lo, rfl, k6, lall⟩ := hL
  have l6 : co.length ≤ 6 := l6
  have k6 : lo.length ≤ 6 := k6
  have call : ∀ x ∈ co, DdOk rows.length cells x := call
  have lall : ∀ x ∈ lo, DdOk rows.length cells x := lall
  have right : RightC rows (begunM m.toNat cells) co := right
  have cok : CoOk m rows cells co := ⟨dev, call, by omega⟩
  have lok : CoOk m rows cells lo := ⟨dev, lall, by omega⟩
  have lok1 : CoOk m rows (cells + 1) lo := ⟨dev1, fun x hx => dd_more (lall x hx) (Nat.le_succ _), by omega⟩
  have rl : (runM (begunM m.toNat cells) co).length = cells := by rw [runM_len, sl]
  have lastV : ∀ {δ : Dl}, δ[3]? = some (some (.rcp m rows)) → δ[8]? = some (some (.int (cells : Int))) → δ[9]? = some (some (coD co)) → EvD K C (tOp (rIxL K) (tCall (sp_states K C) [] E0 (tCons (tVar 3) (tCons (tVar 8) (tCons (tVar 9) tNil)))) (tUn (rU fun i => V.int (-i)) (tC (.int 1)))) δ (stD (runM (begunM m.toNat cells) co)) := fun h1 h2 h3 => ev_op (ev_callM (pre := preR) (enc := encCo) (out := fun a => statesD (begunM a.1.toNat a.2.2.1) a.2.2.2) (m, rows, cells, co) (ea_cons (ev_var h1) (ea_cons (ev_var h2) (ea_cons (ev_var h3) ea_nil))) rfl ⟨cok, right⟩) (ev_is (z := .int (-1)) (ev_un ev_int r1_U) rfl) (r2_ixL (last_at (by rw [List.getLast?_map, states_last]; rfl)))
  refine sj_seq (c1 := 240) (sj_le (sj_skip (ejt_or (ej_days (ev_var rfl) (ev_var rfl) (ev_is (z := .int ((cells + 1 : Nat) : Int)) (ev_op (ev_var rfl) ev_int r2_Ii) (congrArg D.int (by omega))) (ev_var rfl) lok1 (by omega)) (ejt_or (ej_days (ev_var rfl) (ev_var rfl) (ev_var rfl) (ev_var rfl) lok (by omega)) (ej_days (ev_var rfl) (ev_var rfl) (ev_var rfl) (ev_var rfl) cok (by omega))))) ⟨rfl, fun i d e => e⟩ (by decide)) ?_
  refine sj_seq (c1 := 0) (sj_set (d := coD (longM co)) (by decide) ?long) ?_
  case long =>
    have el : cutD (co.map dD) (some (-1)) none = (co.drop (co.length - 1)).map dD := by rw [cut_last, List.length_map, List.map_drop]
    have dl : (co.drop (co.length - 1)).length ≤ 1 := by rw [List.length_drop]; omega
    have fl : (List.replicate 40 ((co.drop (co.length - 1)).map dD)).flatten = (List.replicate 40 (co.drop (co.length - 1))).flatten.map dD := by rw [List.map_flatten, List.map_replicate]
    have fll : (List.replicate 40 (co.drop (co.length - 1))).flatten.length ≤ 40 := by
      rw [List.length_flatten, List.map_replicate, List.sum_replicate_nat]
      omega
    refine ev_is (en_sl (ds := (co ++ (List.replicate 40 (co.drop (co.length - 1))).flatten).map dD) (ev_is (ev_op (ev_var rfl) (ev_is (z := coD (List.replicate 40 (co.drop (co.length - 1))).flatten) (ev_op (ev_is (z := coD (co.drop (co.length - 1))) (en_sl (ev_var rfl) (eo_some (ev_is (z := .int (-1)) (ev_un ev_int r1_U) rfl)) eo_none).toD (congrArg D.lst el)) ev_int (R2N.toD (r2_repL (n := 40) (by decide) (by rw [List.length_map]; omega)))) (congrArg D.lst fl)) (R2N.toD (r2_cat (by rw [List.length_map, List.length_map]; omega)))) (congrArg D.lst (List.map_append ..).symm)) eo_none (eo_some ev_int)).toD ?_
    show D.lst (cutD _ none (some ((40 : Nat) : Int))) = coD (longM co)
    rw [cut_n, ← List.map_take]
    rfl
  have ps : ∀ {n : Nat}, Plain (n + 3) (stD (runM (begunM m.toNat cells) co)) := plain_st (by omega)
  refine sj_seq (c1 := 0) (sj_skip (ejt_of (et_is (et_and (a := !co.isEmpty) (b := false) (et_is (et_B (ev_op (ev_var rfl) (en_lst ea_nil (by show 0 ≤ 100000; decide)).toD (r2_ne (shp_co co) shp_emp))) (by rw [eqD_emp, List.isEmpty_map])) (fun hne => ?ex)) (Bool.and_false _)))) ?_
  case ex =>
    have ne : co ≠ [] := fun z => by rw [z] at hne; cases hne
    obtain ⟨h1, h2, h3, h4⟩ := long_ok right ne (by omega)
    have gok : CoOk m rows cells (longM co) := ⟨dev, fun x hx => call x (h4 x hx), by omega⟩
    have ck : CutsOk (longM co).length (rgC 0 4 10) := by
      rw [h3]
      exact ⟨by decide, by decide, by decide⟩
    have ed : dayM rows (begunM m.toNat cells) (longM co) (rgC 0 4 10) = runM (begunM m.toNat cells) co := by
      unfold dayM
      rw [day_right h1, h2]
    exact exa26 (ev_is (en_day (ev_var rfl) (ev_var rfl) (ev_var rfl) (en_listRg3 (ea_cons ev_int (ea_cons ev_int (ea_cons ev_int ea_nil))) ⟨by decide, by decide, by decide +kernel, by decide +kernel⟩ (by decide)).toD gok ck).toD (by rw [ed])) (lastV rfl rfl rfl) (ps (n := 2))
  refine sj_seq (c1 := 0) (sj_set (by decide) (lastV rfl rfl rfl)) ?_
  have lenC : ∀ {δ : Dl}, δ[9]? = some (some (coD co)) → EvD K C (tCB (fun xs H Q => ∃ p ys, xs = [V.ref p] ∧ (SqL K H p ys ∨ SqT K H p ys) ∧ Q (.int ys.length) H) (tCons (tVar 9) tNil)) δ (.int (co.length : Int)) := fun h => ev_is (ev_cb (ea_cons (ev_var h) ea_nil) rc_lenL) (congrArg (fun (k : Nat) => D.int (k : Int)) (List.length_map _))
  refine sj_le (sj_forI (r := 6) (N := 3) (c := 0) (c1 := 0 + (0 + (co.length * 1 + 0))) (P := fun ds => ∃ ms : List Int, ds = [.lst (dI []), .lst (dI (rgI 0 (co.length : Int))), .lst (dI ms)] ∧ CutsOk co.length ms) (Qd := fun d => ∃ ms : List Int, d = .lst (dI ms) ∧ CutsOk co.length ms) (δ' := [none, none, none, some (.rcp m rows), none, some (stD (runM (begunM m.toNat cells) co)), none, none, some (.int (cells : Int)), some (coD co), none, none]) (by decide) (eij_tup ?tup) (fun ds hds => ?items) (by walk_at "le") (fun d hd => ?one)) (by walk_at "le") (by omega)
  case tup =>
    refine ej_imp (ej_tup (eja_cons (ej_d (en_lst ea_nil (by show 0 ≤ 100000; decide)).toD) (eja_cons (ej_d (en_listRg1 (j := (co.length : Int)) (lenC rfl) (RgOk.of_le (by omega) (by omega) (by omega) (by omega))).toD) (eja_cons (ej_lcT (i := 11) (N := co.length) (c := 1) rfl (lenC rfl) (by decide) (by decide) (by show 11 < 12; decide) (by omega) (fun a ha => ejb_eqAny (ej_imp (ej_draw ev_int (by decide) (by decide)) (fun d hd => by obtain ⟨i, rfl, _⟩ := hd; exact ⟨i, rfl⟩) (Nat.le_refl _)))) eja_nil))) (fun ds h => ?_)) (fun d h => ?_) (Nat.le_refl _)
    · obtain ⟨d, es, rfl, _, e, es', rfl, _, g, es2, rfl, _, rfl⟩ := h
      show 3 ≤ 100000
      decide
    · obtain ⟨ds, rfl, d, es, rfl, rfl, e, es', rfl, rfl, g, es2, rfl, ⟨ms, rfl, h1, h2, h3⟩, rfl⟩ := h
      exact ⟨_, rfl, ms, rfl, ⟨h3, h2.imp (fun {a b} z => Int.le_of_lt z), by omega⟩⟩
  case items =>
    obtain ⟨ms, rfl, hc⟩ := hds
    refine ⟨Nat.le_refl _, fun d hd => ?_⟩
    simp only [List.mem_cons, List.mem_nil_iff, or_false] at hd
    rcases hd with rfl | rfl | rfl
    · exact ⟨[], rfl, ⟨(fun x hx => by cases hx), .nil, by decide⟩⟩
    · exact ⟨_, rfl, ⟨(fun x hx => rgI_mem.mp hx), rgI_lt.imp (fun {a b} z => Int.le_of_lt z), by rw [rgI_len]; omega⟩⟩
    · exact ⟨ms, rfl, hc⟩
  case one =>
    obtain ⟨ms, rfl, hc⟩ := hd
    have ed : dayM rows (begunM m.toNat cells) co ms = runM (begunM m.toNat cells) co := by
      unfold dayM
      rw [day_right right]
    exact sj_le (sj_skip (ejt_of (exa26 (ev_is (en_day (ev_var rfl) (ev_var rfl) (ev_var rfl) (ev_var rfl) cok hc).toD (by rw [ed])) (ev_var rfl) (ps (n := 2))))) (by walk_at "le") (Nat.le_refl _)
end
end Zm


set_option Elab.async false
set_option linter.all false
set_option maxRecDepth 100000
set_option maxHeartbeats 0
namespace Zm
open PySem PySem.Spec PyProof.Rows L2
abbrev RowK : PySem.W.OpenRow := PySem.W.OpenLaw.row PySem.Challenge.rw_sparecells_k26_whole_days
def df (x : Str) (i : Nat) : He.DefD := ⟨(x, none), x, x, defArgs (top i), defBody (top i), defScope (top i), [], []⟩
def mt (C m q : Str) (i j : Nat) : He.DefD := ⟨(C, some m), m, q, defArgs (inClass (top i) j), defBody (inClass (top i) j), defScope (inClass (top i) j), [], []⟩
def mtD (C q : Str) (i j : Nat) : He.DefD := ⟨(C, some "__init__"), "__init__", q, defArgs (inClass (top i) j), defBody (inClass (top i) j), defScope (inClass (top i) j), [.non], []⟩
def fnK : List He.DefD := [df "is_count" 11, df "is_count_below" 12, df "is_ascending" 13, df "is_ascending_below" 14, df "check_cells" 15, df "_are_needs" 18, df "check_recipe" 19, df "needs_of" 20, df "is_deed" 22, df "are_deeds" 23, df "wrongs_of" 24, df "but_for" 25, df "state_behind" 26, df "state_cut" 27, df "state_behind_any" 28, df "_written" 29, df "right_states" 30, df "first_state" 32, df "is_course" 33, df "first_wrong" 34, df "states" 35, df "check_course" 36, df "day" 38, df "_are_cuts" 39, df "_law_purse" 41, df "_law_mixed" 42, df "_law_draw" 43, df "_law_one_of" 44, df "_law_exact" 45, df "_law_row" 46, df "_law_recipe" 47, df "_law_made" 48, df "_law_begun" 49, df "_law_wrongs" 50, df "_law_put" 51, df "_law_behind_deed" 52, df "_law_every_deed" 53, df "_law_drawn_deed" 54, df "_law_right_deed" 55, df "_law_right_course" 56, df "_law_small_device" 57, df "_law_loose" 58, df "_law_cut_deed" 59, df "_law_day" 60, df "_law_loose_course" 61, df "_law_days_right" 62, df "law" 63, mt "Recipe" "__init__" "Recipe.__init__" 17 0, mt "Recipe" "many" "Recipe.many" 17 1, mt "Recipe" "needs" "Recipe.needs" 17 2, mt "Recipe" "size" "Recipe.size" 17 3, mt "Recipe" "__eq__" "Recipe.__eq__" 17 4]
def glos : List Str := [("is_count" : Str), ("is_count_below" : Str), ("is_ascending" : Str), ("is_ascending_below" : Str), ("check_cells" : Str), ("_are_needs" : Str), ("check_recipe" : Str), ("needs_of" : Str), ("is_deed" : Str), ("are_deeds" : Str), ("wrongs_of" : Str), ("but_for" : Str), ("state_behind" : Str), ("state_cut" : Str), ("state_behind_any" : Str), ("_written" : Str), ("right_states" : Str), ("first_state" : Str), ("is_course" : Str), ("first_wrong" : Str), ("states" : Str), ("check_course" : Str), ("day" : Str), ("_are_cuts" : Str), ("_law_purse" : Str), ("_law_mixed" : Str), ("_law_draw" : Str), ("_law_one_of" : Str), ("_law_exact" : Str), ("_law_row" : Str), ("_law_recipe" : Str), ("_law_made" : Str), ("_law_begun" : Str), ("_law_wrongs" : Str), ("_law_put" : Str), ("_law_behind_deed" : Str), ("_law_every_deed" : Str), ("_law_drawn_deed" : Str), ("_law_right_deed" : Str), ("_law_right_course" : Str), ("_law_small_device" : Str), ("_law_loose" : Str), ("_law_cut_deed" : Str), ("_law_day" : Str), ("_law_loose_course" : Str), ("_law_days_right" : Str), ("law" : Str), ("Recipe" : Str)]
def faK : List He.Fa := glos.map He.Fa.glo ++ bNames.map He.Fa.free ++ [.cls "Recipe", .mkr "Recipe", .noat "Recipe" "_many", .noat "Recipe" "_needs", .meth "Recipe" "many", .meth "Recipe" "needs", .meth "Recipe" "size", .meth "Recipe" "__eq__"]
/-- what else is asked of the classes -/
def moreK (K : PySem.W.Frag) : Bool := He.eqO (PySem.W.findIn K (.ref (He.ga K "Recipe")) "__class__") (some (some (.builtin "object.__class__"))) && (He.eqO (PySem.W.specialIn K (.builtin "object.__class__") "__get__") (some (some (.builtin "getset_descriptor.__get__"))) &&
  (decide (PySem.W.takesIn K (.builtin "object.__class__") = some true) && (decide (PySem.W.mroIn K (He.ga K "Recipe") (.type "object") = some true) && ((tyNames.all fun s => decide (PySem.W.kitOne K (.type s) (.ref (He.ga K "Recipe")) = some false)) &&
    (He.eqO (PySem.W.findIn K (.ref (He.ga K "Recipe")) "__ne__") (some (some (.builtin "object.__ne__"))) && (true))))))
abbrev AlE : Type := Bool × He.AlD
def obsE (K : PySem.W.Frag) : AlE := (moreK K, He.obsD faK fnK K)
def hkK : PySem.W.Hook where
  α := AlE
  obs := fun s => obsE (He.frG s.heap.get? (He.asD s.heap.get? 4 ++ [cStatics]))
  val := fun _ => (true, He.valD fnK)
  says := fun _ h => ∃ K : PySem.W.Frag, K.In h ∧ obsE K = (true, He.valD fnK)
  of := fun _ _ e => ⟨_, He.frG_in, e⟩
  keeps := fun _ _ _ ⟨K, hK, c⟩ k => ⟨K, PySem.W.Frag.In.keeps hK k, c⟩
def obK (s : PySem.W.SharedT) : AlE := obsE (He.frG (HandSHeadRun.getT s) (He.asD (HandSHeadRun.getT s) 4 ++ [cStatics]))
theorem obK_eq (s : PySem.W.SharedT) : obK s = hkK.obs s.abs := by
  have e : HandSHeadRun.getT s = s.abs.heap.get? := funext (HandSHeadRun.getT_eq s)
  unfold obK
  rw [e]
  rfl
def others : List Str := [("CellsError" : Str), ("InvalidCount" : Str), ("InvalidNeeds" : Str), ("InvalidRecipe" : Str), ("InvalidBlock" : Str), ("InvalidCells" : Str), ("InvalidCourse" : Str), ("InvalidCuts" : Str), ("Refused" : Str), ("is_count" : Str), ("is_count_below" : Str), ("is_ascending" : Str), ("is_ascending_below" : Str), ("check_cells" : Str), ("Recipe" : Str), ("_are_needs" : Str), ("check_recipe" : Str), ("needs_of" : Str), ("is_deed" : Str), ("are_deeds" : Str), ("wrongs_of" : Str), ("but_for" : Str), ("state_behind" : Str), ("state_cut" : Str), ("state_behind_any" : Str), ("_written" : Str), ("right_states" : Str), ("first_state" : Str), ("is_course" : Str), ("first_wrong" : Str), ("states" : Str), ("check_course" : Str), ("day" : Str), ("_are_cuts" : Str), ("_law_purse" : Str), ("_law_mixed" : Str), ("_law_draw" : Str), ("_law_one_of" : Str), ("_law_exact" : Str), ("_law_row" : Str), ("_law_recipe" : Str), ("_law_made" : Str), ("_law_begun" : Str), ("_law_wrongs" : Str), ("_law_put" : Str), ("_law_behind_deed" : Str), ("_law_every_deed" : Str), ("_law_drawn_deed" : Str), ("_law_right_deed" : Str), ("_law_right_course" : Str), ("_law_small_device" : Str), ("_law_loose" : Str), ("_law_cut_deed" : Str), ("_law_day" : Str), ("_law_loose_course" : Str), ("_law_days_right" : Str)]
theorem runK (w : World) : HandSHeadRun.RunEq RowK (PySem.W.view RowK.prog [63]) hkK obK 6000 others w := by
  intro os
  kernel_rfl
theorem factsK {P : Program} {w : World} {K : PySem.W.Frag} {h : Heap} {mg : Str → Option Value} {f : Addr} (X : K.In h) (G : h.Ns mainGlobals mg) (hfa : mg ("law" : Str) = some (.ref f)) (all : obsE K = (true, He.valD fnK)) :
    ∃ fd : FuncData, (∀ (s : Shared) (v : Value), BindsTo s fd ⟨[v], []⟩ [("script", v)]) ∧ ∀ base : Heap, K.In base → base.Ns mainGlobals mg → FnOk P w K mg base CX0 9 f fd ["script"] (spLaw K) := by
  have c : He.SaysD faK fnK K := congrArg (fun z : AlE => z.2) all
  have more : moreK K = true := congrArg (fun z : AlE => z.1) all
  have fact : ∀ x ∈ faK, x.ok K = true := fun x hx => by
    obtain ⟨i, hi⟩ := List.mem_iff_getElem?.mp hx
    exact c.fact i hi
  have glo : ∀ x ∈ glos, mg x = some (.ref (He.ga K x)) := fun x hx => He.glo_ok X G (fact (.glo x) (List.mem_append_left _ (List.mem_append_left _ (List.mem_map.mpr ⟨x, hx, rfl⟩))))
  have B : BFree mg := fun x hx => He.free_ok X G (fact (.free x) (List.mem_append_left _ (List.mem_append_right _ (List.mem_map.mpr ⟨x, hx, rfl⟩))))
  have last : ∀ x ∈ [He.Fa.cls "Recipe", .mkr "Recipe", .noat "Recipe" "_many", .noat "Recipe" "_needs", .meth "Recipe" "many", .meth "Recipe" "needs", .meth "Recipe" "size", .meth "Recipe" "__eq__"], x.ok K = true := fun x hx => fact x (List.mem_append_right _ hx)
  obtain ⟨e1, more⟩ := He.ba more
  obtain ⟨e2, more⟩ := He.ba more
  obtain ⟨e3, more⟩ := He.ba more
  obtain ⟨e4, more⟩ := He.ba more
  obtain ⟨e5, more⟩ := He.ba more
  obtain ⟨e6, e7⟩ := He.ba more
  have R : RecFacts K (He.ga K "Recipe") := ⟨He.cls_ok (last (.cls "Recipe") (by simp)), He.noat_ok (last (.noat "Recipe" "_many") (by simp)), He.noat_ok (last (.noat "Recipe" "_needs") (by simp)), He.eqO_ok e1, He.eqO_ok e2, of_decide_eq_true e3, of_decide_eq_true e4, fun s hs => of_decide_eq_true (List.all_eq_true.mp e5 s hs)⟩
  have hne := He.eqO_ok e6
  have GR := glo "Recipe" (by decide +kernel)
  obtain ⟨fd_is_count, F_is_count⟩ := c.def_ 0 (d := df "is_count" 11) rfl
  have A_is_count : DefAt K mg "is_count" ["value"] (top 11) (He.ga K "is_count") fd_is_count := ⟨F_is_count, glo "is_count" (by decide +kernel), F_is_count.bindsN fun _ _ _ _ _ _ us hl => match us, hl with | [_], _ => rfl⟩
  obtain ⟨fd_is_count_below, F_is_count_below⟩ := c.def_ 1 (d := df "is_count_below" 12) rfl
  have A_is_count_below : DefAt K mg "is_count_below" ["value", "limit"] (top 12) (He.ga K "is_count_below") fd_is_count_below := ⟨F_is_count_below, glo "is_count_below" (by decide +kernel), F_is_count_below.bindsN fun _ _ _ _ _ _ us hl => match us, hl with | [_, _], _ => rfl⟩
  obtain ⟨fd_is_ascending, F_is_ascending⟩ := c.def_ 2 (d := df "is_ascending" 13) rfl
  have A_is_ascending : DefAt K mg "is_ascending" ["value"] (top 13) (He.ga K "is_ascending") fd_is_ascending := ⟨F_is_ascending, glo "is_ascending" (by decide +kernel), F_is_ascending.bindsN fun _ _ _ _ _ _ us hl => match us, hl with | [_], _ => rfl⟩
  obtain ⟨fd_is_ascending_below, F_is_ascending_below⟩ := c.def_ 3 (d := df "is_ascending_below" 14) rfl
  have A_is_ascending_below : DefAt K mg "is_ascending_below" ["value", "limit"] (top 14) (He.ga K "is_ascending_below") fd_is_ascending_below := ⟨F_is_ascending_below, glo "is_ascending_below" (by decide +kernel), F_is_ascending_below.bindsN fun _ _ _ _ _ _ us hl => match us, hl with | [_, _], _ => rfl⟩
  obtain ⟨fd_check_cells, F_check_cells⟩ := c.def_ 4 (d := df "check_cells" 15) rfl
  have A_check_cells : DefAt K mg "check_cells" ["recipe", "cells"] (top 15) (He.ga K "check_cells") fd_check_cells := ⟨F_check_cells, glo "check_cells" (by decide +kernel), F_check_cells.bindsN fun _ _ _ _ _ _ us hl => match us, hl with | [_, _], _ => rfl⟩
  obtain ⟨fd_are_needs, F_are_needs⟩ := c.def_ 5 (d := df "_are_needs" 18) rfl
  have A_are_needs : DefAt K mg "_are_needs" ["many", "needs"] (top 18) (He.ga K "_are_needs") fd_are_needs := ⟨F_are_needs, glo "_are_needs" (by decide +kernel), F_are_needs.bindsN fun _ _ _ _ _ _ us hl => match us, hl with | [_, _], _ => rfl⟩
  obtain ⟨fd_check_recipe, F_check_recipe⟩ := c.def_ 6 (d := df "check_recipe" 19) rfl
  have A_check_recipe : DefAt K mg "check_recipe" ["recipe"] (top 19) (He.ga K "check_recipe") fd_check_recipe := ⟨F_check_recipe, glo "check_recipe" (by decide +kernel), F_check_recipe.bindsN fun _ _ _ _ _ _ us hl => match us, hl with | [_], _ => rfl⟩
  obtain ⟨fd_needs_of, F_needs_of⟩ := c.def_ 7 (d := df "needs_of" 20) rfl
  have A_needs_of : DefAt K mg "needs_of" ["recipe", "block"] (top 20) (He.ga K "needs_of") fd_needs_of := ⟨F_needs_of, glo "needs_of" (by decide +kernel), F_needs_of.bindsN fun _ _ _ _ _ _ us hl => match us, hl with | [_, _], _ => rfl⟩
  obtain ⟨fd_is_deed, F_is_deed⟩ := c.def_ 8 (d := df "is_deed" 22) rfl
  have A_is_deed : DefAt K mg "is_deed" ["recipe", "cells", "value"] (top 22) (He.ga K "is_deed") fd_is_deed := ⟨F_is_deed, glo "is_deed" (by decide +kernel), F_is_deed.bindsN fun _ _ _ _ _ _ us hl => match us, hl with | [_, _, _], _ => rfl⟩
  obtain ⟨fd_are_deeds, F_are_deeds⟩ := c.def_ 9 (d := df "are_deeds" 23) rfl
  have A_are_deeds : DefAt K mg "are_deeds" ["recipe", "cells", "value"] (top 23) (He.ga K "are_deeds") fd_are_deeds := ⟨F_are_deeds, glo "are_deeds" (by decide +kernel), F_are_deeds.bindsN fun _ _ _ _ _ _ us hl => match us, hl with | [_, _, _], _ => rfl⟩
  obtain ⟨fd_wrongs_of, F_wrongs_of⟩ := c.def_ 10 (d := df "wrongs_of" 24) rfl
  have A_wrongs_of : DefAt K mg "wrongs_of" ["recipe", "state", "deed"] (top 24) (He.ga K "wrongs_of") fd_wrongs_of := ⟨F_wrongs_of, glo "wrongs_of" (by decide +kernel), F_wrongs_of.bindsN fun _ _ _ _ _ _ us hl => match us, hl with | [_, _, _], _ => rfl⟩
  obtain ⟨fd_but_for, F_but_for⟩ := c.def_ 11 (d := df "but_for" 25) rfl
  have A_but_for : DefAt K mg "but_for" ["state", "cell"] (top 25) (He.ga K "but_for") fd_but_for := ⟨F_but_for, glo "but_for" (by decide +kernel), F_but_for.bindsN fun _ _ _ _ _ _ us hl => match us, hl with | [_, _], _ => rfl⟩
  obtain ⟨fd_state_behind, F_state_behind⟩ := c.def_ 12 (d := df "state_behind" 26) rfl
  have A_state_behind : DefAt K mg "state_behind" ["state", "deed"] (top 26) (He.ga K "state_behind") fd_state_behind := ⟨F_state_behind, glo "state_behind" (by decide +kernel), F_state_behind.bindsN fun _ _ _ _ _ _ us hl => match us, hl with | [_, _], _ => rfl⟩
  obtain ⟨fd_state_cut, F_state_cut⟩ := c.def_ 13 (d := df "state_cut" 27) rfl
  have A_state_cut : DefAt K mg "state_cut" ["state", "deed"] (top 27) (He.ga K "state_cut") fd_state_cut := ⟨F_state_cut, glo "state_cut" (by decide +kernel), F_state_cut.bindsN fun _ _ _ _ _ _ us hl => match us, hl with | [_, _], _ => rfl⟩
  obtain ⟨fd_state_behind_any, F_state_behind_any⟩ := c.def_ 14 (d := df "state_behind_any" 28) rfl
  have A_state_behind_any : DefAt K mg "state_behind_any" ["recipe", "state", "deed"] (top 28) (He.ga K "state_behind_any") fd_state_behind_any := ⟨F_state_behind_any, glo "state_behind_any" (by decide +kernel), F_state_behind_any.bindsN fun _ _ _ _ _ _ us hl => match us, hl with | [_, _, _], _ => rfl⟩
  obtain ⟨fd_written, F_written⟩ := c.def_ 15 (d := df "_written" 29) rfl
  have A_written : DefAt K mg "_written" ["state", "cell", "content"] (top 29) (He.ga K "_written") fd_written := ⟨F_written, glo "_written" (by decide +kernel), F_written.bindsN fun _ _ _ _ _ _ us hl => match us, hl with | [_, _, _], _ => rfl⟩
  obtain ⟨fd_right_states, F_right_states⟩ := c.def_ 16 (d := df "right_states" 30) rfl
  have A_right_states : DefAt K mg "right_states" ["recipe", "state", "deeds"] (top 30) (He.ga K "right_states") fd_right_states := ⟨F_right_states, glo "right_states" (by decide +kernel), F_right_states.bindsN fun _ _ _ _ _ _ us hl => match us, hl with | [_, _, _], _ => rfl⟩
  obtain ⟨fd_first_state, F_first_state⟩ := c.def_ 17 (d := df "first_state" 32) rfl
  have A_first_state : DefAt K mg "first_state" ["recipe", "cells"] (top 32) (He.ga K "first_state") fd_first_state := ⟨F_first_state, glo "first_state" (by decide +kernel), F_first_state.bindsN fun _ _ _ _ _ _ us hl => match us, hl with | [_, _], _ => rfl⟩
  obtain ⟨fd_is_course, F_is_course⟩ := c.def_ 18 (d := df "is_course" 33) rfl
  have A_is_course : DefAt K mg "is_course" ["recipe", "cells", "value"] (top 33) (He.ga K "is_course") fd_is_course := ⟨F_is_course, glo "is_course" (by decide +kernel), F_is_course.bindsN fun _ _ _ _ _ _ us hl => match us, hl with | [_, _, _], _ => rfl⟩
  obtain ⟨fd_first_wrong, F_first_wrong⟩ := c.def_ 19 (d := df "first_wrong" 34) rfl
  have A_first_wrong : DefAt K mg "first_wrong" ["recipe", "cells", "course"] (top 34) (He.ga K "first_wrong") fd_first_wrong := ⟨F_first_wrong, glo "first_wrong" (by decide +kernel), F_first_wrong.bindsN fun _ _ _ _ _ _ us hl => match us, hl with | [_, _, _], _ => rfl⟩
  obtain ⟨fd_states, F_states⟩ := c.def_ 20 (d := df "states" 35) rfl
  have A_states : DefAt K mg "states" ["recipe", "cells", "course"] (top 35) (He.ga K "states") fd_states := ⟨F_states, glo "states" (by decide +kernel), F_states.bindsN fun _ _ _ _ _ _ us hl => match us, hl with | [_, _, _], _ => rfl⟩
  obtain ⟨fd_check_course, F_check_course⟩ := c.def_ 21 (d := df "check_course" 36) rfl
  have A_check_course : DefAt K mg "check_course" ["recipe", "cells", "course"] (top 36) (He.ga K "check_course") fd_check_course := ⟨F_check_course, glo "check_course" (by decide +kernel), F_check_course.bindsN fun _ _ _ _ _ _ us hl => match us, hl with | [_, _, _], _ => rfl⟩
  obtain ⟨fd_day, F_day⟩ := c.def_ 22 (d := df "day" 38) rfl
  have A_day : DefAt K mg "day" ["recipe", "cells", "course", "cuts"] (top 38) (He.ga K "day") fd_day := ⟨F_day, glo "day" (by decide +kernel), F_day.bindsN fun _ _ _ _ _ _ us hl => match us, hl with | [_, _, _, _], _ => rfl⟩
  obtain ⟨fd_are_cuts, F_are_cuts⟩ := c.def_ 23 (d := df "_are_cuts" 39) rfl
  have A_are_cuts : DefAt K mg "_are_cuts" ["course", "value"] (top 39) (He.ga K "_are_cuts") fd_are_cuts := ⟨F_are_cuts, glo "_are_cuts" (by decide +kernel), F_are_cuts.bindsN fun _ _ _ _ _ _ us hl => match us, hl with | [_, _], _ => rfl⟩
  obtain ⟨fd_law_purse, F_law_purse⟩ := c.def_ 24 (d := df "_law_purse" 41) rfl
  have A_law_purse : DefAt K mg "_law_purse" ["script", "at"] (top 41) (He.ga K "_law_purse") fd_law_purse := ⟨F_law_purse, glo "_law_purse" (by decide +kernel), F_law_purse.bindsN fun _ _ _ _ _ _ us hl => match us, hl with | [_, _], _ => rfl⟩
  obtain ⟨fd_law_mixed, F_law_mixed⟩ := c.def_ 25 (d := df "_law_mixed" 42) rfl
  have A_law_mixed : DefAt K mg "_law_mixed" ["seed", "spin", "at"] (top 42) (He.ga K "_law_mixed") fd_law_mixed := ⟨F_law_mixed, glo "_law_mixed" (by decide +kernel), F_law_mixed.bindsN fun _ _ _ _ _ _ us hl => match us, hl with | [_, _, _], _ => rfl⟩
  obtain ⟨fd_law_draw, F_law_draw⟩ := c.def_ 26 (d := df "_law_draw" 43) rfl
  have A_law_draw : DefAt K mg "_law_draw" ["purse", "many"] (top 43) (He.ga K "_law_draw") fd_law_draw := ⟨F_law_draw, glo "_law_draw" (by decide +kernel), F_law_draw.bindsN fun _ _ _ _ _ _ us hl => match us, hl with | [_, _], _ => rfl⟩
  obtain ⟨fd_law_one_of, F_law_one_of⟩ := c.def_ 27 (d := df "_law_one_of" 44) rfl
  have A_law_one_of : DefAt K mg "_law_one_of" ["purse", "some"] (top 44) (He.ga K "_law_one_of") fd_law_one_of := ⟨F_law_one_of, glo "_law_one_of" (by decide +kernel), F_law_one_of.bindsN fun _ _ _ _ _ _ us hl => match us, hl with | [_, _], _ => rfl⟩
  obtain ⟨fd_law_exact, F_law_exact⟩ := c.def_ 28 (d := df "_law_exact" 45) rfl
  have A_law_exact : DefAt K mg "_law_exact" ["mine", "theirs"] (top 45) (He.ga K "_law_exact") fd_law_exact := ⟨F_law_exact, glo "_law_exact" (by decide +kernel), F_law_exact.bindsN fun _ _ _ _ _ _ us hl => match us, hl with | [_, _], _ => rfl⟩
  obtain ⟨fd_law_row, F_law_row⟩ := c.def_ 29 (d := df "_law_row" 46) rfl
  have A_law_row : DefAt K mg "_law_row" ["purse", "old", "way"] (top 46) (He.ga K "_law_row") fd_law_row := ⟨F_law_row, glo "_law_row" (by decide +kernel), F_law_row.bindsN fun _ _ _ _ _ _ us hl => match us, hl with | [_, _, _], _ => rfl⟩
  obtain ⟨fd_law_recipe, F_law_recipe⟩ := c.def_ 30 (d := df "_law_recipe" 47) rfl
  have A_law_recipe : DefAt K mg "_law_recipe" ["purse", "most_new", "most_old"] (top 47) (He.ga K "_law_recipe") fd_law_recipe := ⟨F_law_recipe, glo "_law_recipe" (by decide +kernel), F_law_recipe.bindsN fun _ _ _ _ _ _ us hl => match us, hl with | [_, _, _], _ => rfl⟩
  obtain ⟨fd_law_made, F_law_made⟩ := c.def_ 31 (d := df "_law_made" 48) rfl
  have A_law_made : DefAt K mg "_law_made" ["recipe"] (top 48) (He.ga K "_law_made") fd_law_made := ⟨F_law_made, glo "_law_made" (by decide +kernel), F_law_made.bindsN fun _ _ _ _ _ _ us hl => match us, hl with | [_], _ => rfl⟩
  obtain ⟨fd_law_begun, F_law_begun⟩ := c.def_ 32 (d := df "_law_begun" 49) rfl
  have A_law_begun : DefAt K mg "_law_begun" ["recipe", "cells"] (top 49) (He.ga K "_law_begun") fd_law_begun := ⟨F_law_begun, glo "_law_begun" (by decide +kernel), F_law_begun.bindsN fun _ _ _ _ _ _ us hl => match us, hl with | [_, _], _ => rfl⟩
  obtain ⟨fd_law_wrongs, F_law_wrongs⟩ := c.def_ 33 (d := df "_law_wrongs" 50) rfl
  have A_law_wrongs : DefAt K mg "_law_wrongs" ["recipe", "state", "deed"] (top 50) (He.ga K "_law_wrongs") fd_law_wrongs := ⟨F_law_wrongs, glo "_law_wrongs" (by decide +kernel), F_law_wrongs.bindsN fun _ _ _ _ _ _ us hl => match us, hl with | [_, _, _], _ => rfl⟩
  obtain ⟨fd_law_put, F_law_put⟩ := c.def_ 34 (d := df "_law_put" 51) rfl
  have A_law_put : DefAt K mg "_law_put" ["state", "cell", "thing"] (top 51) (He.ga K "_law_put") fd_law_put := ⟨F_law_put, glo "_law_put" (by decide +kernel), F_law_put.bindsN fun _ _ _ _ _ _ us hl => match us, hl with | [_, _, _], _ => rfl⟩
  obtain ⟨fd_law_behind_deed, F_law_behind_deed⟩ := c.def_ 35 (d := df "_law_behind_deed" 52) rfl
  have A_law_behind_deed : DefAt K mg "_law_behind_deed" ["state", "deed"] (top 52) (He.ga K "_law_behind_deed") fd_law_behind_deed := ⟨F_law_behind_deed, glo "_law_behind_deed" (by decide +kernel), F_law_behind_deed.bindsN fun _ _ _ _ _ _ us hl => match us, hl with | [_, _], _ => rfl⟩
  obtain ⟨fd_law_every_deed, F_law_every_deed⟩ := c.def_ 36 (d := df "_law_every_deed" 53) rfl
  have A_law_every_deed : DefAt K mg "_law_every_deed" ["recipe", "cells"] (top 53) (He.ga K "_law_every_deed") fd_law_every_deed := ⟨F_law_every_deed, glo "_law_every_deed" (by decide +kernel), F_law_every_deed.bindsN fun _ _ _ _ _ _ us hl => match us, hl with | [_, _], _ => rfl⟩
  obtain ⟨fd_law_drawn_deed, F_law_drawn_deed⟩ := c.def_ 37 (d := df "_law_drawn_deed" 54) rfl
  have A_law_drawn_deed : DefAt K mg "_law_drawn_deed" ["purse", "recipe", "cells"] (top 54) (He.ga K "_law_drawn_deed") fd_law_drawn_deed := ⟨F_law_drawn_deed, glo "_law_drawn_deed" (by decide +kernel), F_law_drawn_deed.bindsN fun _ _ _ _ _ _ us hl => match us, hl with | [_, _, _], _ => rfl⟩
  obtain ⟨fd_law_right_deed, F_law_right_deed⟩ := c.def_ 38 (d := df "_law_right_deed" 55) rfl
  have A_law_right_deed : DefAt K mg "_law_right_deed" ["purse", "recipe", "state"] (top 55) (He.ga K "_law_right_deed") fd_law_right_deed := ⟨F_law_right_deed, glo "_law_right_deed" (by decide +kernel), F_law_right_deed.bindsN fun _ _ _ _ _ _ us hl => match us, hl with | [_, _, _], _ => rfl⟩
  obtain ⟨fd_law_right_course, F_law_right_course⟩ := c.def_ 39 (d := df "_law_right_course" 56) rfl
  have A_law_right_course : DefAt K mg "_law_right_course" ["purse", "recipe", "cells", "most"] (top 56) (He.ga K "_law_right_course") fd_law_right_course := ⟨F_law_right_course, glo "_law_right_course" (by decide +kernel), F_law_right_course.bindsN fun _ _ _ _ _ _ us hl => match us, hl with | [_, _, _, _], _ => rfl⟩
  obtain ⟨fd_law_small_device, F_law_small_device⟩ := c.def_ 40 (d := df "_law_small_device" 57) rfl
  have A_law_small_device : DefAt K mg "_law_small_device" ["purse", "most_new", "most_old", "more"] (top 57) (He.ga K "_law_small_device") fd_law_small_device := ⟨F_law_small_device, glo "_law_small_device" (by decide +kernel), F_law_small_device.bindsN fun _ _ _ _ _ _ us hl => match us, hl with | [_, _, _, _], _ => rfl⟩
  obtain ⟨fd_law_loose, F_law_loose⟩ := c.def_ 41 (d := df "_law_loose" 58) rfl
  have A_law_loose : DefAt K mg "_law_loose" ["recipe", "state", "deed"] (top 58) (He.ga K "_law_loose") fd_law_loose := ⟨F_law_loose, glo "_law_loose" (by decide +kernel), F_law_loose.bindsN fun _ _ _ _ _ _ us hl => match us, hl with | [_, _, _], _ => rfl⟩
  obtain ⟨fd_law_cut_deed, F_law_cut_deed⟩ := c.def_ 42 (d := df "_law_cut_deed" 59) rfl
  have A_law_cut_deed : DefAt K mg "_law_cut_deed" ["recipe", "state", "deed"] (top 59) (He.ga K "_law_cut_deed") fd_law_cut_deed := ⟨F_law_cut_deed, glo "_law_cut_deed" (by decide +kernel), F_law_cut_deed.bindsN fun _ _ _ _ _ _ us hl => match us, hl with | [_, _, _], _ => rfl⟩
  obtain ⟨fd_law_day, F_law_day⟩ := c.def_ 43 (d := df "_law_day" 60) rfl
  have A_law_day : DefAt K mg "_law_day" ["recipe", "cells", "course", "breaks"] (top 60) (He.ga K "_law_day") fd_law_day := ⟨F_law_day, glo "_law_day" (by decide +kernel), F_law_day.bindsN fun _ _ _ _ _ _ us hl => match us, hl with | [_, _, _, _], _ => rfl⟩
  obtain ⟨fd_law_loose_course, F_law_loose_course⟩ := c.def_ 44 (d := df "_law_loose_course" 61) rfl
  have A_law_loose_course : DefAt K mg "_law_loose_course" ["purse", "recipe", "cells", "most"] (top 61) (He.ga K "_law_loose_course") fd_law_loose_course := ⟨F_law_loose_course, glo "_law_loose_course" (by decide +kernel), F_law_loose_course.bindsN fun _ _ _ _ _ _ us hl => match us, hl with | [_, _, _, _], _ => rfl⟩
  obtain ⟨fd_law_days_right, F_law_days_right⟩ := c.def_ 45 (d := df "_law_days_right" 62) rfl
  have A_law_days_right : DefAt K mg "_law_days_right" ["purse", "made", "recipe", "cells", "course"] (top 62) (He.ga K "_law_days_right") fd_law_days_right := ⟨F_law_days_right, glo "_law_days_right" (by decide +kernel), F_law_days_right.bindsN fun _ _ _ _ _ _ us hl => match us, hl with | [_, _, _, _, _], _ => rfl⟩
  obtain ⟨fd_law, F_law⟩ := c.def_ 46 (d := df "law" 63) rfl
  have A_law : DefAt K mg "law" ["script"] (top 63) (He.ga K "law") fd_law := ⟨F_law, glo "law" (by decide +kernel), F_law.bindsN fun _ _ _ _ _ _ us hl => match us, hl with | [_], _ => rfl⟩
  obtain ⟨fd_m_init, F_m_init⟩ := c.def_ 47 (d := mt "Recipe" "__init__" "Recipe.__init__" 17 0) rfl
  have B_m_init : Binds K fd_m_init ["self", "many", "needs"] [] := F_m_init.bindsN fun _ _ _ _ _ _ us hl => match us, hl with | [_, _, _], _ => rfl
  obtain ⟨fd_m_many, F_m_many⟩ := c.def_ 48 (d := mt "Recipe" "many" "Recipe.many" 17 1) rfl
  have A_m_many : MethAt K (He.ga K "Recipe") "many" "Recipe.many" ["self"] (inClass (top 17) 1) _ fd_m_many := ⟨F_m_many, He.meth_ok (last (.meth "Recipe" "many") (by simp)), F_m_many.bindsN fun _ _ _ _ _ _ us hl => match us, hl with | [_], _ => rfl⟩
  obtain ⟨fd_m_needs, F_m_needs⟩ := c.def_ 49 (d := mt "Recipe" "needs" "Recipe.needs" 17 2) rfl
  have A_m_needs : MethAt K (He.ga K "Recipe") "needs" "Recipe.needs" ["self"] (inClass (top 17) 2) _ fd_m_needs := ⟨F_m_needs, He.meth_ok (last (.meth "Recipe" "needs") (by simp)), F_m_needs.bindsN fun _ _ _ _ _ _ us hl => match us, hl with | [_], _ => rfl⟩
  obtain ⟨fd_m_size, F_m_size⟩ := c.def_ 50 (d := mt "Recipe" "size" "Recipe.size" 17 3) rfl
  have A_m_size : MethAt K (He.ga K "Recipe") "size" "Recipe.size" ["self"] (inClass (top 17) 3) _ fd_m_size := ⟨F_m_size, He.meth_ok (last (.meth "Recipe" "size") (by simp)), F_m_size.bindsN fun _ _ _ _ _ _ us hl => match us, hl with | [_], _ => rfl⟩
  obtain ⟨fd_m_eq, F_m_eq⟩ := c.def_ 51 (d := mt "Recipe" "__eq__" "Recipe.__eq__" 17 4) rfl
  have A_m_eq : MethAt K (He.ga K "Recipe") "__eq__" "Recipe.__eq__" ["self", "other"] (inClass (top 17) 4) _ fd_m_eq := ⟨F_m_eq, He.meth_ok (last (.meth "Recipe" "__eq__") (by simp)), F_m_eq.bindsN fun _ _ _ _ _ _ us hl => match us, hl with | [_, _], _ => rfl⟩
  refine ⟨fd_law, fun s v => FunD.bindsA (ps := ["script"]) F_law (fun _ _ _ _ _ _ us hl => match us, hl with | [_], _ => rfl) s [v] rfl, fun base _ _ => ?_⟩
  have e := hfa.symm.trans A_law.at_
  cases e
  have T_D_is_count : DefOk P w K mg base "is_count" 1 ["value"] (sp_is_count K (He.ga K "Recipe")) := ok_is_count B A_is_count
  have T_D_is_count_below : DefOk P w K mg base "is_count_below" 2 ["value", "limit"] (sp_is_count_below K (He.ga K "Recipe")) := ok_is_count_below B T_D_is_count A_is_count_below
  have T_D_is_ascending : DefOk P w K mg base "is_ascending" 2 ["value"] (sp_is_ascending K (He.ga K "Recipe")) := ok_is_ascending B T_D_is_count A_is_ascending
  have T_D_is_ascending_below : DefOk P w K mg base "is_ascending_below" 3 ["value", "limit"] (sp_is_ascending_below K (He.ga K "Recipe")) := ok_is_ascending_below B T_D_is_ascending A_is_ascending_below
  have T_D_m_many : MethOk P w K mg base (He.ga K "Recipe") "many" 1 ["self"] (sp_many K (He.ga K "Recipe")) := ok_many R.cl R.na A_m_many
  have T_D_m_size : MethOk P w K mg base (He.ga K "Recipe") "size" 1 ["self"] (sp_size K (He.ga K "Recipe")) := ok_size B R.cl R.na2 A_m_size
  have T_D_m_needs : MethOk P w K mg base (He.ga K "Recipe") "needs" 1 ["self"] (sp_needs K (He.ga K "Recipe")) := ok_needs B R.cl R.na2 A_m_needs
  have T_D_are_needs : DefOk P w K mg base "_are_needs" 4 ["many", "needs"] (sp_are_needs K (He.ga K "Recipe")) := ok_are_needs B T_D_is_ascending_below A_are_needs
  have T_M_Recipe : MakeOk P w K mg base (He.ga K "Recipe") "Recipe" 5 ["self", "many", "needs"] (spInit K (He.ga K "Recipe")) := ok_init B R.cl R.na R.na2 T_D_is_count T_D_are_needs (He.mkr_ok (last (.mkr "Recipe") (by simp))) GR F_m_init B_m_init
  have T_D_check_recipe : DefOk P w K mg base "check_recipe" 1 ["recipe"] (sp_check_recipe K (He.ga K "Recipe")) := ok_check_recipe B R GR A_check_recipe
  have T_D_needs_of : DefOk P w K mg base "needs_of" 3 ["recipe", "block"] (sp_needs_of K (He.ga K "Recipe")) := ok_needs_of T_D_check_recipe T_D_is_count_below T_D_m_size T_D_m_needs A_needs_of
  have T_D_but_for : DefOk P w K mg base "but_for" 1 ["state", "cell"] (sp_but_for K (He.ga K "Recipe")) := ok_but_for A_but_for
  have T_D_written : DefOk P w K mg base "_written" 1 ["state", "cell", "content"] (sp_written K (He.ga K "Recipe")) := ok_written A_written
  have T_D_state_behind : DefOk P w K mg base "state_behind" 2 ["state", "deed"] (sp_behindS K (He.ga K "Recipe")) := ok_state_behind B T_D_written A_state_behind
  have T_D_state_cut : DefOk P w K mg base "state_cut" 2 ["state", "deed"] (sp_cutS K (He.ga K "Recipe")) := ok_state_cut T_D_written A_state_cut
  have T_D_state_behind_any : DefOk P w K mg base "state_behind_any" 4 ["recipe", "state", "deed"] (sp_anyS K (He.ga K "Recipe")) := ok_state_behind_any B T_D_needs_of T_D_state_cut T_D_state_behind A_state_behind_any
  have T_D_wrongs_of : DefOk P w K mg base "wrongs_of" 4 ["recipe", "state", "deed"] (sp_wrongs K (He.ga K "Recipe")) := ok_wrongs_of B T_D_needs_of T_D_but_for A_wrongs_of
  have T_D_check_cells : DefOk P w K mg base "check_cells" 2 ["recipe", "cells"] (sp_check_cells K (He.ga K "Recipe")) := ok_check_cells B T_D_is_count T_D_m_many A_check_cells
  have T_D_first_state : DefOk P w K mg base "first_state" 3 ["recipe", "cells"] (sp_first_state K (He.ga K "Recipe")) := ok_first_state B T_D_check_recipe T_D_check_cells T_D_m_many A_first_state
  have T_D_is_deed : DefOk P w K mg base "is_deed" 3 ["recipe", "cells", "value"] (sp_is_deed K (He.ga K "Recipe")) := ok_is_deed B T_D_is_count_below T_D_m_size A_is_deed
  have T_D_are_deeds : DefOk P w K mg base "are_deeds" 4 ["recipe", "cells", "value"] (sp_are_deeds K (He.ga K "Recipe")) := ok_are_deeds B T_D_is_deed A_are_deeds
  have T_D_is_course : DefOk P w K mg base "is_course" 5 ["recipe", "cells", "value"] (sp_are_deeds K (He.ga K "Recipe")) := ok_is_course T_D_check_recipe T_D_check_cells T_D_are_deeds A_is_course
  have T_D_check_course : DefOk P w K mg base "check_course" 6 ["recipe", "cells", "course"] (sp_check_course K (He.ga K "Recipe")) := ok_check_course T_D_is_course A_check_course
  have T_D_right_states : DefOk P w K mg base "right_states" 5 ["recipe", "state", "deeds"] (sp_right_states K (He.ga K "Recipe")) := ok_right_states B T_D_wrongs_of T_D_state_behind A_right_states
  have T_D_first_wrong : DefOk P w K mg base "first_wrong" 7 ["recipe", "cells", "course"] (sp_first_wrong K (He.ga K "Recipe")) := ok_first_wrong B T_D_check_course T_D_right_states T_D_first_state A_first_wrong
  have T_D_states : DefOk P w K mg base "states" 8 ["recipe", "cells", "course"] (sp_states K (He.ga K "Recipe")) := ok_states T_D_first_wrong T_D_right_states T_D_first_state A_states
  have T_D_are_cuts : DefOk P w K mg base "_are_cuts" 3 ["course", "value"] (sp_are_cuts K (He.ga K "Recipe")) := ok_are_cuts B T_D_is_count_below A_are_cuts
  have T_D_day : DefOk P w K mg base "day" 7 ["recipe", "cells", "course", "cuts"] (sp_day K (He.ga K "Recipe")) := ok_day B T_D_check_course T_D_are_cuts T_D_first_state T_D_state_cut T_D_state_behind_any A_day
  have T_D_law_purse : DefOk P w K mg base "_law_purse" 1 ["script", "at"] (spPurse K) := ok_law_purse B A_law_purse
  have T_D_law_mixed : DefOk P w K mg base "_law_mixed" 1 ["seed", "spin", "at"] (sp_mixed K (He.ga K "Recipe")) := ok_law_mixed B A_law_mixed
  have T_D_law_draw : DefOk P w K mg base "_law_draw" 2 ["purse", "many"] spDraw := ok_law_draw B T_D_law_mixed A_law_draw
  have T_D_law_row : DefOk P w K mg base "_law_row" 3 ["purse", "old", "way"] (sp_row K (He.ga K "Recipe")) := ok_law_row B T_D_law_draw A_law_row
  have T_D_law_one_of : DefOk P w K mg base "_law_one_of" 3 ["purse", "some"] (sp_one K (He.ga K "Recipe")) := ok_law_one_of B T_D_law_draw A_law_one_of
  have T_D_law_recipe : DefOk P w K mg base "_law_recipe" 4 ["purse", "most_new", "most_old"] (sp_recipe K (He.ga K "Recipe")) := ok_law_recipe B T_D_law_draw T_D_law_one_of T_D_law_row A_law_recipe
  have T_D_law_exact : DefOk P w K mg base "_law_exact" 5 ["mine", "theirs"] (sp_exact K (He.ga K "Recipe") 5) := ok_law_exact B A_law_exact 5
  have T_D_m_eq : MethOk P w K mg base (He.ga K "Recipe") "__eq__" 1 ["self", "other"] (sp_eq K (He.ga K "Recipe")) := ok_eq B R GR A_m_eq
  have T_D_law_made : DefOk P w K mg base "_law_made" 7 ["recipe"] (sp_made K (He.ga K "Recipe")) := ok_law_made B T_M_Recipe A_law_made
  have T_D_law_begun : DefOk P w K mg base "_law_begun" 1 ["recipe", "cells"] (sp_lbegun K (He.ga K "Recipe")) := ok_law_begun B A_law_begun
  have T_D_law_wrongs : DefOk P w K mg base "_law_wrongs" 1 ["recipe", "state", "deed"] (sp_lwrongs K (He.ga K "Recipe")) := ok_law_wrongs B A_law_wrongs
  have T_D_law_put : DefOk P w K mg base "_law_put" 1 ["state", "cell", "thing"] (sp_lput K (He.ga K "Recipe")) := ok_law_put A_law_put
  have T_D_law_behind_deed : DefOk P w K mg base "_law_behind_deed" 2 ["state", "deed"] (sp_lbehind K (He.ga K "Recipe")) := ok_law_behind_deed T_D_law_put A_law_behind_deed
  have T_D_law_every_deed : DefOk P w K mg base "_law_every_deed" 1 ["recipe", "cells"] (sp_levery K (He.ga K "Recipe")) := ok_law_every_deed B A_law_every_deed
  have T_D_law_loose : DefOk P w K mg base "_law_loose" 2 ["recipe", "state", "deed"] (sp_lloose K (He.ga K "Recipe")) := ok_law_loose B T_D_law_put A_law_loose
  have T_D_law_cut_deed : DefOk P w K mg base "_law_cut_deed" 3 ["recipe", "state", "deed"] (sp_lcut K (He.ga K "Recipe")) := ok_law_cut_deed T_D_law_loose T_D_law_put A_law_cut_deed
  have T_D_law_day : DefOk P w K mg base "_law_day" 4 ["recipe", "cells", "course", "breaks"] (sp_lday K (He.ga K "Recipe")) := ok_law_day B T_D_law_begun T_D_law_cut_deed T_D_law_loose A_law_day
  have T_D_law_drawn_deed : DefOk P w K mg base "_law_drawn_deed" 3 ["purse", "recipe", "cells"] (sp_ldrawn K (He.ga K "Recipe")) := ok_law_drawn_deed B T_D_law_draw A_law_drawn_deed
  have T_D_law_right_deed : DefOk P w K mg base "_law_right_deed" 4 ["purse", "recipe", "state"] (sp_lright_deed K (He.ga K "Recipe")) := ok_law_right_deed B T_D_law_every_deed T_D_law_wrongs T_D_law_one_of T_D_law_draw A_law_right_deed
  have T_D_law_right_course : DefOk P w K mg base "_law_right_course" 5 ["purse", "recipe", "cells", "most"] (sp_lright_course K (He.ga K "Recipe")) := ok_law_right_course B T_D_law_begun T_D_law_draw T_D_law_right_deed T_D_law_behind_deed A_law_right_course
  have T_D_law_small_device : DefOk P w K mg base "_law_small_device" 5 ["purse", "most_new", "most_old", "more"] (sp_lsmall K (He.ga K "Recipe")) := ok_law_small_device B T_D_law_recipe T_D_law_draw A_law_small_device
  have T_D_law_loose_course : DefOk P w K mg base "_law_loose_course" 4 ["purse", "recipe", "cells", "most"] (sp_lloose_course K (He.ga K "Recipe")) := ok_law_loose_course B T_D_law_begun T_D_law_draw T_D_law_drawn_deed T_D_law_every_deed T_D_law_loose T_D_law_one_of A_law_loose_course
  have T_D_law_days_right : DefOk P w K mg base "_law_days_right" 8 ["purse", "made", "recipe", "cells", "course"] (sp_days K (He.ga K "Recipe")) := ok_law_days_right B T_D_law_draw T_D_law_day T_D_day T_D_law_exact A_law_days_right
  exact ok_law B T_D_law_purse T_D_law_small_device T_D_law_made T_D_law_right_course T_D_law_loose_course T_D_law_days_right T_D_law_exact T_D_day T_D_states T_D_law_draw A_law
end Zm
open PySem PySem.W PySem.Calls PyProof.Rows
theorem PySem.Challenge.cw_sparecells_k26_whole_days_holds : PySem.Challenge.rw_sparecells_k26_whole_days.Holds := by
  w_on; o_law
  refine HandSHeadRun.head_any (r := Zm.RowK) (q := view (Zm.RowK).prog [63]) (H := Zm.hkK) (ob := Zm.obK) (M := 6000) (loose := Zm.others) (d := HandSHeadRun.topDef (Zm.RowK).prog 63) (kwd := []) Zm.obK_eq
    (by kernel_rfl) (fun s => by kernel_rfl) Zm.runK (by kernel_rfl) (by kernel_rfl) (by kernel_rfl) (by rfl) (by first | assumption | decide +kernel) (by decide +kernel) ⟨rfl, rfl, rfl, rfl, rfl, by decide +kernel⟩ ?hw ?hc
  case hw => w_witness2
  case hc =>
    refine L2.walk_ofE (l := PySem.Challenge.rw_sparecells_k26_whole_days) (n := 63) (k := 9) (x := "script") (CX := L2.CX0) rfl (by decide) (by kernel_rfl) ⟨rfl, by decide, by decide⟩ ?F (fun _ _ _ _ z => z)
    intro w mg fa h Y G hmg0
    obtain ⟨K, KX, c⟩ := Y
    have hmg : mg ("law" : PySem.Str) = some (.ref fa) := by
      have e : (HandSHeadRun.topDef (Zm.RowK).prog 63).name = ("law" : PySem.Str) := by kernel_rfl
      rw [← e]
      exact hmg0
    obtain ⟨fd, hb, hF⟩ := Zm.factsK (P := (PySem.Challenge.rw_sparecells_k26_whole_days).prog) (w := w) KX G hmg c
    exact ⟨K, fd, Zm.spLaw K, KX, hb, fun H a ns hl _ hS => ⟨a, ns, rfl, hS, fun _ => rfl⟩, hF⟩

